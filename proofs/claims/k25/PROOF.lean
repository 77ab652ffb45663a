import PyProof.Rows.All
import Wide.All
import OpenK.AllK
import Wide.FinOn
import Lean
import PyProof.EqAt
import PyProof.EqKinds
import PyProof.TupleCall
import PyProof.ZipIter
import PyProof.EnumMake
import PyProof.Rows.FactsT2
import PyProof.Rows.EnumRows
import PyProof.P3In
import PyProof.NeData
import PyProof.Rows.SumAny
import PyProof.Rows.MinMaxN
import PyProof.Rows.ListRangeD
import PyProof.Rows.Range3
import PyProof.Rows.RuleM_int
import PyProof.Rows.SortShell
import KE.KTryOn
import PyProof.ExcBaseAll.ValueError
import PyProof.RulesAs
import PyProof.ExcAttrAll.ValueError
import PyProof.Rows.RegTopCatchBFacts
import KE.RegKTryMore
import KE.RegKIsAll
import PySem.Challenge.RW_heapstill_k25_fire_refused
set_option Elab.async false
set_option linter.all false
set_option maxRecDepth 100000
def Za := @Option.bind_some
def Zb := @Option.map_eq_some_iff
def Zc := @List.mem_cons_of_mem
def Zd := @List.mem_append_left
def Ze := @List.mem_append_right
def Zf := @Bool.and_eq_true
def Zg := @List.getElem?_set_ne
def Zh := @List.mem_cons_self
def Zi := @List.getElem?_eq_some_iff
def Zj := @Nat.le_refl
def Zk := @PySem.Heap.lt_size
def Zl := @PySem.Heap.get?_push_of_some
def Zm := @List.mem_cons
def Zn := @List.size_toArray
def Zo := @Nat.lt_of_lt_of_le
def Zp := @List.length_append
def Zq := @List.lookup_cons
def Zr := @List.getElem?_set_self
def Zs := @List.length_map
def Zt := @List.map_cons
def Zu := @Nat.le_succ
def Zv := @Nat.le_trans
def Zw := @List.mem_singleton
def Zx := @List.getElem?_map
def Zy := @PySem.Heap.get?_push_size
def Zz := @List.getElem?_eq_none
def ZA := @Nat.ne_of_lt
def ZC := @Int.emod_nonneg
def ZD := @List.mem_append
def ZE := @Int.emod_lt_of_pos
def ZF := @Nat.lt_irrefl
def ZG := @List.count_eq_zero
def ZH := @List.mem_map
def ZI := @List.drop_eq_getElem_cons
def ZJ := @List.length_cons
def ZK := @PyProof.Rows.callWith_type1
def ZL := @Nat.zero_le
def ZM := @Array.length_toList
def ZN := @PySem.mem_of_lookup
def ZO := @Bool.false_ne_true
def ZP := @Option.map_some
def ZQ := @List.replicate_succ
def ZR := @Int.toNat_natCast
def ZS := @List.flatten_cons
def ZT := @List.count_append
def ZU := @List.eq_nil_of_length_eq_zero
def ZV := @List.length_range
def ZW := @List.all_eq_true
def ZX := @List.mem_range
def ZY := @List.getD_eq_getElem?_getD
def ZZ := @List.mem_filter
def Zaa := @List.map_append
def Zab := @List.getElem?_append_left
def Zac := @List.count_pos_iff
def Zad := @List.map_map
def Zae := @List.sum_cons
def Zaf := @List.nodup_nil
def Zag := @List.nodup_iff_count
def Zah := @List.append_nil
def Zai := @List.getElem?_range
def Zaj := @List.length_take
def Zak := @PySem.Heap.size_push
def Zal := @List.set_eq_take_append_cons_drop
def Zam := @List.nodup_cons
def Zan := @List.count_cons
def Zao := @PySem.W.kia_one
def Zap := @List.mem_of_getElem?
def Zaq := @Nat.lt_succ_of_lt
def Zar := @Bool.not_eq_true'
def Zas := @List.map_congr_left
def Zat := @List.length_drop
def Zau := @List.mem_filterMap
def Zav := @PyProof.Rows.boot_isinstance
def Zaw := @PySem.W.mg_of
def Zax := @List.append_assoc
def Zay := @Nat.lt_succ_self
def Zaz := @PySem.W.hideAll_get
def ZaA := @List.take_succ_cons
def ZaB := @List.map_eq_nil_iff
def ZaC := @Nat.eq_zero_or_pos
def ZaD := @PySem.W.cellsFrom_some
def ZaE := @List.map_nil
def ZaF := @List.reverse_cons
def ZaG := @List.nodup_append
def ZaH := @List.length_singleton
def ZaI := @List.take_append_drop
def ZaJ := @List.cons_append
def ZaK := @List.mem_flatten
def ZaL := @Nat.min_le_right
def ZaM := @Int.mul_le_mul_of_nonneg_right
def ZaN := @Nat.add_le_add_right
def ZaO := @Nat.pow_le_pow_right
def ZaP := @Int.add_mul
def ZaQ := @List.of_mem_zip
def ZaR := @List.length_set
def ZaS := @List.filterMap_cons
def ZaT := @List.length_reverse
def ZaU := @List.sum_append_int
def ZaV := @PySem.W.callWith_K
def ZaW := @List.getElem?_append_right
def ZaX := @List.getElem?_eq_none_iff
def ZaY := @Int.emod_eq_of_lt
def ZaZ := @List.getElem?_eq_getElem
def Zba := @List.getElem?_replicate
def Zbb := @List.foldlM_cons
def Zbc := @List.drop_length
def Zbd := @PySem.F.plainAttrs_list
def Zbe := @List.take_length
def Zbf := @PyProof.Rows.boot_list
def Zbg := @List.take_of_length_le
def Zbh := @List.range_succ
def Zbi := @List.mapM_cons
def Zbj := @Int.mul_nonneg
def Zbk := @List.take_zero
namespace L2
open PySem PySem.Spec PyProof.Rows
noncomputable abbrev Key := Sum Int Str
noncomputable def Qon : Key -> Value -> Bool
 | .inl k, v => Value.isInt k v
 | .inr x, v => Value.isStrOf x v
noncomputable def QsZ (w : World) : Key -> Int
 | .inl k => hashInt k
 | .inr x => hashStr w x
theorem Qau : ∀ {k : Key} {v : Value}, Qon k v = true -> (∃ i t, k = Sum.inl i /\ v = Value.int i t) ∨ (∃ x t, k = Sum.inr x /\ v = Value.str x t)
 | .inl i, v, h => by
  obtain ⟨t, e⟩ := Value.isInt_shape (k := i) (v := v) h
  exact .inl ⟨i, t, rfl, e⟩
 | .inr x, v, h => by
  obtain ⟨t, e⟩ := Value.isStrOf_shape (x := x) (v := v) h
  exact .inr ⟨x, t, rfl, e⟩
theorem Qrd (a b : Int) : decide ((Sum.inl a : Key) = Sum.inl b) = (a == b) := by
 by_cases e : a = b
 ·subst e; simp
 ·have h : ¬ (Sum.inl a : Key) = Sum.inl b := λ q => e (Sum.inl.inj q)
  rw [decide_eq_false h]
  exact (beq_eq_false_iff_ne.mpr e).symm
theorem QqT (a b : Str) : decide ((Sum.inr a : Key) = Sum.inr b) = decide (a = b) := by
 by_cases e : a = b
 ·subst e; simp
 ·have h : ¬ (Sum.inr a : Key) = Sum.inr b := λ q => e (Sum.inr.inj q)
  rw [decide_eq_false h, decide_eq_false e]
theorem QqN (a : Int) (b : Str) : decide ((Sum.inl a : Key) = Sum.inr b) = false := decide_eq_false (λ q => nomatch q)
theorem Qrj (a : Str) (b : Int) : decide ((Sum.inr a : Key) = Sum.inl b) = false := decide_eq_false (λ q => nomatch q)
noncomputable def QhF (prog : Program) (w : World) : PySem.KeyKind prog w Key where
 is := Qon
 hash := QsZ w
 inj := λ v a b ha hb => by
  rcases Qau ha with ⟨i, t, rfl, rfl⟩ | ⟨x, t, rfl, rfl⟩
  ·rcases Qau hb with ⟨j, u, rfl, e⟩ | ⟨y, u, rfl, e⟩
   ·injection e with e1 _; rw [e1]
   ·exact nomatch e
  ·rcases Qau hb with ⟨j, u, rfl, e⟩ | ⟨y, u, rfl, e⟩
   ·exact nomatch e
   ·injection e with e1 _; rw [e1]
 byValue := λ k v h => by
  rcases Qau h with ⟨i, t, rfl, rfl⟩ | ⟨x, t, rfl, rfl⟩ <;> rfl
 pyHash := λ hv h => by
  rcases Qau hv with ⟨i, t, rfl, rfl⟩ | ⟨x, t, rfl, rfl⟩
  ·exact wpAny_pyHash_int h
  ·exact wpAny_pyHash_str h
 eqBool := λ hu hv h => by
  rcases Qau hu with ⟨i, t, rfl, rfl⟩ | ⟨x, t, rfl, rfl⟩
  ·rcases Qau hv with ⟨j, u, rfl, rfl⟩ | ⟨y, u, rfl, rfl⟩
   ·rw [Qrd] at h; exact wpAny_eqBool_int h
   ·rw [QqN] at h; exact SeqAt.EqAt.int_str i t y u _ _ _ _ h
  ·rcases Qau hv with ⟨j, u, rfl, rfl⟩ | ⟨y, u, rfl, rfl⟩
   ·rw [Qrj] at h; exact SeqAt.EqAt.str_int x t j u _ _ _ _ h
   ·rw [QqT] at h; exact wpAny_eqBool_str h
 «strs» := λ k x t v h => by
  rcases Qau h with ⟨i, u, rfl, e⟩ | ⟨y, u, rfl, e⟩
  ·exact nomatch e
  ·injection e with e1 _
   subst e1
   cases v <;> rfl
end L2
namespace L2
open PySem PySem.Spec PyProof.Rows
inductive V where
 | non | bl (b : Bool) | int (i : Int) | str (x : Str) | byt (b : Array UInt8) | flt (b : UInt64) | ref (a : Addr) | ty (n : String)
 deriving DecidableEq
noncomputable def RelV : V -> Value -> Prop
 | .non, u => u = Value.none
 | .bl b, u => u = Value.bool b
 | .int i, u => ∃ t, u = Value.int i t
 | .str x, u => ∃ t, u = Value.str x t
 | .byt b, u => ∃ t, u = Value.bytes b t
 | .flt b, u => ∃ t, u = Value.float b t
 | .ref a, u => u = Value.ref a
 | .ty n, u => u = Value.type n
noncomputable abbrev Ql : List V -> List Value -> Prop := Paired RelV
theorem Ql.length {xs : List V} {us : List Value} (r : Ql xs us) : xs.length = us.length := Paired.length r
theorem Ql.get : ∀ {xs : List V} {us : List Value} {i : Nat} {x : V}, Ql xs us -> xs[i]? = some x -> ∃ u, us[i]? = some u /\ RelV x u
 | _, _, _, _, .nil, e => by simp at e
 | _, _, 0, _, .cons r _, e => by simp at e; subst e; exact ⟨_, rfl, r⟩
 | _, _, i + 1, x, .cons _ t, e => by
  obtain ⟨u, h1, h2⟩ := Ql.get (i := i) (x := x) t (by simpa using e)
  exact ⟨u, by simpa using h1, h2⟩
theorem Ql.set {x : V} {u : Value} (r : RelV x u) : ∀ {xs : List V} {us : List Value} (i : Nat), Ql xs us -> Ql (xs.set i x) (us.set i u)
 | _, _, _, .nil => .nil
 | _, _, 0, .cons _ t => .cons r t
 | _, _, i + 1, .cons q t => .cons q (Ql.set r i t)
theorem Ql.append : ∀ {xs ys : List V} {us ws : List Value}, Ql xs us -> Ql ys ws -> Ql (xs ++ ys) (us ++ ws)
 | _, _, _, _, .nil, s => s
 | _, _, _, _, .cons r t, s => .cons r (Ql.append t s)
theorem Ql.take : ∀ {xs : List V} {us : List Value} (n : Nat), Ql xs us -> Ql (xs.take n) (us.take n)
 | _, _, 0, _ => .nil
 | _, _, _ + 1, .nil => .nil
 | _, _, n + 1, .cons r t => .cons r (Ql.take n t)
theorem Ql.drop : ∀ {xs : List V} {us : List Value} (n : Nat), Ql xs us -> Ql (xs.drop n) (us.drop n)
 | _, _, 0, r => r
 | _, _, _ + 1, .nil => .nil
 | _, _, n + 1, .cons _ t => Ql.drop n t
theorem Ql.none_of : ∀ {xs : List V} {us : List Value} {i : Nat}, Ql xs us -> xs[i]? = none -> us[i]? = none := λ {xs us i} r e => by
 have h1 := r.length
 have h2 : xs.length <= i := ZaX.mp e
 exact ZaX.mpr (by omega)
noncomputable def Qhl : Option V -> Option Value -> Prop
 | some v, some u => RelV v u
 | none, none => True
 | _, _ => False
noncomputable def KV {κ : Type} : List (κ × V) -> List (κ × Value) -> Prop := Paired λ (p : κ × V) (q : κ × Value) => p.1 = q.1 /\ RelV p.2 q.2
noncomputable def kV : Key -> V
 | .inl i => .int i
 | .inr x => .str x
inductive HO where
 | lst (xs : List V)
 | tup (xs : List V)
 | dK (kvs : List (Key × V)) | dT (kvs : List (List Key × V))
 | set (S : Int -> Bool) (n : Nat)
 | ins (C dx : Addr) (fs : List (Str × V))
 | own (x : Addr)
 | xd (fs : List (Str × V))
 | met (f x : Addr)
 | rng (lo hi : Int)
 | frz (o : Obj) (u : HO)
 | tbl (ps : Array Value)
 | ext (φ : Heap -> Prop)
noncomputable abbrev Hp := Addr -> Option HO
noncomputable def upd (H : Hp) (a : Addr) (o : HO) : Hp := λ b => if b = a then some o else H b
theorem Q4 {H : Hp} {a : Addr} {o : HO} : upd H a o a = some o := by unfold upd; rw [if_pos rfl]
theorem Qr {H : Hp} {a b : Addr} {o : HO} (h : b ≠ a) : upd H a o b = H b := by unfold upd; rw [if_neg h]
theorem Qim {H : Hp} {a b : Addr} {o u : HO} (h : H a = some o) (h' : H b = some u) (d : o ≠ u) : a ≠ b := by
 intro e; subst e; rw [h] at h'; exact d (Option.some.inj h')
theorem Qa0 {H : Hp} {a b : Addr} {o : HO} (h : H a = some o) (h' : H b = none) : a ≠ b := by
 intro e; subst e; rw [h] at h'; cases h'
section
variable (P : Program) (w : World)
noncomputable def QaY (H : Hp) (h : Heap) (a : Addr) : HO -> Prop
 | .lst xs => xs.length <= sizeLine /\ ∃ (its : List Value) (n : Nat), Ql xs its /\ h.get? a = some { cls := .type "list", data := .seq its.toArray n }
 | .tup xs => xs.length <= sizeLine /\ ∃ its : List Value, Ql xs its /\ IsTup h a its.toArray
 | .dK kvs => kvs.length <= sizeLine /\ (a == sysModules) = false /\ ∃ vs, KV kvs vs /\ h.DictOf (QhF P w) a vs
 | .dT kvs => kvs.length <= sizeLine /\ (a == sysModules) = false /\ ∃ xs : List (List Key × Addr × Value),
   Paired (λ (p : List Key × V) (q : List Key × Addr × Value) => p.1 = q.1 /\ H q.2.1 = some (.tup (p.1.map kV)) /\ RelV p.2 q.2.2) kvs xs ∧
   ∃ o es ep, h.get? a = some o /\ o.ExactDict /\ o.data = .dict es ep /\ es.toList = xs.map (entryOfKey (tupleKind (QhF P w))) /\ (xs.map (·.1)).Nodup
 | .set S n => h.SetOf (intKind P w) a S n
 | .ins C dx fs => H dx = some (.own a) /\ fs.length <= 1000 /\ dx ≠ a /\ h.get? a = some (PySem.W.instObj C dx) ∧
   ∃ mA, h.Ns1 dx mA /\ (∀ f, Qhl (fs.lookup f) (mA f)) /\ PySem.Within mA (fs.map (·.1))
 | .own _ => ∃ o, h.get? a = some o
 | .xd fs => ∃ mA, h.Ns1 a mA /\ ∀ f, Qhl (fs.lookup f) (mA f)
 | .rng lo hi => ∃ t u v, h.get? a = some { cls := .type "range", data := .fields #[.int lo t, .int hi u, .int 1 v] }
 | .frz o u => h.get? a = some o /\ QaY H h a u
 | .tbl ps => h.get? a = some { cls := .none, data := .fields ps }
 | .met f x => h.get? a = some (PySem.W.methodObj (.ref f) (.ref x))
 | .ext φ => φ h /\ (∃ o, h.get? a = some o) /\ ∀ h1 h2 : Heap, φ h1 -> (∀ o, h1.get? a = some o -> h2.get? a = some o) -> φ h2
def HOk (H : Hp) (h : Heap) : Prop := ∀ a o, H a = some o -> QaY P w H h a o
end
section
variable {P : Program} {w : World} {H H' : Hp} {h h' : Heap} {a : Addr} {o : HO}
theorem QaY.lt (x : QaY P w H h a o) : a < h.objs.size := by
 cases o with
 | lst xs => obtain ⟨_, _, _, _, e⟩ := x; exact Zk e
 | tup xs => obtain ⟨_, _, _, p⟩ := x; exact p.lt
 | dK kvs => obtain ⟨_, _, _, _, o, _, _, e, _⟩ := x; exact Zk e
 | dT kvs => obtain ⟨_, _, _, _, o, _, _, e, _⟩ := x; exact Zk e
 | set S n => obtain ⟨o, _, _, _, e, _⟩ := x; exact Zk e
 | ins C dx fs => obtain ⟨_, _, _, e, _⟩ := x; exact Zk e
 | own y => obtain ⟨_, e⟩ := x; exact Zk e
 | xd fs => obtain ⟨_, ⟨_, _, _, e, _⟩, _⟩ := x; exact Zk e
 | rng lo hi => obtain ⟨_, _, _, e⟩ := x; exact Zk e
 | frz ob u => obtain ⟨e, _⟩ := x; exact Zk e
 | tbl ps => exact Zk (show h.get? a = some _ from x)
 | met f y => exact Zk (show h.get? a = some _ from x)
 | ext φ => obtain ⟨_, ⟨_, e⟩, _⟩ := x; exact Zk e
theorem Paired.Qrn {α β : Type} {F G : α -> β -> Prop} : ∀ {l₁ : List α} {l₂ : List β}, Paired F l₁ l₂ -> (∀ a b, F a b -> G a b) -> Paired G l₁ l₂
 | _, _, .nil, _ => .nil
 | _, _, .cons r t, f => .cons (f _ _ r) (Paired.Qrn t f)
theorem QaY.QdS (x : QaY P w H h a o) (k : ∀ b u, (b = a ∨ H b = some (.own a)) -> h.get? b = some u -> h'.get? b = some u)
  (ho : ∀ b, H b = some (.own a) -> H' b = some (.own a)) (ht : ∀ b xs, H b = some (.tup xs) -> H' b = some (.tup xs)) : QaY P w H' h' a o := by
 induction o with
 | lst xs => obtain ⟨z, its, n, r, e⟩ := x; exact ⟨z, its, n, r, k _ _ (.inl rfl) e⟩
 | tup xs => obtain ⟨z, its, r, ob, e, c⟩ := x; exact ⟨z, its, r, ob, k _ _ (.inl rfl) e, c⟩
 | dK kvs => obtain ⟨z, y, vs, r, ob, es, ep, e, c⟩ := x; exact ⟨z, y, vs, r, ob, es, ep, k _ _ (.inl rfl) e, c⟩
 | dT kvs =>
  obtain ⟨z, y, xs, r, ob, es, ep, e, c⟩ := x
  exact ⟨z, y, xs, Paired.Qrn r λ p q z => ⟨z.1, ht _ _ z.2.1, z.2.2⟩, ob, es, ep, k _ _ (.inl rfl) e, c⟩
 | set S n => obtain ⟨ob, es, ep, t, e, c⟩ := x; exact ⟨ob, es, ep, t, k _ _ (.inl rfl) e, c⟩
 | ins C dx fs =>
  obtain ⟨d, z, ne, e, mA, ⟨od, es, ep, e2, c⟩, r⟩ := x
  exact ⟨ho _ d, z, ne, k _ _ (.inl rfl) e, mA, ⟨od, es, ep, k _ _ (.inr d) e2, c⟩, r⟩
 | own y => obtain ⟨ob, e⟩ := x; exact ⟨ob, k _ _ (.inl rfl) e⟩
 | xd fs => obtain ⟨mA, ⟨od, es, ep, e, c⟩, r⟩ := x; exact ⟨mA, ⟨od, es, ep, k _ _ (.inl rfl) e, c⟩, r⟩
 | rng lo hi => obtain ⟨t, u, v, e⟩ := x; exact ⟨t, u, v, k _ _ (.inl rfl) e⟩
 | frz ob u ih => obtain ⟨e, q⟩ := x; exact ⟨k _ _ (.inl rfl) e, ih q⟩
 | tbl ps =>
  have e : h.get? a = some { cls := .none, data := .fields ps } := x
  show h'.get? a = some { cls := .none, data := .fields ps }
  exact k a _ (.inl rfl) e
 | met f y =>
  have e : h.get? a = some (PySem.W.methodObj (.ref f) (.ref y)) := x
  show h'.get? a = some (PySem.W.methodObj (.ref f) (.ref y))
  exact k a _ (.inl rfl) e
 | ext φ => obtain ⟨p, ⟨o, e⟩, st⟩ := x; exact ⟨st _ _ p λ o q => k _ _ (.inl rfl) q, ⟨o, k _ _ (.inl rfl) e⟩, st⟩
theorem HOk.lt (x : HOk P w H h) (e : H a = some o) : a < h.objs.size := (x a o e).lt
theorem HOk.fresh (x : HOk P w H h) (e : h.objs.size <= a) : H a = none := by
 cases q : H a with
 | none => rfl
 | some u => exact absurd (Zo (x.lt q) e) (ZF _)
theorem HOk.kept (x : HOk P w H h) (k : ∀ b u, h.get? b = some u -> h'.get? b = some u) : HOk P w H h' := λ a o e =>
 (x a o e).QdS (λ b u _ q => k b u q) (λ _ q => q) λ _ _ q => q
theorem HOk.laid (x : HOk P w H h) (k : ∀ b u, h.get? b = some u -> h'.get? b = some u) (hp : h.objs.size <= a) (new : QaY P w (upd H a o) h' a o) : HOk P w (upd H a o) h' := λ b u e => by
 have hn := x.fresh hp
 by_cases hb : b = a
 ·subst hb; rw [Q4] at e; cases e; exact new
 ·rw [Qr hb] at e
  exact (x b u e).QdS (λ c v _ q => k c v q) (λ c q => by rw [Qr (Qa0 q hn)]; exact q) λ c xs q => by rw [Qr (Qa0 q hn)]; exact q
end
def Rd (H : Hp) (a : Addr) (u : HO) : Prop := H a = some u ∨ ∃ o, H a = some (.frz o u)
theorem Rd.of {H : Hp} {a : Addr} {u : HO} (h : H a = some u) : Rd H a u := .inl h
theorem Rd.ok {P : Program} {w : World} {H : Hp} {h : Heap} {a : Addr} {u : HO} (r : Rd H a u) (x : HOk P w H h) : QaY P w H h a u := by
 rcases r with r | ⟨o, r⟩
 ·exact x a u r
 ·obtain ⟨_, q⟩ := x a _ r
  exact q
noncomputable def Mut : Option HO -> Prop
 | some (.lst _) => True
 | some (.dK _) => True
 | some (.dT _) => True
 | some (.set _ _) => True
 | some (.ins _ _ _) => True
 | some (.ext _) => True
 | _ => False
section
variable {P : Program} {w : World} {H : Hp} {h h' : Heap} {x e : Addr} {o' : HO}
theorem HOk.write (ok : HOk P w H h) (mu : Mut (H x)) (he : e = x ∨ H e = some (.own x)) (k : ∀ b u, b ≠ e -> h.get? b = some u -> h'.get? b = some u) (heo : ∃ u, h'.get? e = some u)
  (new : QaY P w (upd H x o') h' x o') : HOk P w (upd H x o') h' := λ b u q => by
 have nown : ∀ c y, H c = some (.own y) -> c ≠ x := λ c y r z => by subst z; rw [r] at mu; exact mu
 have ntup : ∀ c xs, H c = some (.tup xs) -> c ≠ x := λ c xs r z => by subst z; rw [r] at mu; exact mu
 by_cases hb : b = x
 ·subst hb; rw [Q4] at q; cases q; exact new
 ·rw [Qr hb] at q
  by_cases hbe : b = e
  ·have q' : H b = some (.own x) := by
    rcases he with z | z
    ·exact absurd (hbe.trans z) hb
    ·rw [hbe]; exact z
   rw [q] at q'; cases q'
   obtain ⟨v, hv⟩ := heo
   exact ⟨v, by rw [hbe]; exact hv⟩
  ·refine (ok b u q).QdS (λ c v hc r => k c v ?_ r) (λ c r => by rw [Qr (nown c b r)]; exact r) λ c xs r => by rw [Qr (ntup c xs r)]; exact r
   rcases hc with rfl | hc
   ·exact hbe
   ·rintro rfl
    rcases he with z | z
    ·exact nown c b hc z
    ·rw [hc] at z; cases z; exact hb rfl
end
structure Un (fs ex : List Addr) (H H' : Hp) (h h' : Heap) : Prop where
 keep : ∀ b o, h.get? b = some o -> H b = none -> b ∉ fs -> b ∉ ex -> h'.get? b = some o
 slot : ∀ b o, h.get? b = some o -> H b = none -> b ∈ fs -> b ∉ ex -> ∃ sl, h'.get? b = some { o with slots := sl }
 free : ∀ b o, h.get? b = some o -> H b = none -> b ∉ ex -> H' b = none
 there : ∀ b o, h.get? b = some o -> b ∉ ex -> ∃ o', h'.get? b = some o'
 tups : ∀ b xs, H b = some (.tup xs) -> H' b = some (.tup xs)
 frzs : ∀ b o u, H b = some (.frz o u) -> H' b = some (.frz o u)
 tbls : ∀ b ps, H b = some (.tbl ps) -> ∃ more, H' b = some (.tbl (ps ++ more))
section
variable {fs fs' ex ex' : List Addr} {H H1 H2 : Hp} {h h1 h2 h' : Heap} {a x e : Addr} {o : HO}
theorem Un.any (u : Un fs ex H H1 h h1) {b : Addr} {ob : Obj} (q : h.get? b = some ob) (n : H b = none) (hx : b ∉ ex) : ∃ sl, h1.get? b = some { ob with slots := sl } := by
 by_cases hb : b ∈ fs
 ·exact u.slot b ob q n hb hx
 ·exact ⟨ob.slots, u.keep b ob q n hb hx⟩
theorem Un.trans (a : Un fs ex H H1 h h1) (b : Un fs ex H1 H2 h1 h2) : Un fs ex H H2 h h2 where
 keep := λ c ob q n hc hx => b.keep c ob (a.keep c ob q n hc hx) (a.free c ob q n hx) hc hx
 slot := λ c ob q n hc hx => by
  obtain ⟨sl, e1⟩ := a.slot c ob q n hc hx
  obtain ⟨sl', e2⟩ := b.slot c _ e1 (a.free c ob q n hx) hc hx
  exact ⟨sl', e2⟩
 free := λ c ob q n hx => by
  obtain ⟨o', e1⟩ := a.there c ob q hx
  exact b.free c o' e1 (a.free c ob q n hx) hx
 there := λ c ob q hx => by
  obtain ⟨o', e1⟩ := a.there c ob q hx
  exact b.there c o' e1 hx
 tups := λ c xs q => b.tups c xs (a.tups c xs q)
 frzs := λ c ob xs q => b.frzs c ob xs (a.frzs c ob xs q)
 tbls := λ c ps q => by
  obtain ⟨m1, e1⟩ := a.tbls c ps q
  obtain ⟨m2, e2⟩ := b.tbls c _ e1
  exact ⟨m1 ++ m2, by rw [e2, Array.append_assoc]⟩
theorem Un.kept (k : ∀ b u, h.get? b = some u -> h'.get? b = some u) : Un fs ex H H h h' :=
 ⟨λ b ob q _ _ _ => k b ob q, λ b ob q _ _ _ => ⟨ob.slots, k b ob q⟩, λ _ _ _ n _ => n, λ b ob q _ => ⟨ob, k b ob q⟩, λ _ _ q => q, λ _ _ _ q => q, λ _ ps q => ⟨#[], by rw [q]; simp⟩⟩
theorem Un.refl : Un fs ex H H h h := Un.kept λ _ _ q => q
theorem Un.laid (k : ∀ b u, h.get? b = some u -> h'.get? b = some u) (hp : h.objs.size <= a) (hn : H a = none) : Un fs ex H (upd H a o) h h' where
 keep := λ b u q _ _ _ => k b u q
 slot := λ b u q _ _ _ => ⟨u.slots, k b u q⟩
 free := λ b u q n _ => by rw [Qr (ZA (Zo (Zk q) hp))]; exact n
 there := λ b u q _ => ⟨u, k b u q⟩
 tups := λ b xs q => by rw [Qr (Qa0 q hn)]; exact q
 frzs := λ b u xs q => by rw [Qr (Qa0 q hn)]; exact q
 tbls := λ b ps q => ⟨#[], by rw [Qr (Qa0 q hn), q]; simp⟩
theorem Un.write (mu : Mut (H x)) (he : e = x ∨ H e = some (.own x)) (k : ∀ b u, b ≠ e -> h.get? b = some u -> h'.get? b = some u) (heo : ∃ u, h'.get? e = some u) : Un fs ex H (upd H x o) h h' := by
 have hx : ∀ b, H b = none -> b ≠ x := λ b n z => by subst z; rw [n] at mu; exact mu
 have hb : ∀ b, H b = none -> b ≠ e := λ b n z => by
  subst z
  rcases he with r | r
  ·exact hx b n r
  ·rw [n] at r; cases r
 have hm : ∀ b u, H b = some u -> ¬ Mut (some u) -> b ≠ x := λ b u q nm z => by subst z; rw [q] at mu; exact nm mu
 refine ⟨λ b u q n _ _ => k b u (hb b n) q, λ b u q n _ _ => ⟨u.slots, k b u (hb b n) q⟩, λ b u q n _ => by rw [Qr (hx b n)]; exact n, λ b u q _ => ?_,
  λ b xs q => by rw [Qr (hm b _ q λ z => z)]; exact q, λ b u xs q => by rw [Qr (hm b _ q λ z => z)]; exact q, λ b ps q => ⟨#[], by rw [Qr (hm b _ q λ z => z), q]; simp⟩⟩
 by_cases hbe : b = e
 ·subst hbe; exact heo
 ·exact ⟨u, k b u hbe q⟩
theorem Un.mono (u : Un fs ex H H1 h h1) (hs : ∀ b ∈ fs, b ∈ fs') (hx : ∀ b ∈ ex, b ∈ ex') : Un fs' ex' H H1 h h1 :=
 ⟨λ b ob q n hb he => u.keep b ob q n (λ z => hb (hs b z)) λ z => he (hx b z), λ _ _ q n _ he => u.any q n λ z => he (hx _ z), λ b ob q n he => u.free b ob q n λ z => he (hx b z), λ b ob q he => u.there b ob q λ z => he (hx b z), u.tups, u.frzs, u.tbls⟩
end
noncomputable def trk (h : Heap) (H : Hp) : List Addr := (List.range h.objs.size).filter λ a => (H a).isSome
noncomputable def QeD (h : Heap) (H : Hp) : Heap := PySem.W.hideAll h (trk h H)
theorem Qli (h : Heap) (H : Hp) : (QeD h H).objs.size = h.objs.size := PySem.W.hideAll_size _ _
theorem Qm6 {h : Heap} {H : Hp} {b : Addr} {o : Obj} (e : h.get? b = some o) (n : H b = none) : (QeD h H).get? b = some o :=
 Zaz _ e λ hm => by
  have q : (H b).isSome = true := (ZZ.mp hm).2
  rw [n] at q; simp at q
theorem QpQ {h : Heap} {H : Hp} {b : Addr} {o : Obj} (e : (QeD h H).get? b = some o) : h.get? b = some o /\ H b = none := by
 have e' : h.get? b = some o := PySem.W.of_hideAll (trk h H) e
 refine ⟨e', ?_⟩
 cases q : H b with
 | none => rfl
 | some x =>
  have hm : b ∈ trk h H := ZZ.mpr ⟨ZX.mpr (Zk e'), by simp [q]⟩
  have z : (QeD h H).get? b = none := PySem.W.hideAll_none (trk h H) hm
  rw [z] at e; cases e
noncomputable def QoQ (g h : Heap) (L : Addr) : List (Addr × Obj) := (List.range h.objs.size).filterMap λ a => if a = L ∨ (g.get? a).isSome = true then none else (h.get? a).map λ o => (a, o)
noncomputable def rest (g h : Heap) (L d : Addr) : List (Addr × Obj) := (QoQ g h L).filter λ p => decide (p.1 ≠ d)
end L2
namespace L2
open PySem PySem.Spec PyProof.Rows
structure Mod (K : PySem.W.Frag) (mg : Str -> Option Value) (base : Heap) : Prop where
 kin : K.In base
 glob : base.Ns mainGlobals mg
 blt : ∃ mb, base.Ns builtinsNs mb /\ ∀ x : Str, x ≠ "__name__" -> mb x = bootBuiltins x
 nolimit : base.NoLimit
structure Cx where
 prog : Program
 w : World
 K : PySem.W.Frag
 mg : Str -> Option Value
 base : Heap
 A : Around
 N : List Str
 s₀ : Shared
 H₀ : Hp
 env : Env
 outer : List Env
 stack : List Env
 ex : List Addr
 fn : Str -> Bool
 calm : Bool
 pn : List (Addr × Obj)
 xe : Value -> Shared -> Prop
noncomputable def frs (l : List Env) : List Addr := l.filterMap (·.frame)
noncomputable abbrev Cx.fs (X : Cx) : List Addr := frs X.outer
def Vis (sc : Scope) (x : Str) : Prop := sc.names.lookup x = some .local ∨ sc.names.lookup x = some .cell ∨ sc.names.lookup x = some .free
def Loc (sc : Scope) (x : Str) : Prop := sc.names.lookup x = some .local ∨ sc.names.lookup x = some .cell
def Look (env : Env) (h : Heap) (m : Str -> Option Value) (x : Str) (u : Value) : Prop :=
 (env.kindOf x = some .local /\ m x = some u) ∨ ((env.kindOf x = some .cell ∨ env.kindOf x = some .free) /\ ∃ c, env.cells.lookup x = some c /\ h.IsCell c (some u))
structure Cx.Ok (X : Cx) : Prop where
 mod : Mod X.K X.mg X.base
 kind : X.env.scope.kind = .function
 glob : X.env.globals = mainGlobals
 blt : X.env.builtins = builtinsNs
 above : X.s₀.heap.objs.size <= X.env.locals
 inj : ∀ x y c, X.env.cells.lookup x = some c -> X.env.cells.lookup y = some c -> x = y
 has : ∀ x, (X.env.kindOf x = some .cell ∨ X.env.kindOf x = some .free) -> ∃ c, X.env.cells.lookup x = some c
 cab : ∀ x c, X.fn x = true -> X.env.cells.lookup x = some c -> X.s₀.heap.objs.size <= c
 hd : X.calm = true -> X.A.handled = none
 frames : X.A.frames = some X.stack
 stk : X.stack = X.outer ∨ (X.stack = X.env :: X.outer /\ X.env.frame = some X.env.locals)
 exf : ∀ b ∈ X.ex, b ≠ X.env.locals /\ ∀ x c, X.env.cells.lookup x = some c -> c ≠ b
 bs : ∀ b o, X.base.get? b = some o -> X.s₀.heap.get? b = some o /\ X.H₀ b = none
 bsz : X.base.objs.size <= X.s₀.heap.objs.size
 noex : ∀ b o, X.base.get? b = some o -> b ∉ X.ex
 exfs : ∀ b ∈ X.ex, b ∉ X.fs
 Qb2 : X.s₀.heap.FunFrames X.base X.outer
 frf : ∀ b ∈ X.fs, X.H₀ b = none
structure Inv (X : Cx) (pins : List (Addr × Obj)) (σ : List (Option V)) (H : Hp) (s : Shared) : Prop where
 ok : X.Ok
 os : s.os = X.s₀.os
 bare : AllBare s.gens
 base : Un X.fs X.ex X.H₀ H X.s₀.heap s.heap
 loc : ∃ m, s.heap.Ns X.env.locals m /\ ∀ (i : Nat) (x : Str) (v : V), X.N[i]? = some x -> σ[i]? = some (some v) -> Vis X.env.scope x -> ∃ u, RelV v u /\ Look X.env s.heap m x u
 cell : ∀ x c, X.env.cells.lookup x = some c -> ∃ v, s.heap.IsCell c v
 free : H X.env.locals = none
 freeC : ∀ x c, X.env.cells.lookup x = some c -> H c = none
 pin : ∀ p ∈ X.pn ++ pins, s.heap.get? p.1 = some p.2 /\ H p.1 = none /\ p.1 ≠ X.env.locals /\ p.1 ∉ X.fs /\ ∀ v, p.2.data ≠ .cell v
 hok : HOk X.prog X.w H s.heap
 len : σ.length = X.N.length
section
variable {X : Cx} {pins : List (Addr × Obj)} {σ : List (Option V)} {H H' : Hp} {s : Shared} {h' : Heap}
theorem Cx.Ok.Qs9 (ok : X.Ok) {b : Addr} {o : Obj} (e : X.base.get? b = some o) : b ∉ X.fs := λ hb => by
 have := (ok.Qb2.mem hb).1
 rw [e] at this; cases this
theorem Inv.bs (I : Inv X pins σ H s) : ∀ b o, X.base.get? b = some o -> s.heap.get? b = some o /\ H b = none := λ b o e =>
 ⟨I.base.keep b o (I.ok.bs b o e).1 (I.ok.bs b o e).2 (I.ok.Qs9 e) (I.ok.noex b o e), I.base.free b o (I.ok.bs b o e).1 (I.ok.bs b o e).2 (I.ok.noex b o e)⟩
theorem Inv.bk (I : Inv X pins σ H s) : ∀ b o, X.base.get? b = some o -> s.heap.get? b = some o := λ b o e => (I.bs b o e).1
theorem Inv.mod (I : Inv X pins σ H s) : Mod X.K X.mg X.base := I.ok.mod
theorem Inv.kIn (I : Inv X pins σ H s) : X.K.In s.heap := I.ok.mod.kin.keeps I.bk
theorem Inv.nolimit (I : Inv X pins σ H s) : s.heap.NoLimit := I.ok.mod.nolimit.keeps I.bk
theorem Inv.fr (I : Inv X pins σ H s) : ∃ m, Fr X.base X.env.locals s.heap m :=
 let ⟨m, hn, _⟩ := I.loc
 ⟨m, hn, I.bk, Zv I.ok.bsz I.ok.above⟩
theorem Inv.lt (I : Inv X pins σ H s) : X.env.locals < s.heap.objs.size := let ⟨_, hn, _⟩ := I.loc; hn.lt
theorem Inv.sz (I : Inv X pins σ H s) : X.s₀.heap.objs.size <= s.heap.objs.size := Zv I.ok.above (Nat.le_of_lt I.lt)
theorem Inv.Qtg (I : Inv X pins σ H s) {a : Addr} (h : s.heap.objs.size <= a) : a ∉ X.fs := λ hb => by
 obtain ⟨_, o, ho, _⟩ := I.ok.Qb2.mem hb
 exact absurd (Zo (Zk ho) (Zv I.sz h)) (ZF _)
theorem Inv.cne (I : Inv X pins σ H s) : ∀ x c, X.env.cells.lookup x = some c -> c ≠ X.env.locals := λ x c e z => by
 obtain ⟨v, o, ho, hd⟩ := I.cell x c e
 obtain ⟨m, ⟨o', es, ep, ho', hd', _⟩, _⟩ := I.loc
 rw [z, ho'] at ho; cases ho; rw [hd'] at hd; cases hd
theorem Inv.Qb2 (I : Inv X pins σ H s) : s.heap.FunFrames X.base X.outer := by
 have all : ∀ (l : List Env), (∀ b ∈ frs l, b ∈ X.fs) -> X.s₀.heap.FunFrames X.base l -> s.heap.FunFrames X.base l := by
  intro l
  induction l with
  | nil => intro _ _; trivial
  | cons env r ih =>
   intro hs hl
   obtain ⟨hk, ⟨L, o, hf, hn, ho, hd⟩, hr⟩ := hl
   have hL : L ∈ X.fs := hs L (by unfold frs; rw [ZaS, hf]; exact Zh)
   obtain ⟨sl, e⟩ := I.base.slot L o ho (I.ok.frf L hL) hL λ z => I.ok.exfs L z hL
   exact ⟨hk, ⟨L, _, hf, hn, e, hd⟩, ih (λ b hb => hs b (by unfold frs; rw [ZaS, hf]; exact Zc _ hb)) hr⟩
 exact all X.outer (λ _ hb => hb) I.ok.Qb2
theorem Inv.stack (I : Inv X pins σ H s) : s.heap.FunFrames X.base X.stack := by
 rcases I.ok.stk with e | ⟨e, hf⟩
 ·rw [e]; exact I.Qb2
 ·rw [e]
  obtain ⟨m, hn, _⟩ := I.loc
  refine .cons (by rw [I.ok.kind]; decide) hf hn ?_ I.Qb2
  exact Heap.get?_none_of_le (Zv I.ok.bsz I.ok.above)
theorem Inv.Qdl (I : Inv X pins σ H s) : ∀ b ∈ frs X.stack, b ∈ X.env.locals :: X.fs := λ b hb => by
 rcases I.ok.stk with e | ⟨e, hf⟩
 ·rw [e] at hb; exact Zc _ hb
 ·rw [e] at hb
  unfold frs at hb
  rw [ZaS, hf] at hb
  exact hb
theorem Inv.Qhw (I : Inv X pins σ H s) : ∀ b ∈ frs X.stack, H b = none := λ b hb => by
 rcases Zm.mp (I.Qdl b hb) with e | hb
 ·rw [e]; exact I.free
 ·obtain ⟨_, o, ho, _⟩ := I.ok.Qb2.mem hb
  exact I.base.free b o ho (I.ok.frf b hb) λ z => I.ok.exfs b z hb
theorem Inv.step {g' : Array GenState} {t' : Nat} {d' : Drawn} {ch : List Addr} (I : Inv X pins σ H s)
  (hch : ∀ b ∈ ch, (b ∈ X.ex ∨ X.s₀.heap.objs.size <= b) /\ b ≠ X.env.locals /\ (∀ x c, X.env.cells.lookup x = some c -> c ≠ b) /\ ∀ p ∈ X.pn ++ pins, p.1 ≠ b)
  (keep : ∀ b o, b ≠ X.env.locals -> b ∉ X.fs -> b ∉ ch -> s.heap.get? b = some o -> H b = none -> h'.get? b = some o)
  (slot : ∀ b o, b ≠ X.env.locals -> b ∈ X.fs -> b ∉ ch -> s.heap.get? b = some o -> H b = none -> ∃ sl, h'.get? b = some { o with slots := sl }) (free : ∀ b o, b ∉ ch -> s.heap.get? b = some o -> H b = none -> H' b = none)
  (there : ∀ b o, b ∉ ch -> s.heap.get? b = some o -> ∃ o', h'.get? b = some o')
  (tups : ∀ b xs, H b = some (.tup xs) -> H' b = some (.tup xs)) (frzs : ∀ b o u, H b = some (.frz o u) -> H' b = some (.frz o u)) (tbls : ∀ b ps, H b = some (.tbl ps) -> ∃ more, H' b = some (.tbl (ps ++ more)))
  (ns : ∀ m, s.heap.Ns X.env.locals m -> h'.Ns X.env.locals m) (hok : HOk X.prog X.w H' h') (hg : AllBare g') :
  Inv X pins σ H' { s with heap := h', gens := g', drawn := d', toks := t' } := by
 have neL : ∀ b o, X.s₀.heap.get? b = some o -> b ≠ X.env.locals := λ b o e => ZA (Zo (Zk e) I.ok.above)
 have neC : ∀ b o, X.s₀.heap.get? b = some o -> b ∉ X.ex -> b ∉ ch := λ b o e hx hb => by
  rcases (hch b hb).1 with z | z
  ·exact hx z
  ·exact absurd (Zo (Zk e) z) (ZF _)
 have cellK : ∀ x c, X.env.cells.lookup x = some c -> ∀ v, s.heap.IsCell c v -> h'.IsCell c v := λ x c e v ⟨o, ho, hd⟩ => by
  have nch : c ∉ ch := λ z => (hch c z).2.2.1 x c e rfl
  by_cases hc : c ∈ X.fs
  ·obtain ⟨sl, q⟩ := slot c o (I.cne x c e) hc nch ho (I.freeC x c e)
   exact ⟨_, q, hd⟩
  ·exact ⟨o, keep c o (I.cne x c e) hc nch ho (I.freeC x c e), hd⟩
 refine ⟨I.ok, I.os, hg, ⟨λ b o e n hb hx => ?_, λ b o e n hb hx => ?_, λ b o e n hx => ?_, λ b o e hx => ?_, λ b xs e => tups b xs (I.base.tups b xs e), λ b o xs e => frzs b o xs (I.base.frzs b o xs e), λ b ps e => ?_⟩, ?_, λ x c e => ?_, ?_, λ x c e => ?_, λ p hp => ?_, hok, I.len⟩
 ·exact keep b o (neL b o e) hb (neC b o e hx) (I.base.keep b o e n hb hx) (I.base.free b o e n hx)
 ·obtain ⟨sl, e1⟩ := I.base.slot b o e n hb hx
  obtain ⟨sl', e2⟩ := slot b _ (neL b o e) hb (neC b o e hx) e1 (I.base.free b o e n hx)
  exact ⟨sl', e2⟩
 ·obtain ⟨o', e1⟩ := I.base.there b o e hx
  exact free b o' (neC b o e hx) e1 (I.base.free b o e n hx)
 ·obtain ⟨o', e1⟩ := I.base.there b o e hx
  exact there b o' (neC b o e hx) e1
 ·obtain ⟨m1, e1⟩ := I.base.tbls b ps e
  obtain ⟨m2, e2⟩ := tbls b _ e1
  exact ⟨m1 ++ m2, by rw [e2, Array.append_assoc]⟩
 ·obtain ⟨m, hn, hl⟩ := I.loc
  refine ⟨m, ns m hn, λ i x v e1 e2 e3 => ?_⟩
  obtain ⟨u, r, l⟩ := hl i x v e1 e2 e3
  refine ⟨u, r, ?_⟩
  rcases l with l | ⟨k, c, e, z⟩
  ·exact .inl l
  ·exact .inr ⟨k, c, e, cellK x c e _ z⟩
 ·obtain ⟨v, z⟩ := I.cell x c e
  exact ⟨v, cellK x c e v z⟩
 ·obtain ⟨m, ⟨o, _, _, ho, _⟩, _⟩ := I.loc
  exact free _ o (λ z => (hch _ z).2.1 rfl) ho I.free
 ·obtain ⟨v, o, ho, hd⟩ := I.cell x c e
  exact free c o (λ z => (hch c z).2.2.1 x c e rfl) ho (I.freeC x c e)
 ·obtain ⟨e, n, ne, nf, d⟩ := I.pin p hp
  have nch : p.1 ∉ ch := λ z => (hch p.1 z).2.2.2 p hp rfl
  exact ⟨keep p.1 p.2 ne nf nch e n, free p.1 p.2 nch e n, ne, nf, d⟩
theorem Inv.un {t' : Nat} (I : Inv X pins σ H s) (u : Un X.fs [] H H' s.heap h') (hok : HOk X.prog X.w H' h') : Inv X pins σ H' { s with heap := h', toks := t' } := by
 obtain ⟨m, ⟨o, es, ep, ho, r⟩, _⟩ := id I.loc
 obtain ⟨sl, hL⟩ := u.any ho I.free (by simp)
 exact I.step (g' := s.gens) (d' := s.drawn) (ch := []) (λ _ z => nomatch z) (λ b o _ hb _ e n => u.keep b o e n hb (by simp)) (λ b o _ hb _ e n => u.slot b o e n hb (by simp)) (λ b o _ e n => u.free b o e n (by simp)) (λ b o _ e => u.there b o e (by simp)) u.tups u.frzs u.tbls (λ m' hm => by
  obtain ⟨o', es', ep', ho', r'⟩ := hm
  rw [ho] at ho'; cases ho'
  exact ⟨_, es', ep', hL, r'⟩) hok I.bare
theorem Inv.call {g' : Array GenState} {t' : Nat} {d' : Drawn} {ch : List Addr} (I : Inv X pins σ H s) (u : Un (frs X.stack) ch H H' s.heap h') (hok : HOk X.prog X.w H' h') (hg : AllBare g')
  (hch : ∀ b ∈ ch, (b ∈ X.ex ∨ X.s₀.heap.objs.size <= b) /\ b ≠ X.env.locals /\ (∀ x c, X.env.cells.lookup x = some c -> c ≠ b) /\ ∀ p ∈ X.pn ++ pins, p.1 ≠ b) :
  Inv X pins σ H' { s with heap := h', gens := g', drawn := d', toks := t' } := by
 obtain ⟨m, ⟨o, es, ep, ho, r⟩, _⟩ := id I.loc
 obtain ⟨sl, hL⟩ := u.any ho I.free λ z => (hch _ z).2.1 rfl
 exact I.step (ch := ch) hch (λ b o hL hb hc e n => u.keep b o e n (λ z => (Zm.mp (I.Qdl b z)).elim hL hb) hc) (λ b o _ _ hc e n => u.any e n hc) (λ b o hc e n => u.free b o e n hc) (λ b o hc e => u.there b o e hc) u.tups u.frzs u.tbls (λ m' hm => by
  obtain ⟨o', es', ep', ho', r'⟩ := hm
  rw [ho] at ho'; cases ho'
  exact ⟨_, es', ep', hL, r'⟩) hok hg
theorem Inv.turned {t' : Nat} {it : Addr} (I : Inv X pins σ H s) (k : ∀ b o, b ≠ it -> s.heap.get? b = some o -> h'.get? b = some o) (hn : H it = none) (hL : it ≠ X.env.locals)
  (h1 : it ∈ X.ex ∨ X.s₀.heap.objs.size <= it) (h2 : ∀ x c, X.env.cells.lookup x = some c -> c ≠ it) (h3 : ∀ p ∈ X.pn ++ pins, p.1 ≠ it) : Inv X pins σ H { s with heap := h', toks := t' } := by
 have nit : ∀ b u, H b = some u -> b ≠ it := λ b u e z => by rw [z, hn] at e; cases e
 refine I.step (g' := s.gens) (d' := s.drawn) (ch := [it]) (λ b hb => ?_) (λ b o _ _ hc e _ => k b o (λ z => hc (by simp [z])) e) (λ b o _ _ hc e _ => ⟨o.slots, k b o (λ z => hc (by simp [z])) e⟩) (λ _ _ _ _ n => n)
  (λ b o hc e => ⟨o, k b o (λ z => hc (by simp [z])) e⟩) (λ _ _ e => e) (λ _ _ _ e => e) (λ b ps e => ⟨#[], by rw [e]; simp⟩) (λ m hm => ?_) (λ b u e => ?_) I.bare
 ·have e : b = it := by simpa using hb
  subst e
  exact ⟨h1, hL, h2, h3⟩
 ·obtain ⟨o, es, ep, ho, r⟩ := hm
  exact ⟨o, es, ep, k _ o (Ne.symm hL) ho, r⟩
 ·refine (I.hok b u e).QdS (λ c v hc q => k c v ?_ q) (λ _ q => q) λ _ _ q => q
  rcases hc with z | z
  ·rw [z]; exact nit b u e
  ·exact nit c _ z
theorem Inv.tok (I : Inv X pins σ H s) (t : Nat) : Inv X pins σ H { s with toks := t } := I.un (h' := s.heap) (t' := t) Un.refl I.hok
theorem Inv.kept {t' : Nat} (I : Inv X pins σ H s) (k : ∀ b u, s.heap.get? b = some u -> h'.get? b = some u) : Inv X pins σ H { s with heap := h', toks := t' } := I.un (Un.kept k) (I.hok.kept k)
theorem Inv.laid {a : Addr} {o : HO} {t' : Nat} (I : Inv X pins σ H s) (k : ∀ b u, s.heap.get? b = some u -> h'.get? b = some u) (hp : s.heap.objs.size <= a) (new : QaY X.prog X.w (upd H a o) h' a o) :
  Inv X pins σ (upd H a o) { s with heap := h', toks := t' } := I.un (Un.laid k hp (I.hok.fresh hp)) (I.hok.laid k hp new)
theorem Inv.write {x e : Addr} {o : HO} {t' : Nat} (I : Inv X pins σ H s) (mu : Mut (H x)) (he : e = x ∨ H e = some (.own x)) (k : ∀ b u, b ≠ e -> s.heap.get? b = some u -> h'.get? b = some u) (heo : ∃ u, h'.get? e = some u)
  (new : QaY X.prog X.w (upd H x o) h' x o) : Inv X pins σ (upd H x o) { s with heap := h', toks := t' } := I.un (Un.write mu he k heo) (I.hok.write mu he k heo new)
theorem Inv.weak {σ' : List (Option V)} (I : Inv X pins σ H s) (hl : σ'.length = σ.length) (w : ∀ (i : Nat) v, σ'[i]? = some (some v) -> σ[i]? = some (some v)) : Inv X pins σ' H s :=
 ⟨I.ok, I.os, I.bare, I.base, let ⟨m, hn, hl'⟩ := I.loc; ⟨m, hn, λ i x v e1 e2 e3 => hl' i x v e1 (w i v e2) e3⟩, I.cell, I.free, I.freeC, I.pin, I.hok, hl.trans I.len⟩
theorem Inv.Qks {pins' : List (Addr × Obj)} (I : Inv X pins σ H s) (h : ∀ p ∈ pins', s.heap.get? p.1 = some p.2 /\ H p.1 = none /\ p.1 ≠ X.env.locals /\ p.1 ∉ X.fs /\ ∀ v, p.2.data ≠ .cell v) : Inv X pins' σ H s :=
 ⟨I.ok, I.os, I.bare, I.base, I.loc, I.cell, I.free, I.freeC, λ p hp => (ZD.mp hp).elim (λ z => I.pin p (Zd _ z)) (h p), I.hok, I.len⟩
theorem Qf1 {N : List Str} (hN : N.Nodup) {i j : Nat} {x : Str} (a : N[i]? = some x) (b : N[j]? = some x) : i = j := by
 obtain ⟨h1, e1⟩ := Zi.mp a
 obtain ⟨h2, e2⟩ := Zi.mp b
 exact (List.getElem_inj hN).mp (e1.trans e2.symm)
theorem QhT {M : Model} {A : Around} {E : Value -> Shared -> Prop} {i : Nat} {x : Str} {v : V} {u : Value} {Q : Unit -> Shared -> Prop} (I : Inv X pins σ H s) (hN : X.N.Nodup) (hi : X.N[i]? = some x) (hx : Loc X.env.scope x) (r : RelV v u)
  (h : ∀ s', Inv X pins (σ.set i (some v)) H s' -> (∃ a, Heap.SameBut a s.heap s'.heap /\ (a = X.env.locals ∨ X.env.cells.lookup x = some a)) -> Q () s') (hf : X.fn x = true ∨ X.env.scope.names.lookup x = some .local := by first | exact .inl rfl | exact .inr rfl | assumption) : wpAny M A (storeName X.env x u) Q E s := by
 obtain ⟨m, hn, hl⟩ := id I.loc
 have hcls : (X.env.scope.kind == .class || (X.env.scope.kind == .module && X.env.locals != X.env.globals)) = false := by rw [I.ok.kind]; rfl
 have hiσ : i < σ.length := by rw [I.len]; exact (Zi.mp hi).1
 have cne := I.cne
 have tracked : ∀ {a : Addr} {h' : Heap}, (∃ o, s.heap.get? a = some o /\ H a = none) -> Heap.SameBut a s.heap h' -> HOk X.prog X.w H h' := λ {a h'} ha hs b ob e => by
  obtain ⟨_, _, hfree⟩ := ha
  refine (I.hok b ob e).QdS (λ c w' hc q => (hs.2 c ?_).trans q) (λ _ q => q) λ _ _ q => q
  rintro rfl
  rcases hc with rfl | hc
  ·rw [hfree] at e; cases e
  ·rw [hfree] at hc; cases hc
 rcases hx with hk | hk
 ·refine wpAny_storeName_local hk hn (λ h' hn' hs => ?_) hcls
  obtain ⟨oL, _, _, hoL, _⟩ := id hn
  refine h _ ⟨I.ok, I.os, I.bare, ⟨λ b o e n hb hx => ?_, λ b o e n hb hx => ?_, I.base.free, λ b o e hx => ?_, I.base.tups, I.base.frzs, I.base.tbls⟩, ⟨_, hn', λ j y v' e1 e2 e3 => ?_⟩, λ y c e => ?_, I.free, I.freeC, λ p hp => ?_, tracked ⟨oL, hoL, I.free⟩ hs, by simpa using I.len⟩ ⟨_, hs, .inl rfl⟩
  ·exact (hs.2 b (ZA (Zo (Zk e) I.ok.above))).trans (I.base.keep b o e n hb hx)
  ·obtain ⟨sl, e1⟩ := I.base.slot b o e n hb hx
   exact ⟨sl, (hs.2 b (ZA (Zo (Zk e) I.ok.above))).trans e1⟩
  ·obtain ⟨o', e1⟩ := I.base.there b o e hx
   exact ⟨o', (hs.2 b (ZA (Zo (Zk e) I.ok.above))).trans e1⟩
  ·by_cases hj : j = i
   ·subst hj
    rw [hi] at e1; cases e1
    rw [Zr hiσ] at e2
    cases e2
    exact ⟨u, r, .inl ⟨hk, by simp⟩⟩
   ·rw [Zg (Ne.symm hj)] at e2
    obtain ⟨u', r', q⟩ := hl j y v' e1 e2 e3
    refine ⟨u', r', ?_⟩
    rcases q with ⟨k, e⟩ | ⟨k, c, e, z⟩
    ·refine .inl ⟨k, ?_⟩
     have : y ≠ x := λ e => hj (Qf1 hN e1 (e ▸ hi))
     simp [this, e]
    ·exact .inr ⟨k, c, e, z.sameBut hs (cne y c e)⟩
  ·obtain ⟨w', z⟩ := I.cell y c e
   exact ⟨w', z.sameBut hs (cne y c e)⟩
  ·obtain ⟨e, n, ne, nf, d⟩ := I.pin p hp
   exact ⟨(hs.2 p.1 ne).trans e, n, ne, nf, d⟩
 ·have hfn : X.fn x = true := by
   rcases hf with z | z
   ·exact z
   ·rw [z] at hk; cases hk
  obtain ⟨c, hc⟩ := I.ok.has x (.inl hk)
  obtain ⟨w', z⟩ := I.cell x c hc
  refine wpAny_storeName_cell I.ok.kind hk hc z (λ h' hc' hs => ?_)
  obtain ⟨oc, hoc, hocd⟩ := id z
  refine h { s with heap := h' } ⟨I.ok, I.os, I.bare, ⟨λ b o e n hb hx => ?_, λ b o e n hb hx => ?_, I.base.free, λ b o e hx => ?_, I.base.tups, I.base.frzs, I.base.tbls⟩, ⟨m, hn.sameBut hs (Ne.symm (cne x c hc)), λ j y v' e1 e2 e3 => ?_⟩, λ y c' e => ?_, I.free, I.freeC, λ p hp => ?_, tracked ⟨oc, hoc, I.freeC x c hc⟩ hs, by simpa using I.len⟩ ⟨c, hs, .inr hc⟩
  ·exact (hs.2 b (ZA (Zo (Zk e) (I.ok.cab x c hfn hc)))).trans (I.base.keep b o e n hb hx)
  ·obtain ⟨sl, e1⟩ := I.base.slot b o e n hb hx
   exact ⟨sl, (hs.2 b (ZA (Zo (Zk e) (I.ok.cab x c hfn hc)))).trans e1⟩
  ·obtain ⟨o', e1⟩ := I.base.there b o e hx
   exact ⟨o', (hs.2 b (ZA (Zo (Zk e) (I.ok.cab x c hfn hc)))).trans e1⟩
  ·by_cases hj : j = i
   ·subst hj
    rw [hi] at e1; cases e1
    rw [Zr hiσ] at e2
    cases e2
    exact ⟨u, r, .inr ⟨.inl hk, c, hc, hc'⟩⟩
   ·rw [Zg (Ne.symm hj)] at e2
    obtain ⟨u', r', q⟩ := hl j y v' e1 e2 e3
    refine ⟨u', r', ?_⟩
    rcases q with q | ⟨k, c', e, z'⟩
    ·exact .inl q
    ·refine .inr ⟨k, c', e, z'.sameBut hs ?_⟩
     rintro rfl
     exact hj (Qf1 hN e1 (I.ok.inj _ _ _ e hc ▸ hi))
  ·by_cases hcc : c' = c
   ·subst hcc; exact ⟨_, hc'⟩
   ·obtain ⟨w2, z2⟩ := I.cell y c' e
    exact ⟨w2, z2.sameBut hs hcc⟩
  ·obtain ⟨e, n, ne, nf, d⟩ := I.pin p hp
   refine ⟨(hs.2 p.1 ?_).trans e, n, ne, nf, d⟩
   intro q
   rw [q, hoc] at e
   have q' : oc = p.2 := Option.some.inj e
   exact d w' (by rw [← q']; exact hocd)
theorem Qeq {M : Model} {A : Around} {E : Value -> Shared -> Prop} {i : Nat} {x : Str} {v : V} {u : Value} {Q : Unit -> Shared -> Prop} (I : Inv X pins σ H s) (hN : X.N.Nodup) (hi : X.N[i]? = some x) (hx : Loc X.env.scope x) (r : RelV v u)
  (h : ∀ s', Inv X pins (σ.set i (some v)) H s' -> Q () s') (hf : X.fn x = true ∨ X.env.scope.names.lookup x = some .local := by first | exact .inl rfl | exact .inr rfl | assumption) : wpAny M A (storeName X.env x u) Q E s :=
 QhT I hN hi hx r (λ s' I' _ => h s' I') hf
theorem Inv.Qod {s' : Shared} {ch : List Addr} (I : Inv X pins σ H s) (ho : s'.os = s.os) (u : Un (frs X.stack) ch H H' s.heap s'.heap) (hok : HOk X.prog X.w H' s'.heap) (hg : AllBare s'.gens)
  (hch : ∀ b ∈ ch, (b ∈ X.ex ∨ X.s₀.heap.objs.size <= b) /\ b ≠ X.env.locals /\ (∀ x c, X.env.cells.lookup x = some c -> c ≠ b) /\ ∀ p ∈ X.pn ++ pins, p.1 ≠ b) : Inv X pins σ H' s' := by
 obtain ⟨h', g', d', t', o'⟩ := s'
 have e : o' = s.os := ho
 subst e
 exact I.call (g' := g') (t' := t') (d' := d') u hok hg hch
end
noncomputable abbrev XK := Value -> Option Addr -> Hp -> Prop
noncomputable abbrev St := List (Option V)
noncomputable abbrev VK := V -> Hp -> Prop
noncomputable abbrev TE := St -> Hp -> VK -> Prop
noncomputable abbrev TT := St -> Hp -> (Bool -> Hp -> Prop) -> Prop
noncomputable abbrev TA := St -> Hp -> (List V -> Hp -> Prop) -> Prop
structure Ends where
 nx : St -> Hp -> Prop
 rt : VK
 bk : St -> Hp -> Prop := λ _ _ => False
 ct : St -> Hp -> Prop := λ _ _ => False
noncomputable abbrev TS := Ends -> St -> Hp -> Prop
def EP (X : Cx) (pins : List (Addr × Obj)) (σ : St) (Q : VK) (u : Value) (s' : Shared) : Prop := ∃ v H', Inv X pins σ H' s' /\ RelV v u /\ Q v H'
def TP (X : Cx) (pins : List (Addr × Obj)) (σ : St) (Q : Bool -> Hp -> Prop) (b : Bool) (s' : Shared) : Prop := ∃ H', Inv X pins σ H' s' /\ Q b H'
def AP (X : Cx) (pins : List (Addr × Obj)) (σ : St) (Q : List V -> Hp -> Prop) (us : List Value) (s' : Shared) : Prop := ∃ vs H', Inv X pins σ H' s' /\ Ql vs us /\ Q vs H'
def SP (X : Cx) (pins : List (Addr × Obj)) (D : Ends) (f : Flow) (s' : Shared) : Prop :=
 match f with
 | .next => ∃ σ' H', Inv X pins σ' H' s' /\ D.nx σ' H'
 | .brk => ∃ σ' H', Inv X pins σ' H' s' /\ D.bk σ' H'
 | .cont => ∃ σ' H', Inv X pins σ' H' s' /\ D.ct σ' H'
 | .ret u => ∃ v σ' H', Inv X pins σ' H' s' /\ RelV v u /\ D.rt v H'
def PE (X : Cx) (e : Expr) (t : TE) : Prop :=
 ∀ (pins : List (Addr × Obj)) (s : Shared) (σ : St) (H : Hp) (Q : VK), Inv X pins σ H s -> t σ H Q -> wpAny (model X.prog X.w) X.A (eval e X.env) (EP X pins σ Q) X.xe s
def PT (X : Cx) (e : Expr) (t : TT) : Prop :=
 ∀ (pins : List (Addr × Obj)) (s : Shared) (σ : St) (H : Hp) (Q : Bool -> Hp -> Prop), Inv X pins σ H s -> t σ H Q -> wpAny (model X.prog X.w) X.A (isTrue e X.env (eval e X.env)) (TP X pins σ Q) X.xe s
def PW (X : Cx) (e : Expr) (t : TT) : Prop :=
 ∀ (whole : Sem Value) (pins : List (Addr × Obj)) (s : Shared) (σ : St) (H : Hp) (Q : Bool -> Hp -> Prop), Inv X pins σ H s -> t σ H Q -> wpAny (model X.prog X.w) X.A (isTrue e X.env whole) (TP X pins σ Q) X.xe s
theorem PW.pt {X : Cx} {e : Expr} {t : TT} (h : PW X e t) : PT X e t := h _
def PA (X : Cx) (es : List Expr) (t : TA) : Prop :=
 ∀ (pos : Pos) (pins : List (Addr × Obj)) (s : Shared) (σ : St) (H : Hp) (Q : List V -> Hp -> Prop), Inv X pins σ H s -> t σ H Q -> wpAny (model X.prog X.w) X.A (spliced (backTo pos (starEach es X.env))) (AP X pins σ Q) X.xe s
def PS (X : Cx) (st : Stmt) (t : TS) : Prop :=
 ∀ (pins : List (Addr × Obj)) (s : Shared) (σ : St) (H : Hp) (D : Ends), Inv X pins σ H s -> t D σ H -> wpAny (model X.prog X.w) X.A (exec st X.env) (SP X pins D) X.xe s
def PSs (X : Cx) (st : List Stmt) (t : TS) : Prop :=
 ∀ (pins : List (Addr × Obj)) (s : Shared) (σ : St) (H : Hp) (D : Ends), Inv X pins σ H s -> t D σ H -> wpAny (model X.prog X.w) X.A (execs st X.env) (SP X pins D) X.xe s
theorem thn {α : Type} {t : Sem α} {Q Q' : α -> Shared -> Prop} {M : Model} {A : Around} {E : Value -> Shared -> Prop} {s : Shared} (h : wpAny M A t Q E s) (hQ : ∀ a s, Q a s -> Q' a s) : wpAny M A t Q' E s := wpAny_mono h hQ λ _ _ x => x
end L2
namespace L2
open PySem PySem.Spec PyProof.Rows
section
variable {X : Cx}
noncomputable def QkV (i : Nat) : TE := λ σ H Q => ∃ v, σ[i]? = some (some v) /\ Q v H
noncomputable def tC (v : V) : TE := λ _ H Q => Q v H
theorem QqU {i : Nat} {x : Str} {pos : Pos} (hN : X.N[i]? = some x) (hv : Vis X.env.scope x) (hd : (x == ("__debug__" : Str)) = false := by decide) (hcd : (x == ("__classdict__" : Str)) = false := by decide) : PE X (.Name x pos) (QkV i) := by
 intro pins s σ H Q I h
 obtain ⟨v, e, h⟩ := h
 obtain ⟨m, hn, hl⟩ := I.loc
 obtain ⟨u, r, l⟩ := hl i x v hN e hv
 have fin : EP X pins σ Q u s := ⟨v, H, I, r, h⟩
 rcases l with ⟨hk, hm⟩ | ⟨hk, c, hc, hcell⟩
 ·exact wpAny_Name (wpAny_loadName_local I.ok.kind hk hn hm fin) hd
 ·rcases hk with hk | hk
  ·exact wpAny_Name (wpAny_loadName_cell I.ok.kind hk hc hcell fin) hd
  ·exact wpAny_Name (wpAny_loadName_free I.ok.kind hk hc hcell fin hcd) hd
theorem QrE {i j pos} : PE X (.Constant (.int i) j pos) (tC (.int i)) := λ _ _ _ H _ I h => wpAny_Constant_int ⟨.int i, H, I.tok _, ⟨_, rfl⟩, h⟩
theorem Qob {b j pos} : PE X (.Constant (.bool b) j pos) (tC (.bl b)) := λ _ _ _ H _ I h => Constant_bool ⟨.bl b, H, I, rfl, h⟩
theorem Qqt {j pos} : PE X (.Constant .none j pos) (tC .non) := λ _ _ _ H _ I h => Constant_none ⟨.non, H, I, rfl, h⟩
theorem Qmh {x j pos} : PE X (.Constant (.str x) j pos) (tC (.str x)) := λ _ _ _ H _ I h => Calls.Constant_str ⟨.str x, H, I.tok _, ⟨_, rfl⟩, h⟩
def Gl (X : Cx) (x : Str) : Prop := X.env.kindOf x = some .globalImplicit
theorem QcB {E : Value -> Shared -> Prop} {pins : List (Addr × Obj)} {s : Shared} {σ : St} {H : Hp} {x : Str} {u : Value} {pos : Pos} {Q : Value -> Shared -> Prop} (I : Inv X pins σ H s) (hg : Gl X x) (hm : X.mg x = some u) (h : Q u s)
  (hd : (x == ("__debug__" : Str)) = false := by decide) : wpAny (model X.prog X.w) X.A (eval (.Name x pos) X.env) Q E s :=
 Calls.Name_function_global I.ok.kind hg (Calls.loadGlobal_global (by rw [I.ok.glob]; exact I.mod.glob.keeps I.bk) hm h) hd
theorem Qb5 {E : Value -> Shared -> Prop} {pins : List (Addr × Obj)} {s : Shared} {σ : St} {H : Hp} {x : Str} {u : Value} {pos : Pos} {Q : Value -> Shared -> Prop} (I : Inv X pins σ H s) (hg : Gl X x) (hm : X.mg x = none) (hv : bootBuiltins x = some u) (h : Q u s)
  (hn : x ≠ "__name__" := by decide) (hd : (x == ("__debug__" : Str)) = false := by decide) : wpAny (model X.prog X.w) X.A (eval (.Name x pos) X.env) Q E s := by
 obtain ⟨mb, h1, h2⟩ := I.mod.blt
 exact Calls.Name_function_global I.ok.kind hg (Calls.loadGlobal_builtin (by rw [I.ok.glob]; exact I.mod.glob.keeps I.bk) hm (by rw [I.ok.blt]; exact h1.keeps I.bk) ((h2 x hn).trans hv) h) hd
theorem Qp1 {x : Str} {v : V} {u : Value} {pos : Pos} (hg : Gl X x) (hm : X.mg x = some u) (r : RelV v u) (hd : (x == ("__debug__" : Str)) = false := by decide) : PE X (.Name x pos) (tC v) :=
 λ _ _ _ H _ I h => QcB I hg hm ⟨v, H, I, r, h⟩ hd
theorem Qeh {x : Str} {v : V} {u : Value} {pos : Pos} (hg : Gl X x) (hm : X.mg x = none) (hv : bootBuiltins x = some u) (r : RelV v u) (hn : x ≠ "__name__" := by decide) (hd : (x == ("__debug__" : Str)) = false := by decide) : PE X (.Name x pos) (tC v) :=
 λ _ _ _ H _ I h => Qb5 I hg hm hv ⟨v, H, I, r, h⟩ hn hd
variable {a b : Expr} {ta tb : TE} {pos : Pos}
variable {tA tB' : TT} {rest : List Expr}
noncomputable def QsL (t u : TT) : TT := λ σ H Q => t σ H λ c H1 => if c = true then u σ H1 Q else Q false H1
noncomputable def tOr (t u : TT) : TT := λ σ H Q => t σ H λ c H1 => if c = true then Q true H1 else u σ H1 Q
noncomputable def Qs3 (t : TT) : TT := λ σ H Q => t σ H λ c H1 => Q (!c) H1
theorem QpU (ha : PT X a tA) : PW X (.BoolOp .And [a] pos) tA := by
 intro wh pins s σ H Q I h
 refine isTrue_and (thn (ha pins s σ H Q I h) λ c s1 e => ?_)
 cases c with
 | true => exact isTrue_and_nil e
 | false => exact e
theorem QrF (ha : PT X a tA) : PW X (.BoolOp .Or [a] pos) tA := by
 intro wh pins s σ H Q I h
 refine isTrue_or (thn (ha pins s σ H Q I h) λ c s1 e => ?_)
 cases c with
 | false => exact isTrue_or_nil e
 | true => exact e
theorem Qrk (ha : PT X a tA) (hb : PW X (.BoolOp .And (b :: rest) pos) tB') : PW X (.BoolOp .And (a :: b :: rest) pos) (QsL tA tB') := by
 intro wh pins s σ H Q I h
 refine isTrue_and (thn (ha pins s σ H _ I h) λ c s1 ⟨H1, I1, q1⟩ => ?_)
 cases c with
 | true => exact hb wh pins s1 σ H1 Q I1 q1
 | false => exact ⟨H1, I1, q1⟩
theorem QrW (ha : PT X a tA) (hb : PW X (.BoolOp .Or (b :: rest) pos) tB') : PW X (.BoolOp .Or (a :: b :: rest) pos) (tOr tA tB') := by
 intro wh pins s σ H Q I h
 refine isTrue_or (thn (ha pins s σ H _ I h) λ c s1 ⟨H1, I1, q1⟩ => ?_)
 cases c with
 | true => exact ⟨H1, I1, q1⟩
 | false => exact hb wh pins s1 σ H1 Q I1 q1
theorem Qqv (ha : PT X a tA) : PT X (.UnaryOp .Not a pos) (Qs3 tA) := by
 intro pins s σ H Q I h
 exact isTrue_not (ha pins s σ H (λ c H1 => Q (!c) H1) I h)
theorem Qqo {op} {t : TE} (h : PE X a t) : PE X (.BoolOp op [a] pos) t := λ pins s σ H Q I hw => BoolOp_one (h pins s σ H Q I hw)
end
end L2
namespace L2
open PySem PySem.Spec PyProof.Rows
def SqL (K : PySem.W.Frag) (H : Hp) (a : Addr) (xs : List V) : Prop :=
 Rd H a (.lst xs) ∨
  ∃ (o : Obj) (its : Array Value) (n : Nat), K.lookup a = some o /\ o.cls = .type "list" /\ o.dict = none /\ o.data = .seq its n /\ its.size <= sizeLine /\ Ql xs its.toList
def SqT (K : PySem.W.Frag) (H : Hp) (a : Addr) (xs : List V) : Prop :=
 Rd H a (.tup xs) ∨
  ∃ (o : Obj) (its : Array Value) (n : Nat), K.lookup a = some o /\ o.cls = .type "tuple" /\ o.data = .seq its n /\ its.size <= sizeLine /\ Ql xs its.toList
noncomputable def Qs6 : Value -> Option V
 | .none => some .non
 | .bool b => some (.bl b)
 | .int i _ => some (.int i)
 | .str x _ => some (.str x)
 | .bytes b _ => some (.byt b)
 | .float b _ => some (.flt b)
 | .ref a => some (.ref a)
 | .type n => some (.ty n)
 | _ => none
theorem RelV.abs {x : V} {u : Value} (r : RelV x u) : Qs6 u = some x := by
 cases x with
 | non => cases r; rfl
 | bl _ => cases r; rfl
 | int _ => obtain ⟨t, rfl⟩ := r; rfl
 | str _ => obtain ⟨t, rfl⟩ := r; rfl
 | byt _ => obtain ⟨t, rfl⟩ := r; rfl
 | flt _ => obtain ⟨t, rfl⟩ := r; rfl
 | ref _ => cases r; rfl
 | ty _ => cases r; rfl
theorem RelV.inj {x y : V} {u : Value} (r : RelV x u) (q : RelV y u) : x = y := Option.some.inj (r.abs.symm.trans q.abs)
theorem Ql.inj : ∀ {xs ys : List V} {us : List Value}, Ql xs us -> Ql ys us -> xs = ys
 | _, _, _, .nil, .nil => rfl
 | _, _, _, .cons r t, .cons r' t' => by rw [r.inj r', Ql.inj t t']
section
variable {X : Cx} {pins : List (Addr × Obj)} {σ : St} {H : Hp} {s : Shared} {a : Addr} {xs ys : List V}
theorem SqL.of {K : PySem.W.Frag} (h : H a = some (.lst xs)) : SqL K H a xs := .inl (.inl h)
theorem SqT.of {K : PySem.W.Frag} (h : H a = some (.tup xs)) : SqT K H a xs := .inl (.inl h)
theorem Inv.list (I : Inv X pins σ H s) (h : SqL X.K H a xs) : ∃ its : List Value, Ql xs its /\ PlainL s.heap a its.toArray /\ xs.length <= sizeLine := by
 rcases h with h | ⟨o, its, n, hk, hc, hd, hs, hz, r⟩
 ·obtain ⟨z, its, n, r, e⟩ := h.ok I.hok
  exact ⟨its, r, ⟨_, n, e, rfl, rfl, rfl⟩, z⟩
 ·refine ⟨its.toList, r, ⟨o, n, I.kIn a o hk, hc, hd, by simpa using hs⟩, ?_⟩
  have e := r.length
  simp only [ZM] at e
  omega
theorem Inv.tuple (I : Inv X pins σ H s) (h : SqT X.K H a xs) : ∃ its : List Value, Ql xs its /\ IsTup s.heap a its.toArray /\ xs.length <= sizeLine := by
 rcases h with h | ⟨o, its, n, hk, hc, hs, hz, r⟩
 ·obtain ⟨z, its, r, p⟩ := h.ok I.hok
  exact ⟨its, r, p, z⟩
 ·refine ⟨its.toList, r, ⟨o, I.kIn a o hk, hc, n, by simpa using hs⟩, ?_⟩
  have e := r.length
  simp only [ZM] at e
  omega
theorem Inv.QeF (I : Inv X pins σ H s) (h : SqL X.K H a xs) (h' : SqL X.K H a ys) : xs = ys := by
 obtain ⟨its, r, ⟨o, n, e, _, _, d⟩, _⟩ := I.list h
 obtain ⟨its', r', ⟨o', n', e', _, _, d'⟩, _⟩ := I.list h'
 rw [e] at e'; cases e'
 rw [d] at d'
 injection d' with d1 _
 have : its = its' := by simpa using congrArg Array.toList d1
 subst this
 exact r.inj r'
theorem Inv.QlB (I : Inv X pins σ H s) (h : SqT X.K H a xs) (h' : SqT X.K H a ys) : xs = ys := by
 obtain ⟨its, r, ⟨o, e, _, n, d⟩, _⟩ := I.tuple h
 obtain ⟨its', r', ⟨o', e', _, n', d'⟩, _⟩ := I.tuple h'
 rw [e] at e'; cases e'
 rw [d] at d'
 injection d' with d1 _
 have : its = its' := by simpa using congrArg Array.toList d1
 subst this
 exact r.inj r'
end
noncomputable abbrev Cx.QcG (X : Cx) (E : Value -> Shared -> Prop) : Cx := { X with xe := E }
noncomputable abbrev Cx.nox (X : Cx) : Cx := X.QcG λ _ _ => False
theorem Cx.Ok.QcG {X : Cx} (ok : X.Ok) (E : Value -> Shared -> Prop) : (X.QcG E).Ok :=
 ⟨ok.mod, ok.kind, ok.glob, ok.blt, ok.above, ok.inj, ok.has, ok.cab, ok.hd, ok.frames, ok.stk, ok.exf, ok.bs, ok.bsz, ok.noex, ok.exfs, ok.Qb2, ok.frf⟩
theorem Cx.Ok.Qb6 {X : Cx} {E : Value -> Shared -> Prop} (ok : (X.QcG E).Ok) : X.Ok :=
 ⟨ok.mod, ok.kind, ok.glob, ok.blt, ok.above, ok.inj, ok.has, ok.cab, ok.hd, ok.frames, ok.stk, ok.exf, ok.bs, ok.bsz, ok.noex, ok.exfs, ok.Qb2, ok.frf⟩
section
variable {X : Cx} {pins : List (Addr × Obj)} {σ : St} {H : Hp} {s : Shared} {E : Value -> Shared -> Prop}
theorem Inv.QcG (I : Inv X pins σ H s) (E : Value -> Shared -> Prop) : Inv (X.QcG E) pins σ H s := ⟨I.ok.QcG E, I.os, I.bare, I.base, I.loc, I.cell, I.free, I.freeC, I.pin, I.hok, I.len⟩
theorem Inv.Qb6 (I : Inv (X.QcG E) pins σ H s) : Inv X pins σ H s := ⟨I.ok.Qb6, I.os, I.bare, I.base, I.loc, I.cell, I.free, I.freeC, I.pin, I.hok, I.len⟩
theorem SP.Qb6 {D : Ends} {f : Flow} {s' : Shared} (h : SP (X.QcG E) pins D f s') : SP X pins D f s' := by
 cases f with
 | next => obtain ⟨σ', H', I, q⟩ := h; exact ⟨σ', H', I.Qb6, q⟩
 | brk => obtain ⟨σ', H', I, q⟩ := h; exact ⟨σ', H', I.Qb6, q⟩
 | cont => obtain ⟨σ', H', I, q⟩ := h; exact ⟨σ', H', I.Qb6, q⟩
 | ret u => obtain ⟨v, σ', H', I, r, q⟩ := h; exact ⟨v, σ', H', I.Qb6, r, q⟩
theorem PE.nox {e : Expr} {t : TE} (h : PE X.nox e t) : PE X e t := λ pins s σ H Q I hw =>
 wpAny_mono (h pins s σ H Q (I.QcG _) hw) (λ _ _ ⟨v, H', I', r, q⟩ => ⟨v, H', I'.Qb6, r, q⟩) λ _ _ z => False.elim z
theorem PT.nox {e : Expr} {t : TT} (h : PT X.nox e t) : PT X e t := λ pins s σ H Q I hw =>
 wpAny_mono (h pins s σ H Q (I.QcG _) hw) (λ _ _ ⟨H', I', q⟩ => ⟨H', I'.Qb6, q⟩) λ _ _ z => False.elim z
theorem PSs.nox {st : List Stmt} {t : TS} (h : PSs X.nox st t) : PSs X st t := λ pins s σ H D I hw =>
 wpAny_mono (h pins s σ H D (I.QcG _) hw) (λ _ _ q => q.Qb6) λ _ _ z => False.elim z
end
section
variable {X : Cx} {st : Stmt} {rest : List Stmt} {t u : TS} {e : Expr} {te : TE} {pos : Pos}
noncomputable def QkI : TS := λ D σ H => D.nx σ H
noncomputable def QsO (t u : TS) : TS := λ D σ H => t { D with nx := u D } σ H
theorem QoS : PSs X [] QkI := λ _ _ σ H _ I h => wpAny_execs_nil ⟨σ, H, I, h⟩
theorem Qjv (h1 : PS X st t) (h2 : PSs X rest u) : PSs X (st :: rest) (QsO t u) := by
 intro pins s σ H D I h
 refine wpAny_execs_cons (thn (h1 pins s σ H { D with nx := u D } I h) λ f s1 q => ?_)
 cases f with
 | next =>
  obtain ⟨σ', H', I', q⟩ := q
  exact h2 pins s1 σ' H' D I' q
 | ret v => exact q
 | brk => exact q
 | cont => exact q
noncomputable def Qqm : TS := λ D σ H => D.bk σ H
noncomputable def QrP : TS := λ D σ H => D.ct σ H
theorem Qp6 : PS X (.Pass pos) QkI := λ _ _ σ H _ I h => wpAny_Pass ⟨σ, H, I, h⟩
theorem Qnx : PS X (.Break pos) Qqm := λ _ _ σ H _ I h => wpAny_Break ⟨σ, H, I, h⟩
theorem QjH : PS X (.Continue pos) QrP := λ _ _ σ H _ I h => wpAny_Continue ⟨σ, H, I, h⟩
theorem Inv.quiet {pins : List (Addr × Obj)} {σ : St} {H : Hp} {s : Shared} (I : Inv X pins σ H s) : interactive X.env = false := by simp [interactive, I.ok.kind]
theorem QrI {x j pos pos'} : PS X (.Expr (.Constant (.str x) j pos) pos') QkI := λ _ s σ H _ I h => wpAny_Expr (Calls.Constant_str (show SP X _ _ .next { s with toks := s.toks + 1 } from ⟨σ, H, I.tok _, h⟩)) I.quiet
noncomputable def Qik (te : TE) : TS := λ D σ H => te σ H λ _ H1 => D.nx σ H1
theorem Qfx (he : PE X e te) (hs : swapsWith e none pos.line X.env = pure false := by rfl) : PS X (.Expr e pos) (Qik te) := by
 intro pins s σ H D I h
 exact wpAny_Expr_any (thn (he pins s σ H _ I h) λ v s1 ⟨x, H1, I1, r1, q1⟩ => ⟨σ, H1, I1, q1⟩) I.quiet hs
noncomputable def QsX (te : TE) : TS := λ D σ H => te σ H D.rt
theorem QlX (he : PE X e te) : PS X (.Return (some e) pos) (QsX te) := by
 intro pins s σ H D I h
 exact wpAny_Return_some (thn (he pins s σ H _ I h) λ v s1 ⟨x, H1, I1, r1, q1⟩ => ⟨x, σ, H1, I1, r1, q1⟩)
noncomputable def QrY : TS := λ D _ H => D.rt .non H
theorem Qp8 : PS X (.Return none pos) QrY := λ _ _ σ H _ I h => wpAny_Return_none ⟨.non, σ, H, I, rfl, h⟩
noncomputable def Qs5 (c : TT) (t u : TS) : TS := λ D σ H => c σ H λ b H1 => if b = true then t D σ H1 else u D σ H1
theorem Qol {c : Expr} {a b : List Stmt} {tc : TT} (hc : PT X c tc) (ha : PSs X a t) (hb : PSs X b u) : PS X (.If c a b pos) (Qs5 tc t u) := by
 intro pins s σ H D I h
 refine wpAny_If (thn (hc pins s σ H _ I h) λ d s1 ⟨H1, I1, q1⟩ => ?_)
 cases d with
 | true => exact ha pins s1 σ H1 D I1 q1
 | false => exact hb pins s1 σ H1 D I1 q1
noncomputable def QqZ : TS := λ _ _ _ => False
theorem QmO : PS X st QqZ := λ _ _ _ _ _ _ h => h.elim
end
noncomputable abbrev TG := V -> St -> Hp -> (St -> Hp -> Prop) -> Prop
noncomputable abbrev TGs := List V -> St -> Hp -> (St -> Hp -> Prop) -> Prop
def PG (X : Cx) (target : Expr) (t : TG) : Prop :=
 ∀ (pins : List (Addr × Obj)) (s : Shared) (σ : St) (H : Hp) (v : V) (u : Value) (Q : St -> Hp -> Prop), Inv X pins σ H s -> RelV v u -> t v σ H Q →
  wpAny (model X.prog X.w) X.A (assign target X.env u) (λ _ s' => ∃ σ' H', Inv X pins σ' H' s' /\ Q σ' H') X.xe s
def PGs (X : Cx) (ts : List Expr) (t : TGs) : Prop :=
 ∀ (pins : List (Addr × Obj)) (s : Shared) (σ : St) (H : Hp) (vs : List V) (us : List Value) (Q : St -> Hp -> Prop), Inv X pins σ H s -> Ql vs us -> t vs σ H Q →
  wpAny (model X.prog X.w) X.A (assignInOrder ((assignEach ts X.env).map (·.2)) us) (λ _ s' => ∃ σ' H', Inv X pins σ' H' s' /\ Q σ' H') X.xe s
noncomputable abbrev Qju := V -> V -> V -> Hp -> (Hp -> Prop) -> Prop
def QnL (X : Cx) (t : Qju) : Prop :=
 ∀ (pins : List (Addr × Obj)) (s : Shared) (σ : St) (H : Hp) (o i v : V) (ov iv u : Value) (Q : Hp -> Prop), Inv X pins σ H s -> RelV o ov -> RelV i iv -> RelV v u -> t o i v H Q →
  wpAny (model X.prog X.w) X.A (setItem ov iv u) (λ _ s' => ∃ H', Inv X pins σ H' s' /\ Q H') X.xe s
noncomputable abbrev TIp := V -> V -> Hp -> VK -> Prop
def PIp (X : Cx) (op : Operator) (t : TIp) : Prop :=
 ∀ (pins : List (Addr × Obj)) (s : Shared) (σ : St) (H : Hp) (x y : V) (v u : Value) (Q : VK), Inv X pins σ H s -> RelV x v -> RelV y u -> t x y H Q →
  wpAny (model X.prog X.w) X.A (inplaceOp op v u) (EP X pins σ Q) X.xe s
section
variable {X : Cx} {pos : Pos}
noncomputable def Qfw (i : Nat) : TG := λ v σ H Q => Q (σ.set i (some v)) H
theorem Qj9 {i : Nat} {x : Str} (hN : X.N.Nodup) (hi : X.N[i]? = some x) (hx : Loc X.env.scope x) (hf : X.fn x = true ∨ X.env.scope.names.lookup x = some .local := by first | exact .inl rfl | exact .inr rfl | assumption) : PG X (.Name x pos) (Qfw i) := by
 intro pins s σ H v u Q I r h
 exact wpAny_assign_Name (Qeq I hN hi hx r (λ s' I' => ⟨_, H, I', h⟩) hf)
noncomputable def QrK : TGs := λ vs σ H Q => vs = [] /\ Q σ H
noncomputable def Qoi (t : TG) (u : TGs) : TGs := λ vs σ H Q => ∃ v r, vs = v :: r /\ t v σ H λ σ' H' => u r σ' H' Q
theorem QpK : PGs X [] QrK := by
 intro pins s σ H vs us Q I r h
 obtain ⟨e, h⟩ := h
 subst e
 cases r
 exact assignInOrder_nil ⟨σ, H, I, h⟩
theorem QmG {e : Expr} {es : List Expr} {t : TG} {u : TGs} (h1 : PG X e t) (h2 : PGs X es u)
  (hs : (assignEach (e :: es) X.env).map (·.2) = assign e X.env :: (assignEach es X.env).map (·.2) := by rfl) : PGs X (e :: es) (Qoi t u) := by
 intro pins s σ H vs us Q I r h
 obtain ⟨v, vr, e1, h⟩ := h
 subst e1
 cases r with
 | cons r rr =>
  rw [hs]
  refine assignInOrder_cons (thn (h1 pins s σ H _ _ _ I r h) λ _ s1 ⟨σ1, H1, I1, q1⟩ => ?_)
  exact h2 pins s1 σ1 H1 _ _ Q I1 rr q1
noncomputable def Qs8 (K : PySem.W.Frag) (n : Nat) (t : TGs) : TG := λ v σ H Q => ∃ a xs, v = .ref a /\ SqT K H a xs /\ xs.length = n /\ t xs σ H Q
theorem Qqi {es : List Expr} {k : Nat} {t : TGs} {n : Nat} (hc : X.calm = true) (h : PGs X es t)
  (hn : (assignEach es X.env).length = n := by rfl) (hst : (assignEach es X.env).findIdx? (·.1) = none := by rfl) : PG X (.Tuple es k pos) (Qs8 X.K n t) := by
 intro pins s σ H v u Q I r hw
 obtain ⟨a, xs, e1, hq, hl, hw⟩ := hw
 subst e1
 cases r
 obtain ⟨its, rv, ht, hz⟩ := I.tuple hq
 refine assign_Tuple_tuple (I.ok.hd hc) ht (by simp [hn, ← hl, rv.length]) hst λ h' hx => ?_
 have I1 : Inv X pins σ H { s with heap := h' } := I.kept (t' := s.toks) λ b o e => hx b o (ZA (Zk e)) e
 exact h pins _ σ H xs _ Q I1 (by simpa using rv) hw
noncomputable def Qet (to ti : TE) (t : Qju) : TG := λ v σ H Q => to σ H λ o H1 => ti σ H1 λ i H2 => t o i v H2 λ H3 => Q σ H3
theorem Qq2 {o i : Expr} {to ti : TE} {t : Qju} (ho : PE X o to) (hi : PE X i ti) (hs : QnL X t)
  (ha : ∀ v, assign (.Subscript o i pos) X.env v = (do
   let ov ← holding [v] (eval o X.env)
   let iv ← holding [v, ov] (eval i X.env)
   standAt pos
   holding [v, ov, iv] (setItem ov iv v)
   release [v, ov, iv] []) := by intro _; rfl) : PG X (.Subscript o i pos) (Qet to ti t) := by
 intro pins s σ H v u Q I r h
 rw [ha]
 refine wpAny_bind (wpAny_holding (thn (ho pins s σ H _ I h) λ ov s1 ⟨x, H1, I1, r1, q1⟩ => ?_))
 refine wpAny_bind (wpAny_holding (thn (hi pins s1 σ H1 _ I1 q1) λ iv s2 ⟨y, H2, I2, r2, q2⟩ => ?_))
 refine wpAny_bind (wpAny_standAt (wpAny_bind (wpAny_holding (thn (hs pins s2 σ H2 x y v ov iv u _ I2 r1 r2 r q2) λ _ s3 ⟨H3, I3, q3⟩ => ?_))))
 exact wpAny_release ⟨σ, H3, I3, q3⟩
noncomputable def QiE (te : TE) (g : TG) : TS := λ D σ H => te σ H λ x H1 => g x σ H1 D.nx
theorem QlV {tg e : Expr} {te : TE} {g : TG} (he : PE X e te) (hg : PG X tg g) (hs : swapsWithSole [tg] e pos.line X.env = pure false := by rfl) (hw : swappedStores [tg] e X.env = pure none := by rfl)
  (h1 : (assignEach [tg] X.env).map (·.2) = [assign tg X.env] := by rfl) : PS X (.Assign [tg] e pos) (QiE te g) := by
 intro pins s σ H D I h
 refine wpAny_Assign_stores (thn (he pins s σ H _ I h) λ v s1 ⟨x, H1, I1, r1, q1⟩ => ?_) hs hw
 rw [h1]
 exact thn (hg pins s1 σ H1 x v _ I1 r1 q1) λ _ s2 q => q
theorem Qe2 {i : Nat} {x : Str} {e : Expr} {te : TE} {pos' : Pos} (hN : X.N.Nodup) (hi : X.N[i]? = some x) (hx : Loc X.env.scope x) (he : PE X e te) (hs : swapsWith e (some (.Name x pos')) pos.line X.env = pure false := by rfl) (hf : X.fn x = true ∨ X.env.scope.names.lookup x = some .local := by first | exact .inl rfl | exact .inr rfl | assumption) :
  PS X (.Assign [.Name x pos'] e pos) (QiE te (Qfw i)) := by
 intro pins s σ H D I h
 refine wpAny_Assign_Name (thn (he pins s σ H _ I h) λ v s1 ⟨y, H1, I1, r1, q1⟩ => ?_) hs
 exact Qeq I1 hN hi hx r1 (λ s2 I2 => ⟨_, H1, I2, q1⟩) hf
noncomputable def Qr4 (to ti te : TE) (tget : V -> V -> Hp -> VK -> Prop) (tip : TIp) (tset : Qju) : TS := λ D σ H => to σ H λ o H1 => ti σ H1 λ i H2 => tget o i H2 λ x H3 => te σ H3 λ y H4 => tip x y H4 λ z H5 => tset o i z H5 λ H6 => D.nx σ H6
def QqH (X : Cx) (t : V -> V -> Hp -> VK -> Prop) : Prop :=
 ∀ (pins : List (Addr × Obj)) (s : Shared) (σ : St) (H : Hp) (o i : V) (ov iv : Value) (Q : VK), Inv X pins σ H s -> RelV o ov -> RelV i iv -> t o i H Q →
  wpAny (model X.prog X.w) X.A (getItem ov iv) (EP X pins σ Q) X.xe s
theorem Qpa {o i e : Expr} {to ti te : TE} {tget : V -> V -> Hp -> VK -> Prop} {tip : TIp} {tset : Qju} {op : Operator} {tpos : Pos} (ho : PE X o to) (hi : PE X i ti) (hg : QqH X tget) (he : PE X e te) (hp : PIp X op tip) (hs : QnL X tset)
  (ha : ∀ ov iv new, augStore i ov iv new = (do holding [new, ov, iv] (setItem ov iv new); release [new, ov, iv] []; pure .next) := by intros; rfl) : PS X (.AugAssign (.Subscript o i tpos) op e pos) (Qr4 to ti te tget tip tset) := by
 intro pins s σ H D I h
 refine wpAny_AugAssign_SubscriptAny (thn (ho pins s σ H _ I h) λ ov s1 ⟨x1, H1, I1, r1, q1⟩ => ?_) ha
 refine thn (hi pins s1 σ H1 _ I1 q1) λ iv s2 ⟨x2, H2, I2, r2, q2⟩ => ?_
 refine thn (hg pins s2 σ H2 x1 x2 ov iv _ I2 r1 r2 q2) λ old s3 ⟨x3, H3, I3, r3, q3⟩ => ?_
 refine thn (he pins s3 σ H3 _ I3 q3) λ v s4 ⟨x4, H4, I4, r4, q4⟩ => ?_
 refine thn (hp pins s4 σ H4 x3 x4 old v _ I4 r3 r4 q4) λ new s5 ⟨x5, H5, I5, r5, q5⟩ => ?_
 exact thn (hs pins s5 σ H5 x1 x2 x5 ov iv new _ I5 r1 r2 r5 q5) λ _ s6 ⟨H6, I6, q6⟩ => ⟨σ, H6, I6, q6⟩
end
section
variable {X : Cx} {pos : Pos}
end
structure It where
 go : Nat -> Hp -> Prop
 yld : Nat -> Hp -> V -> Hp -> Prop
 stop : Nat -> Hp -> Prop
def QcM (X : Cx) (pins : List (Addr × Obj)) (H : Hp) (b : Addr) : Prop :=
 H b = none /\ b ≠ X.env.locals /\ b ∉ X.fs /\ (b ∈ X.ex ∨ X.s₀.heap.objs.size <= b) /\ (∀ x c, X.env.cells.lookup x = some c -> c ≠ b) /\ ∀ p ∈ X.pn ++ pins, p.1 ≠ b
theorem Inv.QjC {X : Cx} {pins : List (Addr × Obj)} {σ : St} {H H' : Hp} {s : Shared} {b : Addr} (I : Inv X pins σ H s) (hb : s.heap.objs.size <= b) (hn : H' b = none) : QcM X pins H' b := by
 refine ⟨hn, Nat.ne_of_gt (Zo I.lt hb), I.Qtg hb, .inr (Zv I.sz hb), λ x c e z => ?_, λ p hp z => ?_⟩
 ·obtain ⟨v, q⟩ := I.cell x c e
  exact absurd (Zo q.lt (by rw [z]; exact hb)) (ZF _)
 ·exact absurd (Zo (Zk (I.pin p hp).1) (by rw [z]; exact hb)) (ZF _)
structure Turn (P : Program) (w : World) (K : PySem.W.Frag) (tg : Expr) (J : It) (fp : List Addr) (it : Addr) (tn : Nat -> Heap -> Prop) : Prop where
 mem : it ∈ fp
 obj : ∀ i h, tn i h -> ∀ b ∈ fp, ∃ o, h.get? b = some o /\ ∀ v, o.data ≠ .cell v
 keep : ∀ i h h', tn i h -> (∀ b ∈ fp, ∀ o, h.get? b = some o -> h'.get? b = some o) -> tn i h'
 item : ∀ (X : Cx), X.prog = P -> X.w = w -> X.K = K -> X.calm = true -> ∀ (i : Nat) (pins : List (Addr × Obj)) (s : Shared) (σ : St) (H : Hp) (E : Value -> Shared -> Prop), Inv X pins σ H s -> (∀ b ∈ fp, QcM X pins H b) -> tn i s.heap -> J.go i H →
  wpAny (model P w) X.A (pyNext (.ref it)) (λ r s1 => ∃ u, r = some u ∧
   wpAny (model P w) X.A (letOwnedTupleGo tg (.ref it) u) (λ _ s2 => ∃ x H', Inv X pins σ H' s2 /\ RelV x u /\ J.yld i H x H' /\ tn (i + 1) s2.heap /\ ∀ b ∈ fp, H' b = none) E s1) E s
 done : ∀ (X : Cx), X.prog = P -> X.w = w -> X.K = K -> X.calm = true -> ∀ (i : Nat) (pins : List (Addr × Obj)) (s : Shared) (σ : St) (H : Hp) (E : Value -> Shared -> Prop), Inv X pins σ H s -> (∀ b ∈ fp, QcM X pins H b) -> tn i s.heap -> J.stop i H →
  wpAny (model P w) X.A (pyNext (.ref it)) (λ r s1 => r = none /\ Inv X pins σ H s1) E s
 self : ∀ (A : Around) (i : Nat) (s : Shared) (Q : Value -> Shared -> Prop) (E : Value -> Shared -> Prop), tn i s.heap -> Q (.ref it) s -> wpAny (model P w) A (pyIter (.ref it)) Q E s
noncomputable abbrev TI := St -> Hp -> (It -> Hp -> Prop) -> Prop
def PIE (X : Cx) (pins : List (Addr × Obj)) (σ : St) (tg : Expr) (R : It -> Hp -> Prop) (itv : Value) (s2 : Shared) : Prop :=
 ∃ (it : Addr) (fp : List Addr) (tn : Nat -> Heap -> Prop) (J : It) (H' : Hp), itv = .ref it /\ Inv X pins σ H' s2 /\ Turn X.prog X.w X.K tg J fp it tn /\ tn 0 s2.heap /\ (∀ b ∈ fp, QcM X pins H' b) /\ R J H'
def PI (X : Cx) (tg iter : Expr) (wi : TI) : Prop :=
 ∀ (pins : List (Addr × Obj)) (s : Shared) (σ : St) (H : Hp) (R : It -> Hp -> Prop), Inv X pins σ H s -> wi σ H R →
  wpAny (model X.prog X.w) X.A (eval iter X.env) (λ v s1 => wpAny (model X.prog X.w) X.A (pyIter v) (PIE X pins σ tg R) X.xe s1) X.xe s
theorem QkP {M : Model} {A : Around} {E : Value -> Shared -> Prop} {s : Shared} {tg : Expr} {it : Addr} {u : Value} {o : Obj} {n : String} {vs : Array Value} {Q : Unit -> Shared -> Prop} (ho : s.heap.get? it = some o) (hc : o.cls = .type n) (hd : o.data = .fields vs)
    (hn : ["enumerate", "zip", "dict_itemiterator", "dict_reverseitemiterator", "odict_iterator", "itertools.zip_longest", "itertools.pairwise"].contains n = false) (hQ : Q () s) : wpAny M A (letOwnedTupleGo tg (.ref it) u) Q E s := by
  unfold letOwnedTupleGo
  cases tg <;> first
    | exact wpAny_pure hQ
    | (cases u <;> first
        | exact wpAny_pure hQ
        | (refine wpAny_bind (wpAny_load ho ?_)
           rw [hc, hd]
           show wpAny M A (if (["enumerate", "zip", "dict_itemiterator", "dict_reverseitemiterator", "odict_iterator", "itertools.zip_longest", "itertools.pairwise"].contains n && vs[0]? == some (rawInt _)) = true then _ else _) Q E s
           rw [if_neg (by intro h; rw [hn, Bool.false_and] at h; cases h)]
           exact wpAny_pure hQ))
noncomputable def Itl (K : PySem.W.Frag) (a : Addr) : It :=
 ⟨λ i H => ∃ xs x, SqL K H a xs /\ xs[i]? = some x, λ i H x H' => H' = H /\ ∀ xs, SqL K H a xs -> xs[i]? = some x, λ i H => ∃ xs, SqL K H a xs /\ xs.length <= i⟩
noncomputable def Itt (K : PySem.W.Frag) (a : Addr) : It :=
 ⟨λ i H => ∃ xs x, SqT K H a xs /\ xs[i]? = some x, λ i H x H' => H' = H /\ ∀ xs, SqT K H a xs -> xs[i]? = some x, λ i H => ∃ xs, SqT K H a xs /\ xs.length <= i⟩
noncomputable def Itr (lo : Int) (n : Nat) : It := ⟨λ i _ => i < n, λ i H x H' => H' = H /\ x = .int (lo + i), λ i _ => n <= i⟩
theorem QlD {P : Program} {w : World} {K : PySem.W.Frag} {tg : Expr} (a it : Addr) : Turn P w K tg (Itl K a) [it] it (λ i h => h.IsListIter it a i) where
 mem := by simp
 obj := λ i h st b hb => by
  have e : b = it := by simpa using hb
  subst e
  obtain ⟨o, e, c, d⟩ := st
  exact ⟨o, e, λ v z => by rw [d] at z; cases z⟩
 keep := λ i h h' st k => st.at λ o e => k it (by simp) o e
 item := by
  intro X hP hw hK hc i pins s σ H E I hf st hg
  subst hP hw hK
  obtain ⟨xs, x, hq, hx⟩ := hg
  obtain ⟨its, rv, p, hz⟩ := I.list hq
  obtain ⟨u, hu, ru⟩ := rv.get hx
  obtain ⟨f0, f1, f2, f3, f4, f5⟩ := hf it (by simp)
  refine wpAny_pyNext_list_item st p.isList (x := u) (by simpa using hu) λ h' st' sb => ?_
  have I1 : Inv X pins σ H { s with heap := h' } := I.turned (t' := s.toks) (λ b o hb e => (sb.2 b hb).trans e) f0 f1 f3 f4 f5
  obtain ⟨o, e, c, d⟩ := id st'
  exact ⟨u, rfl, QkP (s := { s with heap := h' }) e c d (by decide) ⟨x, H, I1, ru, ⟨rfl, λ ys hy => by rw [I.QeF hy hq]; exact hx⟩, st', λ b hb => (hf b hb).1⟩⟩
 done := by
  intro X hP hw hK hc i pins s σ H E I hf st hg
  subst hP hw hK
  obtain ⟨xs, hq, hx⟩ := hg
  obtain ⟨its, rv, p, hz⟩ := I.list hq
  obtain ⟨f0, f1, f2, f3, f4, f5⟩ := hf it (by simp)
  have hl := rv.length
  exact wpAny_pyNext_list_end (I.ok.hd hc) st p.isList (by simp; omega) λ h' eb => ⟨rfl, I.turned (t' := s.toks) (λ b o hb e => eb b o hb e) f0 f1 f3 f4 f5⟩
 self := λ _ _ _ _ _ st h => wpAny_pyIter_listiter st h
theorem QkH {P : Program} {w : World} {K : PySem.W.Frag} {tg : Expr} (a it : Addr) : Turn P w K tg (Itt K a) [it] it (λ i h => h.IsTupleIter it a i) where
 mem := by simp
 obj := λ i h st b hb => by
  have e : b = it := by simpa using hb
  subst e
  obtain ⟨o, e, c, d⟩ := st
  exact ⟨o, e, λ v z => by rw [d] at z; cases z⟩
 keep := λ i h h' st k => st.at λ o e => k it (by simp) o e
 item := by
  intro X hP hw hK hc i pins s σ H E I hf st hg
  subst hP hw hK
  obtain ⟨xs, x, hq, hx⟩ := hg
  obtain ⟨its, rv, p, hz⟩ := I.tuple hq
  obtain ⟨u, hu, ru⟩ := rv.get hx
  obtain ⟨f0, f1, f2, f3, f4, f5⟩ := hf it (by simp)
  refine wpAny_pyNext_tuple_item st (show s.heap.IsTuple a its.toArray from p) (x := u) (by simpa using hu) λ h' st' sb => ?_
  have I1 : Inv X pins σ H { s with heap := h' } := I.turned (t' := s.toks) (λ b o hb e => (sb.2 b hb).trans e) f0 f1 f3 f4 f5
  obtain ⟨o, e, c, d⟩ := id st'
  exact ⟨u, rfl, QkP (s := { s with heap := h' }) e c d (by decide) ⟨x, H, I1, ru, ⟨rfl, λ ys hy => by rw [I.QlB hy hq]; exact hx⟩, st', λ b hb => (hf b hb).1⟩⟩
 done := by
  intro X hP hw hK hc i pins s σ H E I hf st hg
  subst hP hw hK
  obtain ⟨xs, hq, hx⟩ := hg
  obtain ⟨its, rv, p, hz⟩ := I.tuple hq
  obtain ⟨f0, f1, f2, f3, f4, f5⟩ := hf it (by simp)
  have hl := rv.length
  exact wpAny_pyNext_tuple_end (I.ok.hd hc) st (show s.heap.IsTuple a its.toArray from p) (by simp; omega) λ h' eb => ⟨rfl, I.turned (t' := s.toks) (λ b o hb e => eb b o hb e) f0 f1 f3 f4 f5⟩
 self := λ _ _ _ _ _ st h => wpAny_pyIter_tupleiter st h
theorem Qkt {P : Program} {w : World} {K : PySem.W.Frag} {tg : Expr} (it : Addr) (lo : Int) (n : Nat) : Turn P w K tg (Itr lo n) [it] it (λ i h => IsRangeIter h it (lo + (i : Nat) * 1) ((n : Int) - (i : Nat)) 1) where
 mem := by simp
 obj := λ i h st b hb => by
  have e : b = it := by simpa using hb
  subst e
  exact ⟨_, st, λ v z => by
   have z' : Data.fields _ = Data.cell v := z
   cases z'⟩
 keep := λ i h h' st k => k it (by simp) _ st
 item := by
  intro X hP hw hK hc i pins s σ H E I hf st hg
  subst hP hw hK
  obtain ⟨f0, f1, f2, f3, f4, f5⟩ := hf it (by simp)
  have W := Walks.range (prog := X.prog) (w := X.w) (I.ok.hd hc) it lo 1 n
  refine W.item i s _ _ hg st λ v h' tk hv st' kk => ?_
  obtain ⟨t, rfl⟩ := hv
  have I1 : Inv X pins σ H { s with heap := h', toks := tk } := I.turned (λ b o hb e => kk b o (by simpa using hb) e) f0 f1 f3 f4 f5
  refine ⟨_, rfl, QkP (s := { s with heap := h', toks := tk }) (n := "range_iterator") st' rfl rfl (by decide) ⟨.int (lo + i), H, I1, ⟨t, ?_⟩, ⟨rfl, rfl⟩, st', λ b hb => (hf b hb).1⟩⟩
  rw [Int.mul_one]
 done := by
  intro X hP hw hK hc i pins s σ H E I hf st hg
  subst hP hw hK
  obtain ⟨f0, f1, f2, f3, f4, f5⟩ := hf it (by simp)
  exact wpAny_pyNext_range_end (I.ok.hd hc) st (by have : n <= i := hg; omega) λ h' eb => ⟨rfl, I.turned (t' := s.toks) (λ b o hb e => eb b o hb e) f0 f1 f3 f4 f5⟩
 self := λ _ _ _ _ _ st h => wpAny_pyIter_rangeiter st h
end L2
namespace L2
open PySem PySem.Spec PyProof.Rows
section
variable {X : Cx} {tg : Expr}
theorem QiG {pins : List (Addr × Obj)} {σ : St} {H : Hp} {s : Shared} {R : It -> Hp -> Prop} {E : Value -> Shared -> Prop} {lo hi : Int} {t u v : Tok} {tk : Nat} (I : Inv X pins σ H s) (h1 : -(2 ^ 62) <= lo) (h2 : lo < 2 ^ 62) (h3 : -(2 ^ 62) <= hi) (h4 : hi < 2 ^ 62)
  (q : R (Itr lo (hi - lo).toNat) H) : wpAny (model X.prog X.w) X.A (pyIter (.ref s.heap.objs.size)) (PIE X pins σ tg R) E { s with heap := s.heap.push { cls := .type "range", data := .fields #[.int lo t, .int hi u, .int 1 v] }, toks := tk } := by
 refine wpAny_pyIter_range (IsRange.new ..) (small_one h1 h2 h3 h4) ?_
 have I1 : Inv X pins σ H { s with heap := s.heap.push { cls := .type "range", data := .fields #[.int lo t, .int hi u, .int 1 v] }, toks := tk } := I.kept λ b o e => Zl _ e
 refine ⟨(s.heap.push { cls := .type "range", data := .fields #[.int lo t, .int hi u, .int 1 v] }).objs.size, [(s.heap.push { cls := .type "range", data := .fields #[.int lo t, .int hi u, .int 1 v] }).objs.size], _, _, H, rfl,
  I1.kept (t' := tk) λ b o e => Zl _ e, Qkt _ lo (hi - lo).toNat, ?_, λ b hb => ?_, q⟩
 ·have e1 : lo + ((0 : Nat) : Int) * 1 = lo := by simp
  have e2 : (((hi - lo).toNat : Nat) : Int) - ((0 : Nat) : Int) = Builtin.Range.rangeSize lo hi 1 := by rw [rangeSize_one]; split <;> omega
  show IsRangeIter _ _ (lo + ((0 : Nat) : Int) * 1) ((((hi - lo).toNat : Nat) : Int) - ((0 : Nat) : Int)) 1
  rw [e1, e2]
  exact Zy _ rfl
 ·have e : b = (s.heap.push { cls := .type "range", data := .fields #[.int lo t, .int hi u, .int 1 v] }).objs.size := by simpa using hb
  subst e
  exact I1.QjC (Zj _) (I1.hok.fresh (Zj _))
noncomputable def Qsg (ta : TA) : TI := λ σ H R => ta σ H λ vs H1 => ∃ j : Int, vs = [.int j] /\ -(2 ^ 62) <= j /\ j < 2 ^ 62 /\ R (Itr 0 j.toNat) H1
noncomputable def Qsv (ta : TA) : TI := λ σ H R => ta σ H λ vs H1 => ∃ i j : Int, vs = [.int i, .int j] /\ (-(2 ^ 62) <= i /\ i < 2 ^ 62 /\ -(2 ^ 62) <= j /\ j < 2 ^ 62) /\ R (Itr i (j - i).toNat) H1
theorem Qld {a : Expr} {ta : TA} {p pos : Pos} (hg : Gl X "range") (hm : X.mg "range" = none) (ha : PA X [a] ta) (hs : starEach [a] X.env = [(false, eval a X.env)] := by rfl) : PI X tg (.Call (.Name "range" p) [a] [] pos) (Qsg ta) := by
 intro pins s σ H R I h
 refine Call_ (Qb5 I hg hm boot_range (ZK (thn (ha pos pins s σ H _ I h) λ us s1 ⟨vs, H1, I1, r1, q1⟩ => ?_) hs rfl))
 obtain ⟨j, e, q1, q2, q⟩ := q1
 subst e
 cases r1 with
 | cons r rr =>
  cases rr
  obtain ⟨t, rfl⟩ := r
  exact call_range_1 (QiG I1 (by omega) (by omega) q1 q2 (by simpa using q))
theorem Qmo {a b : Expr} {ta : TA} {p pos : Pos} (hg : Gl X "range") (hm : X.mg "range" = none) (ha : PA X [a, b] ta) (hs : starEach [a, b] X.env = [(false, eval a X.env), (false, eval b X.env)] := by rfl) (hs2 : starEach [b] X.env = [(false, eval b X.env)] := by rfl) :
  PI X tg (.Call (.Name "range" p) [a, b] [] pos) (Qsv ta) := by
 intro pins s σ H R I h
 refine Call_ (Qb5 I hg hm boot_range (ZK (thn (ha pos pins s σ H _ I h) λ us s1 ⟨vs, H1, I1, r1, q1⟩ => ?_) (by rw [hs, hs2]) (by rw [hs2]; rfl)))
 obtain ⟨i, j, e, ⟨q1, q2, q3, q4⟩, q⟩ := q1
 subst e
 cases r1 with
 | cons r rr =>
  cases rr with
  | cons r' rr =>
   cases rr
   obtain ⟨t, rfl⟩ := r
   obtain ⟨t', rfl⟩ := r'
   exact call_range_2 (QiG I1 q1 q2 q3 q4 q)
noncomputable def QsY (wi : TI) (g : TG) (tb : TS) : TS := λ D σ H => wi σ H λ J H1 => ∃ W : Nat -> Nat -> St -> Hp -> Prop, (∃ m, W 0 m σ H1) /\ ∀ i m σ H, W i m σ H →
 (J.stop i H /\ D.nx σ H) ∨ (J.go i H /\ ∃ N : St -> Hp -> Prop, (∀ σ' H', N σ' H' -> ∃ m', m' < m /\ W (i + 1) m' σ' H') /\ ∀ x H', J.yld i H x H' -> g x σ H' λ σ2 H2 => tb { D with nx := N, ct := N, bk := D.nx } σ2 H2)
noncomputable def QeX (fp : List Addr) (h : Heap) : List (Addr × Obj) := fp.filterMap λ b => (h.get? b).map λ o => (b, o)
theorem Qez {fp : List Addr} {h : Heap} {b : Addr} {o : Obj} (hb : b ∈ fp) (e : h.get? b = some o) : (b, o) ∈ QeX fp h := Zau.mpr ⟨b, hb, by rw [e]; rfl⟩
theorem QmC {fp : List Addr} {h : Heap} {p : Addr × Obj} (hp : p ∈ QeX fp h) : p.1 ∈ fp /\ h.get? p.1 = some p.2 := by
 obtain ⟨b, hb, e⟩ := Zau.mp hp
 cases q : h.get? b with
 | none => rw [q] at e; cases e
 | some o =>
  rw [q] at e
  have e' : (b, o) = p := Option.some.inj e
  subst e'
  exact ⟨hb, q⟩
theorem Inv.pinned {pins : List (Addr × Obj)} {σ : St} {H : Hp} {s : Shared} {fp : List Addr} (I : Inv X pins σ H s) (hf : ∀ b ∈ fp, QcM X pins H b) (ho : ∀ b ∈ fp, ∃ o, s.heap.get? b = some o /\ ∀ v, o.data ≠ .cell v) : Inv X (pins ++ QeX fp s.heap) σ H s :=
 I.Qks λ p hp => (ZD.mp hp).elim (λ z => I.pin p (Ze _ z)) λ z => by
  obtain ⟨hb, e⟩ := QmC z
  obtain ⟨f0, f1, f2, _⟩ := hf p.1 hb
  obtain ⟨o, e', d⟩ := ho p.1 hb
  rw [e] at e'; cases e'
  exact ⟨e, f0, f1, f2, d⟩
theorem Inv.QeH {pins pl : List (Addr × Obj)} {σ : St} {H : Hp} {s : Shared} (I : Inv X (pins ++ pl) σ H s) : Inv X pins σ H s := I.Qks λ p hp => I.pin p (Ze _ (Zd _ hp))
theorem Ql2 {iter : Expr} {body : List Stmt} {wi : TI} {g : TG} {tb : TS} {pos : Pos} (hp : PassesOwn (model X.prog X.w) X.A X.env X.xe) (hc : X.calm = true) (hi : PI X tg iter wi) (hg : PG X tg g) (hb : PSs X body tb)
  (hs : ∀ x, foldedSetIterable iter X.env x = pure x := by intro _; rfl) : PS X (.For tg iter body [] pos) (QsY wi g tb) := by
 intro pins s σ H D I h
 refine wpAny_For (thn (hi pins s σ H _ I h) λ v s1 h1 => thn h1 λ itv s2 h2 => ?_) hs
 obtain ⟨it, fp, tn, J, H2, e, I2, T, st2, f2, W, ⟨m0, w0⟩, turn⟩ := h2
 subst e
 have stat : ∀ {H' : Hp}, (∀ b ∈ fp, H' b = none) -> ∀ b ∈ fp, QcM X pins H' b := λ hn b hb => ⟨hn b hb, (f2 b hb).2⟩
 refine codeAny_forLoop_any (λ n s' => ∃ i σ' H', Inv X pins σ' H' s' /\ tn i s'.heap /\ (∀ b ∈ fp, H' b = none) /\ W i n σ' H') ?_ m0 ⟨0, σ, H2, I2, st2, λ b hb => (f2 b hb).1, w0⟩
 rintro n s3 ⟨i, σ3, H3, I3, st3, fr3, w3⟩
 rcases turn i n σ3 H3 w3 with ⟨stop, qn⟩ | ⟨go, N, hN, step⟩
 ·refine wpAny_passesOwn hp (thn (T.done X rfl rfl rfl hc i pins s3 σ3 H3 X.xe I3 (stat fr3) st3 stop) λ r s4 ⟨hr, I4⟩ => ?_)
  subst hr
  exact wpAny_execs_nil ⟨σ3, H3, I4, qn⟩
 ·refine wpAny_passesOwn hp (thn (T.item X rfl rfl rfl hc i pins s3 σ3 H3 X.xe I3 (stat fr3) st3 go) λ r s4 ⟨u, hr, h4⟩ => ?_)
  subst hr
  refine wpAny_passesOwn hp (thn h4 λ _ s5 ⟨x, H5, I5, r5, y5, st5, fr5⟩ => ?_)
  have I5' := I5.pinned (stat fr5) (T.obj _ _ st5)
  refine wpAny_passesOwn hp (thn (hg _ s5 σ3 H5 x u _ I5' r5 (step x H5 y5)) λ _ s6 ⟨σ6, H6, I6, q6⟩ => ?_)
  refine wpAny_passesOwn hp (thn (hb _ s6 σ6 H6 _ I6 q6) λ f s7 q7 => ?_)
  have again : ∀ {σ7 : St} {H7 : Hp}, Inv X (pins ++ QeX fp s5.heap) σ7 H7 s7 -> N σ7 H7 -> ∃ m, m < n /\ ∃ i σ' H', Inv X pins σ' H' s7 /\ tn i s7.heap /\ (∀ b ∈ fp, H' b = none) /\ W i m σ' H' := λ {σ7 H7} I7 n7 => by
   obtain ⟨m', hm, w7⟩ := hN σ7 H7 n7
   refine ⟨m', hm, i + 1, σ7, H7, I7.QeH, T.keep _ _ _ st5 λ b hb o e => (I7.pin (b, o) (Ze _ (Ze _ (Qez hb e)))).1, λ b hb => ?_, w7⟩
   obtain ⟨o, e, d⟩ := T.obj _ _ st5 b hb
   exact (I7.pin (b, o) (Ze _ (Ze _ (Qez hb e)))).2.1
  cases f with
  | next => obtain ⟨σ7, H7, I7, n7⟩ := q7; exact again I7 n7
  | cont => obtain ⟨σ7, H7, I7, n7⟩ := q7; exact again I7 n7
  | brk => obtain ⟨σ7, H7, I7, q7⟩ := q7; exact ⟨σ7, H7, I7.QeH, q7⟩
  | ret v => obtain ⟨x7, σ7, H7, I7, r7, q7⟩ := q7; exact ⟨x7, σ7, H7, I7.QeH, r7, q7⟩
end
end L2
namespace L2
open PySem PySem.Spec PyProof.Rows
noncomputable abbrev R2 := V -> V -> Hp -> VK -> Prop
def OpR (X : Cx) (f : Value -> Value -> Sem Value) (r : R2) : Prop :=
 ∀ (pins : List (Addr × Obj)) (s : Shared) (σ : St) (H : Hp) (x y : V) (v u : Value) (Q : VK), Inv X pins σ H s -> RelV x v -> RelV y u -> r x y H Q →
  wpAny (model X.prog X.w) X.A (f v u) (EP X pins σ Q) X.xe s
def UnR (X : Cx) (f : Value -> Sem Value) (r : V -> Hp -> VK -> Prop) : Prop :=
 ∀ (pins : List (Addr × Obj)) (s : Shared) (σ : St) (H : Hp) (x : V) (v : Value) (Q : VK), Inv X pins σ H s -> RelV x v -> r x H Q →
  wpAny (model X.prog X.w) X.A (f v) (EP X pins σ Q) X.xe s
def Qbj (X : Cx) (f : Value) (r : List V -> Hp -> VK -> Prop) : Prop :=
 ∀ (pins : List (Addr × Obj)) (s : Shared) (σ : St) (H : Hp) (xs : List V) (us : List Value) (Q : VK), Inv X pins σ H s -> Ql xs us -> r xs H Q →
  wpAny (model X.prog X.w) X.A (call f us) (EP X pins σ Q) X.xe s
def QsG (X : Cx) (r : V -> Hp -> (Bool -> Hp -> Prop) -> Prop) : Prop :=
 ∀ (pins : List (Addr × Obj)) (s : Shared) (σ : St) (H : Hp) (x : V) (v : Value) (Q : Bool -> Hp -> Prop), Inv X pins σ H s -> RelV x v -> r x H Q →
  wpAny (model X.prog X.w) X.A (truthy v) (TP X pins σ Q) X.xe s
noncomputable def tOp (r : R2) (ta tb : TE) : TE := λ σ H Q => ta σ H λ x H1 => tb σ H1 λ y H2 => r x y H2 Q
noncomputable def tUn (r : V -> Hp -> VK -> Prop) (ta : TE) : TE := λ σ H Q => ta σ H λ x H1 => r x H1 Q
noncomputable def rI (C : Int -> Int -> Prop) (g : Int -> Int -> V) : R2 := λ x y H Q => ∃ i j, x = .int i /\ y = .int j /\ C i j /\ Q (g i j) H
noncomputable def rI0 (g : Int -> Int -> V) : R2 := λ x y H Q => ∃ i j, x = .int i /\ y = .int j /\ Q (g i j) H
noncomputable def rU (g : Int -> V) : V -> Hp -> VK -> Prop := λ x H Q => ∃ i, x = .int i /\ Q (g i) H
section
variable {X : Cx} {a b c : Expr} {ta tb tc : TE} {pos : Pos}
theorem Qni (ha : PE X a ta) (hb : PE X b tb) {pins : List (Addr × Obj)} {s : Shared} {σ : St} {H : Hp} {R : V -> V -> Hp -> Prop} (I : Inv X pins σ H s)
  (h : ta σ H λ x H1 => tb σ H1 λ y H2 => R x y H2) {Q : Value -> Shared -> Prop} {f : Value -> Value -> Sem Value}
  (hf : ∀ v u s2 x y H2, Inv X pins σ H2 s2 -> RelV x v -> RelV y u -> R x y H2 -> wpAny (model X.prog X.w) X.A (f v u) Q X.xe s2) :
  wpAny (model X.prog X.w) X.A (eval a X.env) (λ v s₁ => wpAny (model X.prog X.w) X.A (eval b X.env) (λ u s₂ => wpAny (model X.prog X.w) X.A (f v u) Q X.xe s₂) X.xe s₁) X.xe s := by
 refine thn (ha pins s σ H _ I h) λ v s1 ⟨x, H1, I1, r1, q1⟩ => ?_
 refine thn (hb pins s1 σ H1 _ I1 q1) λ u s2 ⟨y, H2, I2, r2, q2⟩ => ?_
 exact hf v u s2 x y H2 I2 r1 r2 q2
theorem Qk4 {op : Operator} {r : R2} (ho : OpR X (binaryOp op) r) (ha : PE X a ta) (hb : PE X b tb) : PE X (.BinOp a op b pos) (tOp r ta tb) := by
 intro pins s σ H Q I h
 exact wpAny_BinOp (Qni ha hb I h λ v u s2 x y H2 I2 rx ry q => ho pins s2 σ H2 x y v u Q I2 rx ry q)
theorem Qsb {op : UnaryOp} {r : V -> Hp -> VK -> Prop} (ho : UnR X (unaryOp op) r) (ha : PE X a ta) : PE X (.UnaryOp op a pos) (tUn r ta) := by
 intro pins s σ H Q I h
 exact UnaryOp_ (thn (ha pins s σ H _ I h) λ v s1 ⟨x, H1, I1, r1, q1⟩ => ho pins s1 σ H1 x v Q I1 r1 q1)
theorem Qs0 {op : Operator} {r : R2} (ho : OpR X (inplaceOp op) r) {pins : List (Addr × Obj)} {s : Shared} {σ : St} {H : Hp} {x y : V} {v u : Value} {Q : VK} (I : Inv X pins σ H s)
  (rx : RelV x v) (ry : RelV y u) (q : r x y H Q) : wpAny (model X.prog X.w) X.A (inplaceOp op v u) (EP X pins σ Q) X.xe s := ho pins s σ H x y v u Q I rx ry q
theorem opI {f : Value -> Value -> Sem Value} {C : Int -> Int -> Prop} {g : Int -> Int -> Int}
  (rule : ∀ (i j : Int) (t u : Tok) (s : Shared) (Q : Value -> Shared -> Prop) (E : Value -> Shared -> Prop), C i j -> Q (.int (g i j) s.toks) { s with toks := s.toks + 1 } -> wpAny (model X.prog X.w) X.A (f (.int i t) (.int j u)) Q E s) :
  OpR X f (rI C λ i j => .int (g i j)) := by
 intro pins s σ H x y v u Q I rx ry h
 obtain ⟨i, j, rfl, rfl, hc, q⟩ := h
 obtain ⟨t, rfl⟩ := rx
 obtain ⟨t', rfl⟩ := ry
 exact rule i j t t' s _ _ hc ⟨.int (g i j), H, I.tok _, ⟨_, rfl⟩, q⟩
theorem QkK {f : Value -> Value -> Sem Value} {g : Int -> Int -> Int}
  (rule : ∀ (i j : Int) (t u : Tok) (s : Shared) (Q : Value -> Shared -> Prop) (E : Value -> Shared -> Prop), Q (.int (g i j) s.toks) { s with toks := s.toks + 1 } -> wpAny (model X.prog X.w) X.A (f (.int i t) (.int j u)) Q E s) :
  OpR X f (rI0 λ i j => .int (g i j)) := by
 intro pins s σ H x y v u Q I rx ry h
 obtain ⟨i, j, rfl, rfl, q⟩ := h
 obtain ⟨t, rfl⟩ := rx
 obtain ⟨t', rfl⟩ := ry
 exact rule i j t t' s _ _ ⟨.int (g i j), H, I.tok _, ⟨_, rfl⟩, q⟩
theorem QkJ {f : Value -> Value -> Sem Value} {g : Int -> Int -> Bool}
  (rule : ∀ (i j : Int) (t u : Tok) (s : Shared) (Q : Value -> Shared -> Prop) (E : Value -> Shared -> Prop), Q (.bool (g i j)) s -> wpAny (model X.prog X.w) X.A (f (.int i t) (.int j u)) Q E s) :
  OpR X f (rI0 λ i j => .bl (g i j)) := by
 intro pins s σ H x y v u Q I rx ry h
 obtain ⟨i, j, rfl, rfl, q⟩ := h
 obtain ⟨t, rfl⟩ := rx
 obtain ⟨t', rfl⟩ := ry
 exact rule i j t t' s _ _ ⟨.bl (g i j), H, I, rfl, q⟩
def Qq5 (i j : Int) : Prop := (-(2 ^ 64) < i /\ i < 2 ^ 64) ∨ (-(2 ^ 64) < j /\ j < 2 ^ 64)
theorem Qq5.ok {i j : Int} (h : Qq5 i j) : IntMulOk i j := by
 rcases h with ⟨h1, h2⟩ | ⟨h1, h2⟩
 ·exact .of_left (intBits_le_64 h1 h2)
 ·exact .of_right (intBits_le_64 h1 h2)
theorem QqJ : OpR X (binaryOp .Add) (rI0 λ i j => .int (i + j)) := QkK λ _ _ _ _ _ _ _ q => add_int q
theorem QqL : OpR X (binaryOp .Sub) (rI0 λ i j => .int (i - j)) := QkK λ _ _ _ _ _ _ _ q => sub_int q
theorem QoA : OpR X (inplaceOp .Add) (rI0 λ i j => .int (i + j)) := QkK λ _ _ _ _ _ _ _ q => iadd_int q
theorem Qqa : OpR X (inplaceOp .Sub) (rI0 λ i j => .int (i - j)) := QkK λ _ _ _ _ _ _ _ q => isub_int q
theorem unI {f : Value -> Sem Value} {g : Int -> Int}
  (rule : ∀ (i : Int) (t : Tok) (s : Shared) (Q : Value -> Shared -> Prop) (E : Value -> Shared -> Prop), Q (.int (g i) s.toks) { s with toks := s.toks + 1 } -> wpAny (model X.prog X.w) X.A (f (.int i t)) Q E s) :
  UnR X f (rU λ i => .int (g i)) := by
 intro pins s σ H x v Q I rx h
 obtain ⟨i, rfl, q⟩ := h
 obtain ⟨t, rfl⟩ := rx
 exact rule i t s _ _ ⟨.int (g i), H, I.tok _, ⟨_, rfl⟩, q⟩
theorem Qqu : UnR X (unaryOp .USub) (rU λ i => .int (-i)) := unI λ _ _ _ _ _ q => neg_int q
end
section
variable {X : Cx} {a b c : Expr} {ta tb tc : TE} {pos : Pos}
theorem QrR : OpR X (compareOp .Lt) (rI0 λ i j => .bl (decide (i < j))) := QkJ λ _ _ _ _ _ _ _ q => lt_int q
theorem Qsc : OpR X (compareOp .LtE) (rI0 λ i j => .bl (decide (i <= j))) := QkJ λ _ _ _ _ _ _ _ q => le_int q
theorem Qr6 : OpR X (compareOp .Gt) (rI0 λ i j => .bl (decide (j < i))) := QkJ λ _ _ _ _ _ _ _ q => gt_int q
theorem Qsx : OpR X (compareOp .GtE) (rI0 λ i j => .bl (decide (j <= i))) := QkJ λ _ _ _ _ _ _ _ q => ge_int q
theorem OpR.or {f : Value -> Value -> Sem Value} {r r' : R2} (h : OpR X f r) (h' : OpR X f r') : OpR X f (λ x y H Q => r x y H Q ∨ r' x y H Q) := by
 intro pins s σ H x y v u Q I rx ry q
 rcases q with q | q
 ·exact h pins s σ H x y v u Q I rx ry q
 ·exact h' pins s σ H x y v u Q I rx ry q
theorem Qtm (b : Expr) {op : CmpOp} (h : op ≠ .In := by decide) (h2 : op ≠ .NotIn := by decide) : behindInMarks op b = false := by
 have e1 : (op == CmpOp.In) = false := by cases op <;> first | rfl | exact absurd rfl h
 have e2 : (op == CmpOp.NotIn) = false := by cases op <;> first | rfl | exact absurd rfl h2
 cases b <;> simp [behindInMarks, e1, e2]
theorem Qp0 {op : CmpOp} {r : R2} (ho : OpR X (compareOp op) r) (ha : PE X a ta) (hb : PE X b tb) (hm : behindInMarks op b = false) : PE X (.Compare a [op] [b] pos) (tOp r ta tb) := by
 intro pins s σ H Q I h
 exact wpAny_Compare1 (Qni ha hb I h λ v u s2 x y H2 I2 rx ry q => ho pins s2 σ H2 x y v u Q I2 rx ry q) hm
noncomputable def QrS (t : TE) : TT := λ σ H Q => t σ H λ x H' => ∃ k, x = .bl k /\ Q k H'
theorem QoN {op : CmpOp} {r : R2} (ho : OpR X (compareOp op) r) (ha : PE X a ta) (hb : PE X b tb) (hm : behindInMarks op b = false) : PT X (.Compare a [op] [b] pos) (QrS (tOp r ta tb)) := by
 intro pins s σ H Q I h
 refine wpAny_isTrue_Compare1 (thn (ha pins s σ H _ I h) λ v s1 ⟨x, H1, I1, r1, q1⟩ => thn (hb pins s1 σ H1 _ I1 q1) λ u s2 ⟨y, H2, I2, r2, q2⟩ =>
  thn (ho pins s2 σ H2 x y v u _ I2 r1 r2 q2) λ c s3 ⟨z, H3, I3, r3, k, e, q3⟩ => ?_) hm
 subst e
 cases r3
 exact wpAny_truthy_bool ⟨H3, I3, q3⟩
def Qn5 (K : PySem.W.Frag) (x : V) (H : Hp) (k : Bool) : Prop :=
 match x with
 | .non => k = false
 | .bl b => k = b
 | .int i => k = (i != 0)
 | .str y => y.length <= sizeLine /\ k = ((y.length : Int) != 0)
 | .byt y => y.size <= sizeLine /\ k = ((y.size : Int) != 0)
 | .ref p => (∃ xs, SqL K H p xs /\ k = !xs.isEmpty) ∨ (∃ xs, SqT K H p xs /\ k = !xs.isEmpty) ∨ ∃ kvs, H p = some (.dK kvs) /\ k = !kvs.isEmpty
 | _ => False
theorem QkW {κ : Type} {kvs : List (κ × V)} {vs : List (κ × Value)} (r : KV kvs vs) : (!vs.isEmpty) = !kvs.isEmpty := by
 cases r <;> rfl
theorem Qge {xs : List V} {its : List Value} (r : Ql xs its) : (!its.toArray.isEmpty) = !xs.isEmpty := by
 cases r <;> simp
theorem Qel : (sizeLine : Nat) < 2 ^ 63 := by rw [sizeLine_eq]; decide
theorem Qgs : QsG X (λ x H Q => ∃ k, Qn5 X.K x H k /\ Q k H) := by
 intro pins s σ H x v Q I rx h
 obtain ⟨k, e, q⟩ := h
 have hl := Qel
 have hs : sizeLine = 16777216 := sizeLine_eq
 cases x with
 | non =>
  cases rx
  have e' : k = false := e
  subst e'
  exact truthy_none ⟨H, I, q⟩
 | bl b =>
  cases rx
  have e' : k = b := e
  subst e'
  exact wpAny_truthy_bool ⟨H, I, q⟩
 | int i =>
  obtain ⟨t, rfl⟩ := rx
  have e' : k = (i != 0) := e
  subst e'
  exact PySem.P.truthy_int ⟨H, I, q⟩
 | str y =>
  obtain ⟨t, rfl⟩ := rx
  obtain ⟨hy, e'⟩ : y.length <= sizeLine /\ k = ((y.length : Int) != 0) := e
  subst e'
  exact PySem.P.truthy_str (by omega) ⟨H, I.tok _, q⟩
 | byt y =>
  obtain ⟨t, rfl⟩ := rx
  obtain ⟨hy, e'⟩ : y.size <= sizeLine /\ k = ((y.size : Int) != 0) := e
  subst e'
  exact PySem.W.truthy_bytes (by omega) ⟨H, I.tok _, q⟩
 | ref p =>
  cases rx
  have e' : (∃ xs, SqL X.K H p xs /\ k = !xs.isEmpty) ∨ (∃ xs, SqT X.K H p xs /\ k = !xs.isEmpty) ∨ ∃ kvs, H p = some (.dK kvs) /\ k = !kvs.isEmpty := e
  rcases e' with ⟨xs, hx, e'⟩ | ⟨xs, hx, e'⟩ | ⟨kvs, hx, e'⟩
  ·subst e'
   obtain ⟨its, r, pl, hz⟩ := I.list hx
   have hlen := r.length
   exact wpAny_truthy_list pl.isList (by simp only [Zn]; omega) ⟨H, I.tok _, by rw [Qge r]; exact q⟩
  ·subst e'
   obtain ⟨its, r, pl, hz⟩ := I.tuple hx
   have hlen := r.length
   exact truthy_tuple pl (by simp only [Zn]; omega) ⟨H, I.tok _, by rw [Qge r]; exact q⟩
  ·subst e'
   obtain ⟨hz, hS, vs, r, m⟩ : kvs.length <= sizeLine /\ (p == sysModules) = false /\ ∃ vs, KV kvs vs /\ s.heap.DictOf (QhF X.prog X.w) p vs := I.hok p _ hx
   have hlen : kvs.length = vs.length := Paired.length r
   exact wpAny_truthy_dict hS m (by omega) ⟨H, I.tok _, by rw [QkW r]; exact q⟩
 | _ => exact (show False from e).elim
theorem QmZ (ha : PE X a ta) (he : ∀ whole, isTrue a X.env whole = (do let v ← whole; standAt a.pos; holding [v] (truthy v))) :
  PT X a (λ σ H Q => ta σ H λ x H' => ∃ k, Qn5 X.K x H' k /\ Q k H') := by
 intro pins s σ H Q I h
 exact isTrue_plain (thn (ha pins s σ H _ I h) λ v s1 ⟨x, H1, I1, r1, q1⟩ => Qgs pins s1 σ H1 x v Q I1 r1 q1) (he _)
theorem vals1 {x : V} {us : List Value} (r : Ql [x] us) : ∃ u, us = [u] /\ RelV x u := by
 cases r with
 | cons r1 r2 => cases r2; exact ⟨_, rfl, r1⟩
theorem vals2 {x y : V} {us : List Value} (r : Ql [x, y] us) : ∃ u w', us = [u, w'] /\ RelV x u /\ RelV y w' := by
 cases r with
 | cons r1 r2 =>
  cases r2 with
  | cons r3 r4 => cases r4; exact ⟨_, _, rfl, r1, r3⟩
end
end L2
namespace L2
open PySem PySem.Spec PyProof.Rows
structure QqS (h : Heap) (x dx C : Addr) (mA : Str -> Option Value) : Prop where
 obj : h.get? x = some (PySem.W.instObj C dx)
 ns : h.Ns1 dx mA
 ne : dx ≠ x
theorem QmD {h : Heap} {dx : Addr} {mA : Str -> Option Value} (n : h.Ns1 dx mA) : ∃ od, h.get? dx = some od /\ ∀ name, PySem.W.lookIn name od = some (mA name) := by
 obtain ⟨o, es, ep, ho, hd, hk, _, hm⟩ := n
 refine ⟨o, ho, λ name => ?_⟩
 have e := hm name
 unfold nsFind findBy at e
 rw [← Array.find?_toList] at e
 unfold PySem.W.lookIn
 rw [hd]
 dsimp only
 split
 ·rename_i y q
  rw [q] at e
  exact congrArg some e
 ·rename_i q
  rw [q] at e
  have a : es.toList.any (·.refKey) = false := by
   rw [List.any_eq_false]
   intro y hy
   obtain ⟨z, t, hkey⟩ := hk y (Array.mem_toList_iff.mp hy)
   simp [DictEntry.refKey, hkey]
  have a' : ¬ es.toList.any (·.refKey) = true := by rw [a]; exact ZO
  rw [if_neg a']
  exact congrArg some e
theorem QqS.look {h : Heap} {x dx C : Addr} {mA : Str -> Option Value} (I : QqS h x dx C mA) : ∃ od, PySem.W.InstAt h x (PySem.W.instObj C dx) C (some od) /\ ∀ name, PySem.W.lookIn name od = some (mA name) :=
 let ⟨od, ho, hl⟩ := QmD I.ns
 ⟨od, ⟨I.obj, rfl, rfl, ho⟩, hl⟩
section
variable {prog : Program} {w : World} {A : Around} {E : Value -> Shared -> Prop} {s : Shared} {K : PySem.W.Frag} {x dx C f : Addr} {mA : Str -> Option Value} {name : Str} {v : Value}
end
theorem Qhl.some_of {v : V} {o : Option Value} (r : Qhl (some v) o) : ∃ u, o = some u /\ RelV v u := by
 cases o with
 | none => exact (show False from r).elim
 | some u => exact ⟨u, rfl, r⟩
theorem Qhl.none_of {o : Option Value} (r : Qhl none o) : o = none := by
 cases o with
 | none => rfl
 | some u => exact (show False from r).elim
section
variable {P : Program} {w : World} {H H' : Hp} {h h' : Heap} {a C dx : Addr} {fs fs' : List (Str × V)}
end
structure Cls (K : PySem.W.Frag) (C : Addr) : Prop where
 pg : PySem.W.plainGet K C Str.empty = true
 hd : PySem.W.hasDictIn K C = true
 po : PySem.W.plainOver K C = true
 sa : PySem.W.findIn K (.ref C) "__setattr__" = some (some (.builtin "object.__setattr__"))
theorem Cls.get {K : PySem.W.Frag} {C : Addr} (c : Cls K C) (f : Str) : PySem.W.plainGet K C f = true := c.pg
structure Con (K : PySem.W.Frag) (C : Addr) (f : Str) (v : V) (u : Value) : Prop where
 at_ : PySem.W.findIn K (.ref C) f = some (some u)
 rel : RelV v u
 get : PySem.W.specialIn K u "__get__" = some none
 cp : PySem.W.copiedNames.contains f = false
structure Qtn (K : PySem.W.Frag) (C : Addr) (m : Str) (f : Addr) : Prop where
 at_ : PySem.W.findIn K (.ref C) m = some (some (.ref f))
 fn : PySem.W.isFn K (.ref f) = true
 kp : PySem.W.keepIn K (.ref f) = true
section
variable {X : Cx} {pins : List (Addr × Obj)} {σ : St} {H : Hp} {s : Shared} {a C dx : Addr} {fs : List (Str × V)} {f : Str} {v : V} {A : Around} {E : Value -> Shared -> Prop}
theorem Inv.made (I : Inv X pins σ H s) : Inv X pins σ (upd (upd H s.heap.objs.size (.own (s.heap.objs.size + 1))) (s.heap.objs.size + 1) (.ins C s.heap.objs.size []))
  { s with heap := (s.heap.push PySem.W.emptyDict).push (PySem.W.instObj C s.heap.objs.size) } := by
 have e1 : (s.heap.push PySem.W.emptyDict).get? s.heap.objs.size = some PySem.W.emptyDict := Zy s.heap rfl
 have e2 : ((s.heap.push PySem.W.emptyDict).push (PySem.W.instObj C s.heap.objs.size)).get? (s.heap.objs.size + 1) = some (PySem.W.instObj C s.heap.objs.size) := by
  have := Zy (s.heap.push PySem.W.emptyDict) (o := PySem.W.instObj C s.heap.objs.size) rfl
  rwa [Zak] at this
 have e3 : (s.heap.push PySem.W.emptyDict).Ns s.heap.objs.size (λ _ => none) := ⟨PySem.W.emptyDict, #[], _, e1, rfl, (λ e he => absurd he (by simp)), λ _ => rfl⟩
 have I1 := I.laid (a := s.heap.objs.size) (o := .own (s.heap.objs.size + 1)) (h' := s.heap.push PySem.W.emptyDict) (t' := s.toks) (λ b u q => Zl _ q) (Zj _) ⟨_, e1⟩
 refine I1.laid (a := s.heap.objs.size + 1) (o := .ins C s.heap.objs.size []) (t' := s.toks) (λ b u q => Zl _ q) (Nat.le_of_eq (Zak _ _)) ?_
 have ne : s.heap.objs.size ≠ s.heap.objs.size + 1 := ZA (Zay _)
 refine ⟨by rw [Qr ne, Q4], ZL _, ne, e2, λ _ => none, (Heap.Ns1.of_empty e3).at λ o q => Zl _ q, λ _ => True.intro, λ y hy => absurd rfl hy⟩
end
section
variable {X : Cx} {o e value : Expr} {f : Str} {pos pos' tpos : Pos} {ta tv : TE}
end
section
variable {X : Cx} {pins : List (Addr × Obj)} {σ : St} {H : Hp} {s : Shared} {A : Around} {E : Value -> Shared -> Prop} {Q : Value -> Shared -> Prop} {c : Value} {b : Bool}
inductive QdF (K : PySem.W.Frag) (H : Hp) : V -> Value -> Prop where
 | non : QdF K H .non (.type "NoneType")
 | bl (x : Bool) : QdF K H (.bl x) (.type "bool")
 | int (i : Int) : QdF K H (.int i) (.type "int")
 | str (x : Str) : QdF K H (.str x) (.type "str")
 | flt (x : UInt64) : QdF K H (.flt x) (.type "float")
 | lst {a : Addr} {xs : List V} (e : H a = some (.lst xs)) : QdF K H (.ref a) (.type "list")
 | frz {a : Addr} {o : Obj} {xs : List V} (e : H a = some (.frz o (.lst xs))) : QdF K H (.ref a) (.type "list")
 | tup {a : Addr} {xs : List V} (e : H a = some (.tup xs)) : QdF K H (.ref a) (.type "tuple")
 | dK {a : Addr} {kvs : List (Key × V)} (e : H a = some (.dK kvs)) : QdF K H (.ref a) (.type "dict")
 | dT {a : Addr} {kvs : List (List Key × V)} (e : H a = some (.dT kvs)) : QdF K H (.ref a) (.type "dict")
 | ins {a C dx : Addr} {fs : List (Str × V)} (e : H a = some (.ins C dx fs)) (cl : Cls K C) (ha : PySem.W.findIn K (.ref C) "__class__" = some (some (.builtin "object.__class__")))
   (hn : PySem.W.specialIn K (.builtin "object.__class__") "__get__" = some (some (.builtin "getset_descriptor.__get__"))) (htk : PySem.W.takesIn K (.builtin "object.__class__") = some true)
   (hm : PySem.W.mroIn K C (.type "object") = some true) : QdF K H (.ref a) (.ref C)
end
end L2
namespace L2
open PySem PySem.Spec PyProof.Rows
structure QW (k : Nat) (A : Around) : Prop where
 hd : A.handled = none
 dp : A.depth + 3 * k + 5 < recursionLimit
 un : A.units + 16 * k + 200 < cLine
theorem QW.mono {j k : Nat} {A : Around} (r : QW k A) (h : j <= k) : QW j A := ⟨r.hd, by have := r.dp; omega, by have := r.un; omega⟩
theorem QW.deeper {k : Nat} {A : Around} (r : QW (k + 1) A) (env : Env) : QW k (A.deeper env) :=
 ⟨r.hd, by have := r.dp; show A.depth + 1 + 3 * k + 5 < _; omega, by have := r.un; show A.units + 3 + 16 * k + 200 < _; omega⟩
theorem QW.in1 {k : Nat} {A : Around} (r : QW (k + 1) A) : QW k A.in1 :=
 ⟨r.hd, by have := r.dp; show A.depth + 3 * k + 5 < _; omega, by have := r.un; show A.units + 1 + 16 * k + 200 < _; omega⟩
theorem QkT {A : Around} {C : Addr} {us : List Value} {kw : List (Str × Value)} : (A.under (.builtin "type.__call__" ⟨.ref C :: us, kw⟩)).depth = A.depth + 1 := by
 first | rfl | simp [Around.under, Code.weight, Code.isCreation, Code.isGuard, Code.isCaller, Code.frames, Code.isFrame, guardIds]
theorem Qk1 {A : Around} {C : Addr} {us : List Value} {kw : List (Str × Value)} : (A.under (.builtin "type.__call__" ⟨.ref C :: us, kw⟩)).units = A.units + 1 := by
 first | rfl | simp [Around.under, Code.cUnits, Code.frames, Code.isFrame]
theorem QW.make {k : Nat} {A : Around} (r : QW (k + 1) A) (C : Addr) (us : List Value) (kw : List (Str × Value)) : QW k (A.under (.builtin "type.__call__" ⟨.ref C :: us, kw⟩)) :=
 ⟨r.hd, by have := r.dp; rw [QkT]; omega, by have := r.un; rw [Qk1]; omega⟩
theorem QW.depth {k : Nat} {A : Around} (r : QW k A) : A.depth < recursionLimit := by have := r.dp; omega
theorem QW.units {k : Nat} {A : Around} (r : QW k A) : A.units + 64 < cLine := by have := r.un; omega
noncomputable def QkD : TA := λ _ H Q => Q [] H
noncomputable def QkQ (ta : TE) (tr : TA) : TA := λ σ H Q => ta σ H λ x H1 => tr σ H1 λ xs H2 => Q (x :: xs) H2
section
variable {X : Cx} {e : Expr} {es : List Expr} {te : TE} {t : TA} {pos : Pos}
theorem QbQ : PA X [] QkD := λ _ _ _ _ H Q I h => Calls.spliced_nil ⟨[], H, I, .nil, h⟩
theorem Qag (ha : PE X e te) (hr : PA X es t) (hs : starEach (e :: es) X.env = (false, eval e X.env) :: starEach es X.env := by rfl) : PA X (e :: es) (QkQ te t) := by
 intro pos pins s σ H Q I h
 rw [hs]
 show wpAny _ _ (spliced ((false, eval e X.env) :: backTo pos (starEach es X.env))) _ _ s
 refine Calls.spliced_cons (thn (ha pins s σ H _ I h) λ u s1 ⟨x, H1, I1, r1, q1⟩ => ?_)
 exact thn (hr pos pins s1 σ H1 _ I1 q1) λ us s2 ⟨xs, H2, I2, r2, q2⟩ => ⟨x :: xs, H2, I2, .cons r1 r2, q2⟩
noncomputable def Qs2 (t : TA) : TE := λ σ H Q => t σ H λ xs H1 => xs.length <= sizeLine /\ ∀ p, H1 p = none -> Q (.ref p) (upd H1 p (.tup xs))
noncomputable def Qtd (t : TA) : TE := λ σ H Q => t σ H λ xs H1 => xs.length <= sizeLine /\ ∀ p, H1 p = none -> Q (.ref p) (upd H1 p (.lst xs))
theorem Qmi {x1} (h : PA X es t) : PE X (.Tuple es x1 pos) (Qs2 t) := by
 intro pins s σ H Q I hq
 refine wpAny_Tuple_spliced (thn (h pos pins s σ H _ I hq) λ us s1 ⟨xs, H1, I1, r, z, q⟩ => ⟨by rw [← r.length]; exact z, ?_⟩)
 have hf : H1 s1.heap.objs.size = none := I1.hok.fresh (Zj _)
 refine ⟨.ref s1.heap.objs.size, upd H1 s1.heap.objs.size (.tup xs), I1.laid (t' := s1.toks) (λ b u e => Zl _ e) (Zj _) ?_, rfl, q _ hf⟩
 exact ⟨z, us, r, ⟨_, Zy _ rfl, rfl, _, rfl⟩⟩
theorem Qq4 (h : PA X es t) : PE X (.List es pos) (Qtd t) := by
 intro pins s σ H Q I hq
 refine wpAny_List_spliced (thn (h pos pins s σ H _ I hq) λ us s1 ⟨xs, H1, I1, r, z, q⟩ => ⟨by rw [← r.length]; exact z, ?_⟩)
 have hf : H1 s1.heap.objs.size = none := I1.hok.fresh (Zj _)
 refine ⟨.ref s1.heap.objs.size, upd H1 s1.heap.objs.size (.lst xs), I1.laid (t' := s1.toks) (λ b u e => Zl _ e) (Zj _) ?_, rfl, q _ hf⟩
 exact ⟨z, us, 0, r, Zy _ rfl⟩
end
noncomputable abbrev Sp := List V -> Hp -> VK -> XK -> Prop
noncomputable abbrev CXT := List Env -> Hp -> Shared -> XK -> Value -> Shared -> Prop
structure Qdx (P : Program) (w : World) (K : PySem.W.Frag) (mg : Str -> Option Value) (base : Heap) (A : Around) (outer : List Env) (s : Shared) (H : Hp) : Prop where
 frames : A.frames = some outer
 mod : Mod K mg base
 bs : ∀ b o, base.get? b = some o -> s.heap.get? b = some o /\ H b = none
 bsz : base.objs.size <= s.heap.objs.size
 Qb2 : s.heap.FunFrames base outer
 frf : ∀ b ∈ frs outer, H b = none
 hok : HOk P w H s.heap
 bare : AllBare s.gens
def CE (outer : List Env) (P : Program) (w : World) (H : Hp) (s : Shared) (Q : VK) (u : Value) (s' : Shared) : Prop :=
 ∃ v H', s'.os = s.os /\ AllBare s'.gens /\ Un (frs outer) [] H H' s.heap s'.heap /\ HOk P w H' s'.heap /\ RelV v u /\ Q v H'
def CR (CX : CXT) (outer : List Env) (P : Program) (w : World) (H : Hp) (s : Shared) (Q : VK) (E : XK) (r : Result) (s' : Shared) : Prop :=
 match r with
 | .ok (.ret u) => CE outer P w H s Q u s'
 | .ok _ => False
 | .error e => CX outer H s E e s'
structure Qbe (P : Program) (w : World) (K : PySem.W.Frag) (mg : Str -> Option Value) (base : Heap) (CX : CXT) (k : Nat) (f : Addr) (fd : FuncData) (ps : List Str) (sp : Sp) : Prop where
 len : ∀ vs H Q E, sp vs H Q E -> vs.length = ps.length
 run : ∀ (A : Around) (outer : List Env) (s : Shared) (H : Hp) (args : Args) (us : List Value) (vs : List V) (Q : VK) (E : XK), QW k A -> Qdx P w K mg base A outer s H -> BindsTo s fd args (ps.zip us) -> Ql vs us -> sp vs H Q E →
  codeAny (model P w) A (.call (.ref f) args) (CR CX outer P w H s Q E) s
theorem Qbe.mono {P : Program} {w : World} {K : PySem.W.Frag} {mg : Str -> Option Value} {base : Heap} {CX : CXT} {j k : Nat} {f : Addr} {fd : FuncData} {ps : List Str} {sp : Sp} (F : Qbe P w K mg base CX j f fd ps sp) (h : j <= k) :
  Qbe P w K mg base CX k f fd ps sp := ⟨F.len, λ A outer s H args us vs Q E hr => F.run A outer s H args us vs Q E (hr.mono h)⟩
theorem Qdx.make {P : Program} {w : World} {K : PySem.W.Frag} {mg : Str -> Option Value} {base : Heap} {A : Around} {outer : List Env} {s : Shared} {H : Hp} (e : Qdx P w K mg base A outer s H) (C : Addr) (us : List Value) (kw : List (Str × Value)) :
  Qdx P w K mg base (A.under (.builtin "type.__call__" ⟨.ref C :: us, kw⟩)) outer s H := ⟨by first | exact e.frames | (simpa [Around.under, Code.envs, Code.isFrame, pushEnvs] using e.frames), e.mod, e.bs, e.bsz, e.Qb2, e.frf, e.hok, e.bare⟩
theorem Qdx.in1 {P : Program} {w : World} {K : PySem.W.Frag} {mg : Str -> Option Value} {base : Heap} {A : Around} {outer : List Env} {s : Shared} {H : Hp} (e : Qdx P w K mg base A outer s H) :
  Qdx P w K mg base A.in1 outer s H := ⟨e.frames, e.mod, e.bs, e.bsz, e.Qb2, e.frf, e.hok, e.bare⟩
section
variable {X : Cx} {pins : List (Addr × Obj)} {σ : St} {H : Hp} {s s' : Shared}
theorem Inv.QnB (I : Inv X pins σ H s) : Qdx X.prog X.w X.K X.mg X.base X.A X.stack s H :=
 ⟨I.ok.frames, I.ok.mod, I.bs, Zv I.ok.bsz I.sz, I.stack, I.Qhw, I.hok, I.bare⟩
theorem Inv.after {Q : VK} {u : Value} (I : Inv X pins σ H s) (h : CE X.stack X.prog X.w H s Q u s') : EP X pins σ Q u s' := by
 obtain ⟨v, H', os, bare, un, hok, r, q⟩ := h
 obtain ⟨hh, g, d, t, os'⟩ := s'
 obtain rfl : os' = s.os := os
 exact ⟨v, H', I.call (h' := hh) (g' := g) (d' := d) (t' := t) (ch := []) un hok bare (λ b z => absurd z (by simp)), r, q⟩
end
noncomputable def QkF (sp : Sp) (dvs : List V) (E : XK) (t : TA) : TE := λ σ H Q => t σ H λ vs H1 => sp (vs ++ dvs) H1 Q E
def Binds (K : PySem.W.Frag) (fd : FuncData) (ps : List Str) (ds : List Value) : Prop :=
 ∀ (s : Shared) (us : List Value), K.In s.heap -> (us ++ ds).length = ps.length -> BindsTo s fd ⟨us, []⟩ (ps.zip (us ++ ds))
theorem Binds.all {K : PySem.W.Frag} {fd : FuncData} {ps : List Str} (h : ∀ us : List Value, us.length = ps.length -> bindArgs fd ⟨us, []⟩ = pure (ps.zip us)) : Binds K fd ps [] := λ s us _ hl => by
 rw [Zah] at hl ⊢
 exact .of_eq (h us hl)
def Qgd (CX : CXT) (X : Cx) (E : XK) : Prop := ∀ (pins : List (Addr × Obj)) (σ : St) (H : Hp) (s : Shared) (e : Value) (s' : Shared), Inv X pins σ H s -> CX X.stack H s E e s' -> X.xe e s'
section
variable {X : Cx} {CX : CXT} {k : Nat} {f C : Addr} {fd : FuncData} {ps : List Str} {sp : Sp} {dvs : List V} {ds : List Value} {E : XK} {x m : Str} {p pos apos : Pos} {e o : Expr} {es : List Expr} {ta : TE} {t : TA}
theorem QlR {pins : List (Addr × Obj)} {σ : St} {H : Hp} {s : Shared} {Q : VK} {us : List Value} {vs : List V} (F : Qbe X.prog X.w X.K X.mg X.base CX k f fd ps sp) (hr : QW k X.A) (hb : Binds X.K fd ps ds) (hd : Ql dvs ds) (hx : Qgd CX X E)
  (I : Inv X pins σ H s) (r : Ql vs us) (h : sp (vs ++ dvs) H Q E) : wpAny (model X.prog X.w) X.A (call (.ref f) us) (EP X pins σ Q) X.xe s := by
 have r2 : Ql (vs ++ dvs) (us ++ ds) := r.append hd
 have hl : (us ++ ds).length = ps.length := by rw [← r2.length]; exact F.len _ _ _ _ h
 refine wpAny_call (codeAny_mono (F.run X.A X.stack s H ⟨us, []⟩ (us ++ ds) (vs ++ dvs) Q E hr I.QnB (hb s us I.kIn hl) r2 h) λ r s' hq => ?_)
 cases r with
 | error e => exact hx pins σ H s e s' I hq
 | ok fl =>
  cases fl with
  | ret u => exact I.after hq
  | next => exact False.elim hq
  | brk => exact False.elim hq
  | cont => exact False.elim hq
theorem Qpe (F : Qbe X.prog X.w X.K X.mg X.base CX k f fd ps sp) (hr : QW k X.A) (hg : Gl X x) (hm : X.mg x = some (.ref f)) (hk : PySem.W.keepIn X.K (.ref f) = true) (hb : Binds X.K fd ps ds) (hd : Ql dvs ds) (hx : Qgd CX X E)
  (ha : PA X (e :: es) t) (hdb : (x == ("__debug__" : Str)) = false := by decide) (he : starEach (e :: es) X.env = (false, eval e X.env) :: starEach es X.env := by rfl) (hpl : (backTo pos (starEach es X.env)).any (·.1) = false := by rfl) :
  PE X (.Call (.Name x p) (e :: es) [] pos) (QkF sp dvs E t) := by
 intro pins s σ H Q I h
 refine wpAny_Call_Name_kw (QcB I hg hm ?_ hdb)
 refine ZaV (h₀ := X.base) I.ok.mod.kin hk (thn (ha pos pins s σ H _ I h) λ us s1 ⟨vs, H1, I1, r, q⟩ => ⟨I1.kIn, ?_⟩) he hpl
 exact QlR F hr hb hd hx I1 r q
theorem Qm7 (F : Qbe X.prog X.w X.K X.mg X.base CX k f fd ps sp) (hr : QW k X.A) (hg : Gl X x) (hm : X.mg x = some (.ref f)) (hk : PySem.W.keepIn X.K (.ref f) = true) (hb : Binds X.K fd ps ds) (hd : Ql dvs ds) (hx : Qgd CX X E)
  (hdb : (x == ("__debug__" : Str)) = false := by decide) : PE X (.Call (.Name x p) [] [] pos) (QkF sp dvs E QkD) := by
 intro pins s σ H Q I h
 refine wpAny_Call_Name_kw (QcB I hg hm ?_ hdb)
 exact PySem.W.callWith_K0 I.kIn hk (QlR (us := []) F hr hb hd hx I .nil h)
structure Mk (K : PySem.W.Frag) (C f : Addr) : Prop where
 makes : PySem.W.makesIn K C = true
 init : PySem.W.findIn K (.ref C) "__init__" = some (some (.ref f))
 fn : PySem.W.isFn K (.ref f) = true
 kp : PySem.W.keepIn K (.ref C) = true
end
section
variable {X : Cx} {CX : CXT} {k : Nat} {f C : Addr} {fd : FuncData} {ps ks : List Str} {sp : Sp} {E : XK} {x m : Str} {p pos apos kpos : Pos} {e o : Expr} {es : List Expr} {kws : List Keyword} {te ta : TE} {t tk : TA} {nm : Option Str}
structure Qtl (K : PySem.W.Frag) (fd : FuncData) (ps ks : List Str) (g : List Value -> List Value -> List Value) (gV : List V -> List V -> List V) : Prop where
 to : ∀ (s : Shared) (us ws : List Value), K.In s.heap -> (g us ws).length = ps.length -> BindsTo s fd ⟨us, ks.zip ws⟩ (ps.zip (g us ws))
 rel : ∀ {vs : List V} {us : List Value} {zs : List V} {ws : List Value}, Ql vs us -> Ql zs ws -> Ql (gV vs zs) (g us ws)
variable {g : List Value -> List Value -> List Value} {gV : List V -> List V -> List V}
end
structure QaJ (N P : List Str) (sc : Scope) : Prop where
 kind : sc.kind = .function
 co : sc.isCoroutine = false
 gen : sc.isGenerator = false
 nd : N.Nodup
 pre : N.take P.length = P
 par : ∀ x ∈ P, sc.names.lookup x = some .local ∨ sc.names.lookup x = some .cell
 nofree : ∀ y ∈ sc.names, y.2 ≠ .free
theorem QhS {kindOf : Str -> Option NameKind} {x : Str} : ∀ {binds : List (Str × Value)} {m : Str -> Option Value}, (∀ v, (x, v) ∉ binds) -> bindL kindOf binds m x = m x
 | [], _, _ => rfl
 | (n, v) :: r, m, h => by
  unfold bindL
  rw [QhS λ w hw => h w (Zc _ hw)]
  split
  ·have : x ≠ n := by rintro rfl; exact h v Zh
   simp [this]
  ·rfl
theorem QhR {kindOf : Str -> Option NameKind} {x : Str} : ∀ {binds : List (Str × Value)} {m : Str -> Option Value}, (∀ v, (x, v) ∉ binds) -> bindC kindOf binds m x = m x
 | [], _, _ => rfl
 | (n, v) :: r, m, h => by
  unfold bindC
  rw [QhR λ w hw => h w (Zc _ hw)]
  split
  ·rfl
  ·have : x ≠ n := by rintro rfl; exact h v Zh
   simp [this]
theorem Qh5 {kindOf : Str -> Option NameKind} {x : Str} {v : Value} : ∀ {P : List Str} {vs : List Value} {i : Nat} {m : Str -> Option Value}, P.Nodup -> P[i]? = some x -> vs[i]? = some v -> kindOf x = some .local →
  bindL kindOf (P.zip vs) m x = some v
 | [], _, _, _, _, h, _, _ => by simp at h
 | _ :: _, [], _, _, _, _, h, _ => by simp at h
 | p :: P, w :: vs, 0, m, nd, h1, h2, hk => by
  simp at h1 h2; subst h1; subst h2
  show bindL kindOf ((p, w) :: P.zip vs) m p = _
  unfold bindL
  rw [QhS λ v hv => (Zam.mp nd).1 (ZaQ hv).1, if_pos hk]
  simp
 | p :: P, w :: vs, i + 1, m, nd, h1, h2, hk => by
  show bindL kindOf ((p, w) :: P.zip vs) m x = _
  unfold bindL
  exact Qh5 (i := i) (Zam.mp nd).2 (by simpa using h1) (by simpa using h2) hk
theorem QhY {kindOf : Str -> Option NameKind} {x : Str} {v : Value} : ∀ {P : List Str} {vs : List Value} {i : Nat} {m : Str -> Option Value}, P.Nodup -> P[i]? = some x -> vs[i]? = some v -> kindOf x ≠ some .local →
  bindC kindOf (P.zip vs) m x = some v
 | [], _, _, _, _, h, _, _ => by simp at h
 | _ :: _, [], _, _, _, _, h, _ => by simp at h
 | p :: P, w :: vs, 0, m, nd, h1, h2, hk => by
  simp at h1 h2; subst h1; subst h2
  show bindC kindOf ((p, w) :: P.zip vs) m p = _
  unfold bindC
  rw [QhR λ v hv => (Zam.mp nd).1 (ZaQ hv).1, if_neg hk]
  simp
 | p :: P, w :: vs, i + 1, m, nd, h1, h2, hk => by
  show bindC kindOf ((p, w) :: P.zip vs) m x = _
  unfold bindC
  exact QhY (i := i) (Zam.mp nd).2 (by simpa using h1) (by simpa using h2) hk
noncomputable def start (N : List Str) (vs : List V) : St := vs.map some ++ List.replicate (N.length - vs.length) none
noncomputable def Qb1 (CX : CXT) (P : Program) (w : World) (K : PySem.W.Frag) (mg : Str -> Option Value) (base : Heap) (N : List Str) (qual : Str) (scope : Scope) (f : Addr) (cd : Value) (A : Around) (outer : List Env) (s : Shared) (H : Hp) (E : XK) : Cx where
 prog := P
 w := w
 K := K
 mg := mg
 base := base
 A := A.deeper (envOfC qual scope s.heap.objs.size f cd)
 N := N
 s₀ := s
 H₀ := H
 env := envOfC qual scope s.heap.objs.size f cd
 outer := outer
 stack := envOfC qual scope s.heap.objs.size f cd :: outer
 ex := []
 calm := decide (A.handled = none)
 fn := λ _ => true
 pn := []
 xe := λ e s' => wpAny (model P w) (A.deeper (envOfC qual scope s.heap.objs.size f cd)) (leaving (envOfC qual scope s.heap.objs.size f cd) e) (λ _ s'' => CX outer H s E e s'') (λ e' s'' => CX outer H s E e' s'') s'
theorem QjB {sc : Scope} {n : Nat} {x : Str} (h : sc.names.lookup x = some .cell) : ∃ c, (cellsFrom n sc.names []).lookup x = some c := by
 have q := ZaD sc.names n [] (.inl h)
 exact Option.isSome_iff_exists.mp q
theorem Qh7 {CX : CXT} {P : Program} {w : World} {K : PySem.W.Frag} {mg : Str -> Option Value} {base : Heap} {N ps : List Str} {qual : Str} {scope : Scope} {f : Addr} {cd : Value} {A : Around} {outer : List Env} {s s1 : Shared} {H : Hp} {E : XK} {us : List Value} {vs : List V}
  (S : QaJ N ps scope) (e0 : Qdx P w K mg base A outer s H) (hl : vs.length = ps.length) (r : Ql vs us)
  (x : InCallC s s.heap.objs.size (bindL (envOfC qual scope s.heap.objs.size f cd).kindOf (ps.zip us) λ _ => none) (cellsFrom (s.heap.objs.size + 1) scope.names []) (bindC (envOfC qual scope s.heap.objs.size f cd).kindOf (ps.zip us) λ _ => none) s1) :
  Inv (Qb1 CX P w K mg base N qual scope f cd A outer s H E) [] (start N vs) H s1 := by
 have hpl : ps.length <= N.length := by have := congrArg List.length S.pre; rw [Zaj] at this; omega
 obtain ⟨h1, tk, rfl, hk⟩ := x.done
 have noA : ∀ b : Addr, b ∉ (Qb1 CX P w K mg base N qual scope f cd A outer s H E).ex := λ b z => absurd (show b ∈ ([] : List Addr) from z) (by simp)
 refine ⟨⟨e0.mod, S.kind, rfl, rfl, Zj _, λ y z c h1 h2 => ?_, λ y hy => ?_, λ y c _ h => ?_, λ h => of_decide_eq_true h, Around.frames_deeper e0.frames, .inr ⟨rfl, rfl⟩, λ b z => absurd z (noA b), e0.bs, e0.bsz, λ b _ _ => noA b, λ b z => absurd z (noA b), e0.Qb2, e0.frf⟩,
  rfl, e0.bare, Un.kept hk, ⟨_, x.toInCall.ns, λ i y v h1 h2 h3 => ?_⟩, λ y c h => ⟨_, x.cell y c h⟩, e0.hok.fresh (Zj _), λ y c h => ?_, λ p hp => absurd (show p ∈ ([] : List (Addr × Obj)) from hp) (by simp), e0.hok.kept hk, ?_⟩
 ·exact name_of_addr x.apart (ZN h1) (ZN h2)
 ·have hy : scope.names.lookup y = some .cell ∨ scope.names.lookup y = some .free := hy
  rcases hy with hy | hy
  ·exact QjB hy
  ·exact absurd rfl (S.nofree _ (ZN hy))
 ·exact Nat.le_of_lt (x.above y c (ZN h))
 ·have hi : i < vs.length := by
   unfold start at h2
   by_cases hi : i < vs.length
   ·exact hi
   ·rw [ZaW (by simpa using hi)] at h2
    rw [Zba] at h2
    split at h2 <;> cases h2
  have ha : vs[i]? = some v := by
   unfold start at h2
   rw [Zab (by simpa using hi), Zx] at h2
   cases e : vs[i]? with
   | none => rw [e] at h2; cases h2
   | some a => rw [e] at h2; cases h2; rfl
  obtain ⟨u, hu, rv⟩ := r.get ha
  have hp : ps[i]? = some y := by
   rw [← S.pre, List.getElem?_take_of_lt (by omega)]; exact h1
  have ndP : ps.Nodup := by rw [← S.pre]; exact S.nd.sublist (List.take_sublist _ _)
  refine ⟨u, rv, ?_⟩
  rcases S.par y (Zap hp) with k | k
  ·exact .inl ⟨k, Qh5 ndP hp hu k⟩
  ·obtain ⟨c, e⟩ := QjB (n := s.heap.objs.size + 1) k
   refine .inr ⟨.inl k, c, e, ?_⟩
   have q := x.cell y c e
   rw [QhY ndP hp hu (by show scope.names.lookup y ≠ _; rw [k]; decide)] at q
   exact q
 ·exact e0.hok.fresh (Nat.le_of_lt (x.above y c (ZN h)))
 ·unfold start
  show _ = N.length
  rw [Zp, Zs, List.length_replicate]
  omega
theorem Qoj {CX : CXT} {P : Program} {w : World} {K : PySem.W.Frag} {mg : Str -> Option Value} {base : Heap} {k : Nat} {f : Addr} {name qual : Str} {params : Arguments} {body : List Stmt} {scope : Scope} {dV kV doc pm cdv ct oc : Value} {an od : Option Addr}
  {osl : Array (Option Value)} {N ps : List Str} {sp : Sp} (lk : K.lookup f = some ⟨oc, od, .func (PySem.W.fnOf name qual params body scope dV kV doc pm an cdv ct), osl⟩) (hcd : PySem.W.codeIn K cdv qual = true) (S : QaJ N ps scope)
  (len : ∀ vs H Q E, sp vs H Q E -> vs.length = ps.length)
  (hbody : ∀ (A : Around) (outer : List Env) (s : Shared) (H : Hp) (vs : List V) (Q : VK) (E : XK), QW k (A.deeper (envOfC qual scope s.heap.objs.size f cdv)) -> sp vs H Q E →
   ∃ t, PSs (Qb1 CX P w K mg base N qual scope f cdv A outer s H E) body t /\ t { nx := λ _ H' => Q .non H', rt := Q } (start N vs) H) :
  Qbe P w K mg base CX (k + 1) f (PySem.W.fnOf name qual params body scope dV kV doc pm an cdv ct) ps sp := by
 refine ⟨len, λ A outer s H args us vs Q E hr e0 hb r hsp => ?_⟩
 have hl := len _ _ _ _ hsp
 have KX : K.In s.heap := e0.mod.kin.keeps λ b o e => (e0.bs b o e).1
 have lim : s.heap.NoLimit := e0.mod.nolimit.keeps λ b o e => (e0.bs b o e).1
 have hkind : ∀ y ∈ ps.zip us, scope.names.lookup y.1 = some .local ∨ (scope.names.lookup y.1 = some .cell /\ ((cellsFrom (s.heap.objs.size + 1) scope.names []).lookup y.1).isSome = true) := λ ⟨n, v⟩ hy => by
  rcases S.par n (ZaQ hy).1 with q | q
  ·exact .inl q
  ·exact .inr ⟨q, ZaD _ _ _ (.inl q)⟩
 refine codeAny_call_function hr.depth (KX _ _ lk) rfl S.co S.gen rfl (PySem.W.codeRec_of KX hcd) (hb _ _ _ _ ?_)
 refine wpAny_newFunctionEnv_cells S.kind hkind λ env he s1 x => ?_
 subst he
 refine ⟨lim.keeps x.toInCall.keep, codeAny_func ?_⟩
 obtain ⟨t, ht, hq⟩ := hbody A outer s H vs Q E (hr.deeper _) hsp
 have I : Inv (Qb1 CX P w K mg base N qual scope f cdv A outer s H E) [] (start N vs) H s1 := Qh7 S e0 hl r x
 refine wpAny_mono (ht [] s1 (start N vs) H _ I hq) (λ fl s' hs => ?_) λ e s' hs => hs
 have fin : ∀ {σ' : St} {H' : Hp} {v : V} {u : Value}, Inv (Qb1 CX P w K mg base N qual scope f cdv A outer s H E) [] σ' H' s' -> RelV v u -> Q v H' -> CE outer P w H s Q u s' :=
  λ {σ' H' v u} J rv q => ⟨v, H', J.os, J.bare, J.base, J.hok, rv, q⟩
 cases fl with
 | ret u =>
  obtain ⟨v, σ', H', J, rv, q⟩ := hs
  exact fin J rv q
 | next =>
  obtain ⟨σ', H', J, q⟩ := hs
  exact fin (v := V.non) (u := Value.none) J rfl q
 | brk =>
  obtain ⟨_, _, _, q⟩ := hs
  exact False.elim q
 | cont =>
  obtain ⟨_, _, _, q⟩ := hs
  exact False.elim q
end L2
namespace L2
open PySem PySem.Spec PyProof.Rows
section
variable {X : Cx} {x : Str} {p pos : Pos} {e : Expr} {es : List Expr} {t : TA} {id T : String} {r : List V -> Hp -> VK -> Prop}
noncomputable def tCB (r : List V -> Hp -> VK -> Prop) (t : TA) : TE := λ σ H Q => t σ H λ vs H1 => r vs H1 Q
theorem Qen (hc : Qbj X (.builtin id) r) (hg : Gl X x) (hm : X.mg x = none) (hv : bootBuiltins x = some (.builtin id)) (ha : PA X (e :: es) t) (hn : x ≠ "__name__" := by decide) (hdb : (x == ("__debug__" : Str)) = false := by decide)
  (he : starEach (e :: es) X.env = (false, eval e X.env) :: starEach es X.env := by rfl) (hpl : (backTo pos (starEach es X.env)).any (·.1) = false := by rfl) : PE X (.Call (.Name x p) (e :: es) [] pos) (tCB r t) := by
 intro pins s σ H Q I h
 refine wpAny_Call_Name_kw (Qb5 I hg hm hv ?_ hn hdb)
 exact PyProof.Rows.callWith_builtin1 (thn (ha pos pins s σ H _ I h) λ us s1 ⟨vs, H1, I1, r1, q1⟩ => hc pins s1 σ H1 vs us Q I1 r1 q1) he hpl
theorem QlQ (hc : Qbj X (.type T) r) (hg : Gl X x) (hm : X.mg x = none) (hv : bootBuiltins x = some (.type T)) (ha : PA X (e :: es) t) (hn : x ≠ "__name__" := by decide) (hdb : (x == ("__debug__" : Str)) = false := by decide)
  (he : starEach (e :: es) X.env = (false, eval e X.env) :: starEach es X.env := by rfl) (hpl : (backTo pos (starEach es X.env)).any (·.1) = false := by rfl) : PE X (.Call (.Name x p) (e :: es) [] pos) (tCB r t) := by
 intro pins s σ H Q I h
 refine wpAny_Call_Name_kw (Qb5 I hg hm hv ?_ hn hdb)
 exact ZK (thn (ha pos pins s σ H _ I h) λ us s1 ⟨vs, H1, I1, r1, q1⟩ => hc pins s1 σ H1 vs us Q I1 r1 q1) he hpl
end
end L2
namespace HT
open PySem PyProof.Rows
section
open PySem.SeqAt
open PySem.AutoSeq1 (wpAny_loadPart')
open PySem.MeetsSeq PySem.MeetsSeq2 PySem.MeetsSeq3
end
section
variable {prog : Program} {w : World} {A : Around} {E : Value -> Shared -> Prop} {s : Shared}
noncomputable def sIx (n d : Nat) : Option Int -> Nat
 | none => d
 | some v => if v < 0 then (v + (n : Int)).toNat else min v.toNat n
theorem Qf0 (n d : Nat) : sIx n d none = d := rfl
theorem Qhd (n d k : Nat) : sIx n d (some (k : Int)) = min k n := by
 show (if (k : Int) < 0 then ((k : Int) + (n : Int)).toNat else min (k : Int).toNat n) = min k n
 rw [if_neg (by omega), ZR]
end
end HT
namespace L2
open PySem PySem.Spec PyProof.Rows
noncomputable abbrev TO := St -> Hp -> (Option Int -> Hp -> Prop) -> Prop
def PO (X : Cx) (e : Option Expr) (t : TO) : Prop :=
 ∀ (pins : List (Addr × Obj)) (s : Shared) (σ : St) (H : Hp) (Q : Option Int -> Hp -> Prop), Inv X pins σ H s -> t σ H Q →
  wpAny (model X.prog X.w) X.A (evalPart e X.env) (λ u s' => ∃ o H', Inv X pins σ H' s' /\ IsPart u o /\ Q o H') X.xe s
noncomputable def QoU : TO := λ _ H Q => Q none H
noncomputable def QrV (t : TE) : TO := λ σ H Q => t σ H λ x H1 => ∃ i, x = .int i /\ Q (some i) H1
theorem intsAre_of {ns : List Int} : ∀ {us : List Value}, Ql (ns.map V.int) us -> IntsAre us ns := by
 induction ns with
 | nil => intro us r; rw [ZaE] at r; cases r; exact .nil
 | cons n ns ih =>
  intro us r
  rw [Zt] at r
  cases r with
  | cons r1 r2 =>
   obtain ⟨t, e⟩ := r1
   subst e
   exact .cons n t (ih r2)
section
variable {X : Cx} {e : Expr} {te : TE} {lo hi : Option Expr} {tl th : TO} {pos p2 : Pos}
theorem QoB : PO X none QoU := by
 intro pins s σ H Q I h
 rw [evalPart_none]
 exact wpAny_pure ⟨none, H, I, .none, h⟩
theorem QpW (h : PE X e te) : PO X (some e) (QrV te) := by
 intro pins s σ H Q I hw
 rw [evalPart_some]
 refine thn (h pins s σ H _ I hw) λ u s1 ⟨x, H1, I1, r1, q1⟩ => ?_
 obtain ⟨i, rfl, q⟩ := q1
 obtain ⟨t, rfl⟩ := r1
 exact ⟨some i, H1, I1, .int i t, q⟩
def SlR (X : Cx) (r : V -> Option Int -> Option Int -> Hp -> VK -> Prop) : Prop :=
 ∀ (pins : List (Addr × Obj)) (s : Shared) (σ : St) (H : Hp) (x : V) (v vl vu : Value) (lo hi : Option Int) (sl : Addr) (Q : VK), Inv X pins σ H s -> RelV x v -> s.heap.IsSliceOf sl vl vu .none -> IsPart vl lo -> IsPart vu hi -> r x lo hi H Q →
  ∃ T id, typeLookup (.type T) "__getitem__" = pure (some (.builtin id)) /\ s.TypeIs v T /\ wpAny (model X.prog X.w) X.A (getItem v (.ref sl)) (EP X pins σ Q) X.xe s
theorem SlR.or {r r' : V -> Option Int -> Option Int -> Hp -> VK -> Prop} (h : SlR X r) (h' : SlR X r') : SlR X (λ x lo hi H Q => r x lo hi H Q ∨ r' x lo hi H Q) := by
 intro pins s σ H x v vl vu lo hi sl Q I rx hs pl pu q
 rcases q with q | q
 ·exact h pins s σ H x v vl vu lo hi sl Q I rx hs pl pu q
 ·exact h' pins s σ H x v vl vu lo hi sl Q I rx hs pl pu q
noncomputable def tSl (r : V -> Option Int -> Option Int -> Hp -> VK -> Prop) (te : TE) (tl th : TO) : TE := λ σ H Q => te σ H λ x H1 => tl σ H1 λ l H2 => th σ H2 λ u H3 => r x l u H3 Q
theorem QnI {r : V -> Option Int -> Option Int -> Hp -> VK -> Prop} (hr : SlR X r) (he : PE X e te) (hl : PO X lo tl) (hu : PO X hi th) : PE X (.Subscript e (.Slice lo hi none p2) pos) (tSl r te tl th) := by
 intro pins s σ H Q I h
 refine Subscript_ (thn (he pins s σ H _ I h) λ v s1 ⟨x, H1, I1, r1, q1⟩ => ?_)
 refine wpAny_Slice (thn (hl pins s1 σ H1 _ I1 q1) λ vl s2 ⟨l, H2, I2, pl, q2⟩ => thn (hu pins s2 σ H2 _ I2 q2) λ vu s3 ⟨u, H3, I3, pu, q3⟩ => ?_)
 rw [evalPart_none]
 refine wpAny_pure ?_
 have I4 : Inv X pins σ H3 { s3 with heap := s3.heap.push { cls := .type "slice", data := .fields #[vl, vu, .none] } } := I3.kept (t' := s3.toks) λ b ob q => Zl _ q
 obtain ⟨T, id, hT, ht, hg⟩ := hr pins { s3 with heap := s3.heap.push { cls := .type "slice", data := .fields #[vl, vu, .none] } } σ H3 x v vl vu l u s3.heap.objs.size Q I4 r1 (Heap.IsSliceOf.new ..) pl pu q3
 show wpAny (model X.prog X.w) X.A (subscriptTail e (.Slice lo hi none p2) v (.ref s3.heap.objs.size)) (EP X pins σ Q) X.xe { s3 with heap := s3.heap.push { cls := .type "slice", data := .fields #[vl, vu, .none] } }
 exact tail_any (ops := [.ref s3.heap.objs.size, v]) ht hT hg (by with_unfolding_all rfl)
noncomputable def Qg9 (xs : List V) (lo hi : Option Int) : List V := (xs.drop (HT.sIx xs.length 0 lo)).take (HT.sIx xs.length xs.length hi - HT.sIx xs.length 0 lo)
theorem QjV (xs : List V) (lo hi : Option Int) : (Qg9 xs lo hi).length <= xs.length := by
 unfold Qg9
 rw [Zaj, Zat]
 omega
end
end L2
namespace L2
open PySem PySem.Spec PyProof.Rows
noncomputable def ixN (n : Nat) (i : Int) : Option Nat := if 0 <= i then (if i < n then some i.toNat else none) else if -(n : Int) <= i then some (i + n).toNat else none
noncomputable def atI {α : Type} (xs : List α) (i : Int) : Option α := (ixN xs.length i).bind λ j => xs[j]?
theorem QfB {n : Nat} {i : Int} {j : Nat} (h : ixN n i = some j) : seqIndex? i n = some j /\ j < n /\ -(n : Int) <= i /\ i < n := by
 unfold ixN at h
 by_cases h0 : 0 <= i
 ·rw [if_pos h0] at h
  by_cases h1 : i < n
  ·rw [if_pos h1] at h
   have e : i.toNat = j := Option.some.inj h
   exact ⟨by rw [seqIndex_of h0 h1, e], by omega, by omega, h1⟩
  ·rw [if_neg h1] at h; cases h
 ·rw [if_neg h0] at h
  by_cases h1 : -(n : Int) <= i
  ·rw [if_pos h1] at h
   have e : (i + n).toNat = j := Option.some.inj h
   exact ⟨by rw [seqIndex_neg (by omega) h1, e], by omega, h1, by omega⟩
  ·rw [if_neg h1] at h; cases h
theorem Qhy {α : Type} {xs : List α} {i : Int} {v : α} (h : atI xs i = some v) : ∃ j, seqIndex? i xs.length = some j /\ xs[j]? = some v /\ j < xs.length /\ -(xs.length : Int) <= i /\ i < xs.length := by
 unfold atI at h
 cases e : ixN xs.length i with
 | none => rw [e] at h; cases h
 | some j =>
  rw [e] at h
  obtain ⟨h1, h2, h3, h4⟩ := QfB e
  exact ⟨j, h1, h, h2, h3, h4⟩
def QfF (b : Expr) : Prop := ∀ o i, subscripted b false o i = operate [o, i] (getItem o i)
def IxR (X : Cx) (r : R2) : Prop :=
 ∀ (value slice : Expr) (pins : List (Addr × Obj)) (s : Shared) (σ : St) (H : Hp) (x y : V) (v u : Value) (Q : VK), Inv X pins σ H s -> RelV x v -> RelV y u -> r x y H Q →
  subscripted slice false v u = operate [v, u] (getItem v u) -> wpAny (model X.prog X.w) X.A (subscriptTail value slice v u) (EP X pins σ Q) X.xe s
def MtR (X : Cx) (id : String) (r : V -> List V -> Hp -> VK -> Prop) : Prop :=
 ∀ (pins : List (Addr × Obj)) (s : Shared) (σ : St) (H : Hp) (x : V) (xs : List V) (v : Value) (us : List Value) (Q : VK), Inv X pins σ H s -> RelV x v -> Ql xs us -> r x xs H Q →
  wpAny (model X.prog X.w) X.A (call (.builtin id) (v :: us)) (EP X pins σ Q) X.xe s
section
variable {X : Cx} {a b : Expr} {ta tb : TE} {pos : Pos}
theorem IxR.or {r r' : R2} (h : IxR X r) (h' : IxR X r') : IxR X (λ x y H Q => r x y H Q ∨ r' x y H Q) := by
 intro value slice pins s σ H x y v u Q I rx ry q hs
 rcases q with q | q
 ·exact h value slice pins s σ H x y v u Q I rx ry q hs
 ·exact h' value slice pins s σ H x y v u Q I rx ry q hs
theorem MtR.or {id : String} {r r' : V -> List V -> Hp -> VK -> Prop} (h : MtR X id r) (h' : MtR X id r') : MtR X id (λ x xs H Q => r x xs H Q ∨ r' x xs H Q) := by
 intro pins s σ H x xs v us Q I rx rs q
 rcases q with q | q
 ·exact h pins s σ H x xs v us Q I rx rs q
 ·exact h' pins s σ H x xs v us Q I rx rs q
theorem Qox {r : R2} (hr : IxR X r) (ha : PE X a ta) (hb : PE X b tb) (hs : QfF b) : PE X (.Subscript a b pos) (tOp r ta tb) := by
 intro pins s σ H Q I h
 exact Subscript_ (Qni ha hb I h λ v u s2 x y H2 I2 rx ry q => hr a b pins s2 σ H2 x y v u Q I2 rx ry q (hs _ _))
noncomputable def QqG (K : PySem.W.Frag) : R2 := λ x y H Q => ∃ p xs i v, x = .ref p /\ y = .int i /\ SqL K H p xs /\ atI xs i = some v /\ Q v H
noncomputable def QsV (K : PySem.W.Frag) : R2 := λ x y H Q => ∃ p xs i v, x = .ref p /\ y = .int i /\ SqT K H p xs /\ atI xs i = some v /\ Q v H
theorem Qj7 : IxR X (QqG X.K) := by
 intro value slice pins s σ H x y v u Q I rx ry h hs
 obtain ⟨p, xs, i, z, rfl, rfl, hq, he, q⟩ := h
 cases rx
 obtain ⟨t, rfl⟩ := ry
 obtain ⟨its, r, pl, hz⟩ := I.list hq
 obtain ⟨j, h1, h2, h3, h4, h5⟩ := Qhy he
 obtain ⟨w, ew, rw'⟩ := r.get h2
 have hl := r.length
 have hn := Qel
 have fin : EP X pins σ Q w s := ⟨z, H, I, rw', q⟩
 by_cases h0 : 0 <= i
 ·have hj : i.toNat = j := by
   rw [seqIndex_of h0 h5] at h1
   exact Option.some.inj h1
  exact item_listR pl.isList h0 (by omega) (by rw [hj]; simpa using ew) fin hs
 ·have hj : (i + (its.toArray.size : Int)).toNat = j := by
   rw [seqIndex_neg (by omega) h4] at h1
   rw [Zn, ← hl]
   exact Option.some.inj h1
  exact subscriptTail_builtinR (x := w) pl.isList.typeIs slot_list_getitem.lookup
   (wpAny_getItem_list_neg (Q := λ r s' => r = w /\ EP X pins σ Q r s') pl.isList (by omega) (by rw [Zn] <;> omega) (by omega) (by rw [hj]; simpa using ew) ⟨rfl, fin⟩) hs
theorem QlT : IxR X (QsV X.K) := by
 intro value slice pins s σ H x y v u Q I rx ry h hs
 obtain ⟨p, xs, i, z, rfl, rfl, hq, he, q⟩ := h
 cases rx
 obtain ⟨t, rfl⟩ := ry
 obtain ⟨its, r, pl, hz⟩ := I.tuple hq
 obtain ⟨j, h1, h2, h3, h4, h5⟩ := Qhy he
 obtain ⟨w, ew, rw'⟩ := r.get h2
 have hl := r.length
 have hn := Qel
 have fin : EP X pins σ Q w s := ⟨z, H, I, rw', q⟩
 exact subscriptTail_builtinR (x := w) pl.typeIs slot_tuple_getitem.lookup
  (getItem_tuple (j := j) (Q := λ r s' => r = w /\ EP X pins σ Q r s') pl (by omega) (by omega) (by rw [Zn, ← hl]; exact h1) (by simpa using ew) ⟨rfl, fin⟩) hs
theorem Qk9 (its : List Value) (n j : Nat) (u : Value) : Obj.mapSeq (·.setIfInBounds j u) { cls := .type "list", data := .seq its.toArray n } = { cls := .type "list", data := .seq (its.set j u).toArray n } := by
 simp [Obj.mapSeq]
theorem Inv.lst {pins : List (Addr × Obj)} {σ : St} {H : Hp} {s : Shared} {p : Addr} {xs : List V} (I : Inv X pins σ H s) (h : H p = some (.lst xs)) :
  ∃ (its : List Value) (n : Nat), Ql xs its /\ s.heap.get? p = some { cls := .type "list", data := .seq its.toArray n } /\ xs.length <= sizeLine := by
 obtain ⟨z, its, n, r, e⟩ := I.hok p _ h
 exact ⟨its, n, r, e, z⟩
theorem Inv.Qqs {pins : List (Addr × Obj)} {σ : St} {H : Hp} {s : Shared} {p : Addr} {xs ys : List V} {its its' : List Value} {n n' : Nat} {f : Obj -> Obj} (I : Inv X pins σ H s) (h : H p = some (.lst xs))
  (ho : s.heap.get? p = some { cls := .type "list", data := .seq its.toArray n }) (hf : f { cls := .type "list", data := .seq its.toArray n } = { cls := .type "list", data := .seq its'.toArray n' }) (r : Ql ys its') (hz : ys.length <= sizeLine) (t : Nat) :
  Inv X pins σ (upd H p (.lst ys)) { s with heap := s.heap.update p f, toks := t } := by
 have e : (s.heap.update p f).get? p = some { cls := .type "list", data := .seq its'.toArray n' } := by
  rw [Heap.get?_update_self f ho (by rw [hf] <;> rfl), hf]
 refine I.write (x := p) (e := p) (by rw [h]; trivial) (.inl rfl) (λ b u hb q => (Heap.get?_update_other _ _ (Ne.symm hb)).trans q) ⟨_, e⟩ ?_
 exact ⟨hz, its', n', r, e⟩
noncomputable def Qoh : V -> V -> V -> Hp -> (Hp -> Prop) -> Prop := λ o i v H Q => ∃ p xs k j, o = .ref p /\ i = .int k /\ H p = some (.lst xs) /\ ixN xs.length k = some j /\ Q (upd H p (.lst (xs.set j v)))
theorem set_list : QnL X Qoh := by
 intro pins s σ H o i v ov iv u Q I ro ri rv h
 obtain ⟨p, xs, k, j, rfl, rfl, hp, hj, q⟩ := h
 cases ro
 obtain ⟨t, rfl⟩ := ri
 obtain ⟨its, n, r, ho, hz⟩ := I.lst hp
 obtain ⟨h1, h2, h3, h4⟩ := QfB hj
 have hl := r.length
 have hn := Qel
 have I' : Inv X pins σ (upd H p (.lst (xs.set j v))) { s with heap := s.heap.update p (Obj.mapSeq (·.setIfInBounds j u)) } :=
  I.Qqs hp ho (Qk9 its n j u) (r.set rv j) (by rw [ZaR]; exact hz) s.toks
 by_cases h0 : 0 <= k
 ·have hk : k.toNat = j := by
   rw [seqIndex_of h0 h4] at h1
   exact Option.some.inj h1
  exact PySem.W.ki_setAt ho h0 (by omega) (by rw [Zn, ← hl]; exact h4) (by rw [hk]; exact ⟨_, I', q⟩)
 ·have hk : (k + (its.toArray.size : Int)).toNat = j := by
   rw [seqIndex_neg (by omega) h3] at h1
   rw [Zn, ← hl]
   exact Option.some.inj h1
  exact PySem.W.ki_setBack ho (by omega) (by rw [Zn, ← hl]; exact h3) (by omega) (by rw [hk]; exact ⟨_, I', q⟩)
theorem QiC (lo hi : Option Int) (n : Nat) : (sliceBounds lo hi none n).1 = ((HT.sIx n 0 lo : Nat) : Int) /\ (sliceBounds lo hi none n).2.1 = ((HT.sIx n n hi : Nat) : Int) /\ (sliceBounds lo hi none n).2.2 = 1 := by
 refine ⟨?_, ?_, rfl⟩
 ·cases lo with
  | none => simp [sliceBounds, HT.sIx]
  | some i =>
   simp only [sliceBounds, HT.sIx, Option.getD_none, show (1 : Int) > 0 by decide, if_true]
   by_cases h : i < 0
   ·simp only [h, if_true] <;> omega
   ·simp only [h, if_false] <;> omega
 ·cases hi with
  | none => simp [sliceBounds, HT.sIx]
  | some i =>
   simp only [sliceBounds, HT.sIx, Option.getD_none, show (1 : Int) > 0 by decide, if_true]
   by_cases h : i < 0
   ·simp only [h, if_true] <;> omega
   ·simp only [h, if_false] <;> omega
theorem Qic (its : List Value) (lo hi : Option Int) : slicePick its.toArray lo hi none = ((its.drop (HT.sIx its.length 0 lo)).take (HT.sIx its.length its.length hi - HT.sIx its.length 0 lo)).toArray := by
 obtain ⟨h1, h2, h3⟩ := QiC lo hi its.toArray.size
 unfold slicePick
 rw [h1, h2, h3]
 simp only [sliceRange_one, pick_run, Zn] <;> rfl
noncomputable def Qtf (K : PySem.W.Frag) : V -> Option Int -> Option Int -> Hp -> VK -> Prop := λ x lo hi H Q => ∃ a xs, x = .ref a /\ SqL K H a xs /\ ∀ p, H p = none -> Q (.ref p) (upd H p (.lst (Qg9 xs lo hi)))
theorem Qpk : SlR X (Qtf X.K) := by
 intro pins s σ H x v vl vu lo hi sl Q I rx hs pl pu h
 obtain ⟨a, xs, rfl, hx, q⟩ := h
 cases rx
 obtain ⟨its, r, ht, hz⟩ := I.list hx
 have hlen := r.length
 refine ⟨"list", _, slot_list_getitem.lookup, ht.isList.typeIs, ?_⟩
 refine wpAny_getItem_list_slice ht.isList hs pl pu .none (by simp) ?_ (by rw [Zn] <;> omega)
 rw [Qic, ← hlen]
 refine ⟨.ref s.heap.objs.size, _, I.laid (t' := s.toks) (o := .lst (Qg9 xs lo hi)) (λ b ob q => Zl _ q) (Zj _) ?_, rfl, q _ (I.hok.fresh (Zj _))⟩
 exact ⟨Zv (QjV xs lo hi) hz, _, 0, (r.drop (HT.sIx xs.length 0 lo)).take (HT.sIx xs.length xs.length hi - HT.sIx xs.length 0 lo), Zy _ rfl⟩
theorem Qiu : Qbj X (.builtin "len") (λ xs H Q => ∃ p ys, xs = [.ref p] /\ (SqL X.K H p ys ∨ SqT X.K H p ys) /\ Q (.int ys.length) H) := by
 intro pins s σ H xs us Q I r h
 obtain ⟨p, ys, rfl, hq, q⟩ := h
 obtain ⟨u, rfl, rx⟩ := vals1 r
 cases rx
 have hn := Qel
 rcases hq with hq | hq
 ·obtain ⟨its, r', pl, hz⟩ := I.list hq
  have hlen := r'.length
  exact Calls.call_len_list pl.isList (by simp only [Zn] <;> omega) ⟨.int ys.length, H, I.tok _, ⟨s.toks + 1, by rw [Zn, hlen]⟩, q⟩
 ·obtain ⟨its, r', pl, hz⟩ := I.tuple hq
  have hlen := r'.length
  exact len_tuple pl (by simp only [Zn] <;> omega) ⟨.int ys.length, H, I.tok _, ⟨s.toks + 1, by rw [Zn, hlen]⟩, q⟩
theorem Qbj.or {f : Value} {r r' : List V -> Hp -> VK -> Prop} (h : Qbj X f r) (h' : Qbj X f r') : Qbj X f (λ xs H Q => r xs H Q ∨ r' xs H Q) := by
 intro pins s σ H xs us Q I rs q
 rcases q with q | q
 ·exact h pins s σ H xs us Q I rs q
 ·exact h' pins s σ H xs us Q I rs q
theorem Qjr : Qbj X (.type "list") (λ xs H Q => ∃ p ys, xs = [.ref p] /\ (SqL X.K H p ys ∨ SqT X.K H p ys) /\ ∀ l, H l = none -> Q (.ref l) (upd H l (.lst ys))) := by
 intro pins s σ H xs us Q I r h
 obtain ⟨p, ys, rfl, hq, q⟩ := h
 obtain ⟨u, rfl, rx⟩ := vals1 r
 cases rx
 have fin : ∀ (its : List Value), Ql ys its -> ys.length <= sizeLine -> ∀ (h' : Heap) (c' : Nat), (∀ b o', s.heap.get? b = some o' -> h'.get? b = some o') →
   h'.get? s.heap.objs.size = some { cls := .type "list", dict := none, data := .seq its.toArray c', slots := #[] } -> EP X pins σ Q (.ref s.heap.objs.size) { s with heap := h' } := λ its r' hz h' c' kp e =>
  ⟨.ref s.heap.objs.size, _, I.laid (t' := s.toks) kp (Zj _) (show QaY X.prog X.w _ h' _ (.lst ys) from ⟨hz, its, c', r', e⟩), rfl, q _ (I.hok.fresh (Zj _))⟩
 rcases hq with hq | hq
 ·obtain ⟨its, r', pl, hz⟩ := I.list hq
  have hlen := r'.length
  obtain ⟨o, ho, hc, n, hd⟩ := pl.isList
  exact call_list_seq p (.inl rfl) ho hc hd (λ h' c' kp e => fin its r' hz h' c' kp e) (by simp only [Zn] <;> omega)
 ·obtain ⟨its, r', pl, hz⟩ := I.tuple hq
  have hlen := r'.length
  obtain ⟨o, ho, hc, n, hd⟩ := pl
  exact call_list_seq p (.inr rfl) ho hc hd (λ h' c' kp e => fin its r' hz h' c' kp e) (by simp only [Zn] <;> omega)
def tyV (K : PySem.W.Frag) (T : String) (x : V) (H : Hp) : Prop := match x with
 | .str _ => T = "str"
 | .int _ => T = "int"
 | .ref p => (T = "list" /\ ∃ xs, SqL K H p xs) ∨ (T = "tuple" /\ ∃ o, K.lookup p = some o /\ o.cls = .type "tuple" /\ o.dict = none) ∨
   (T = "dict" /\ ((∃ kvs, H p = some (.dK kvs)) ∨ ∃ kvs, H p = some (.dT kvs))) ∨ (T = "set" /\ ∃ S n, H p = some (.set S n))
 | _ => False
theorem Qmv {pins : List (Addr × Obj)} {σ : St} {H : Hp} {s : Shared} {T : String} {x : V} {v : Value} (I : Inv X pins σ H s) (r : RelV x v) (ty : tyV X.K T x H) :
  s.TypeIs v T /\ ∀ a, v = .ref a -> ∃ ob, s.heap.get? a = some ob /\ ob.dict = none := by
 cases x with
 | str z =>
  obtain ⟨t, rfl⟩ := r
  cases (show T = "str" from ty)
  exact ⟨typeIs_str s z t, λ _ e => nomatch e⟩
 | int i =>
  obtain ⟨t, rfl⟩ := r
  cases (show T = "int" from ty)
  exact ⟨typeIs_int s i t, λ _ e => nomatch e⟩
 | ref p =>
  cases r
  rcases ty with ⟨rfl, xs, hq⟩ | ⟨rfl, o, hk, hc, hd⟩ | ⟨rfl, hk⟩ | ⟨rfl, S, n, hk⟩
  ·obtain ⟨its, _, pl, _⟩ := I.list hq
   refine ⟨pl.isList.typeIs, λ a e => ?_⟩
   cases e
   obtain ⟨o, n, e, c, hd, _⟩ := pl
   exact ⟨o, e, hd⟩
  ·refine ⟨⟨o, I.kIn p o hk, hc⟩, λ a e => ?_⟩
   cases e
   exact ⟨o, I.kIn _ o hk, hd⟩
  ·have z : ∃ o, s.heap.get? p = some o /\ o.ExactDict := by
    rcases hk with ⟨kvs, hk⟩ | ⟨kvs, hk⟩
    ·obtain ⟨_, _, _, _, o, _, _, e, ex, _⟩ := I.hok p _ hk
     exact ⟨o, e, ex⟩
    ·obtain ⟨_, _, _, _, o, _, _, e, ex, _⟩ := I.hok p _ hk
     exact ⟨o, e, ex⟩
   obtain ⟨o, e, ex⟩ := z
   refine ⟨⟨o, e, ex.1⟩, λ a e2 => ?_⟩
   cases e2
   exact ⟨o, e, ex.2.1⟩
  ·obtain ⟨o, _, _, _, e, ex, _⟩ := I.hok p _ hk
   refine ⟨⟨o, e, ex.1⟩, λ a e2 => ?_⟩
   cases e2
   exact ⟨o, e, ex.2.1⟩
 | _ => exact False.elim ty
noncomputable def QqP (K : PySem.W.Frag) (T : String) (r : V -> List V -> Hp -> VK -> Prop) (to : TE) : TE := λ σ H Q => to σ H λ x H1 => tyV K T x H1 /\ r x [] H1 Q
noncomputable def tBM (K : PySem.W.Frag) (T : String) (r : V -> List V -> Hp -> VK -> Prop) (to : TE) (t : TA) : TE := λ σ H Q => to σ H λ x H1 => tyV K T x H1 /\ t σ H1 λ xs H2 => r x xs H2 Q
variable {o e : Expr} {es : List Expr} {to : TE} {t : TA} {name : Str} {apos cpos : Pos} {T id : String} {r : V -> List V -> Hp -> VK -> Prop}
theorem Qre (pa : PlainAttrs T) (slot : Slot T name id) (hty : typeOf (.builtin id) = pure (.type "method_descriptor")) (hm : MtR X id r) (ho : PE X o to)
  (hbase : attributeBase o name X.env (eval o X.env) = eval o X.env := by rfl) (hline : (apos.endLine == cpos.line) = true := by rfl) : PE X (.Call (.Attribute o name apos) [] [] cpos) (QqP X.K T r to) := by
 intro pins s σ H Q I h
 refine wpAny_Call_method0_late hbase hline (thn (ho pins s σ H _ I h) λ v s1 ⟨x, H1, I1, r1, ty, q1⟩ => ?_)
 obtain ⟨h1, h2⟩ := Qmv I1 r1 ty
 exact ⟨T, id, pa, slot, hty, h1, h2, Calls.callWith_builtin rfl (PySem.evalArgs_none (hm pins s1 σ H1 x [] v [] Q I1 r1 .nil q1))⟩
theorem Qst (pa : PlainAttrs T) (slot : Slot T name id) (hty : typeOf (.builtin id) = pure (.type "method_descriptor")) (hm : MtR X id r) (ho : PE X o to) (ha : PA X (e :: es) t)
  (hbase : attributeBase o name X.env (eval o X.env) = eval o X.env := by rfl)
  (hfew : ((backTo cpos (starEach (e :: es) X.env)).all (λ x => !x.1) && (backToKw cpos (keywordEach [] X.env)).all (λ x => x.1.isSome)
   && decide ((e :: es).length + ([] : List Keyword).length + (if ([] : List Keyword).isEmpty then 0 else 1) < 30)) = true := by rfl)
  (hline : (apos.endLine == cpos.line) = true := by rfl) (hs : starEach (e :: es) X.env = (false, eval e X.env) :: starEach es X.env := by rfl) (hplain : (backTo cpos (starEach es X.env)).any (·.1) = false := by rfl) :
  PE X (.Call (.Attribute o name apos) (e :: es) [] cpos) (tBM X.K T r to t) := by
 intro pins s σ H Q I h
 refine wpAny_Call_method_late hbase hfew hline rfl (thn (ho pins s σ H _ I h) λ v s1 ⟨x, H1, I1, r1, ty, q1⟩ => ?_)
 obtain ⟨h1, h2⟩ := Qmv I1 r1 ty
 refine ⟨T, id, pa, slot, hty, h1, h2, ?_⟩
 have hA := ha cpos pins s1 σ H1 _ I1 q1
 rw [hs] at hA ⊢
 refine Calls.callWith_builtin (by show (false || (backTo cpos (starEach es X.env)).any (·.1)) = false; rw [hplain] <;> rfl) (Calls.evalArgs_plain ?_)
 exact thn hA λ us s2 ⟨vs, H2, I2, r2, q2⟩ => hm pins s2 σ H2 x vs v us Q I2 r1 r2 q2
end
end L2
namespace L2
open PySem PySem.Spec PyProof.Rows
def MtM (X : Cx) (id : String) (r : V -> List V -> Hp -> VK -> Prop) : Prop :=
 ∀ (pins : List (Addr × Obj)) (s : Shared) (σ : St) (H : Hp) (x : V) (xs : List V) (v : Value) (us : List Value) (Q : VK), Inv X pins σ H s -> RelV x v -> Ql xs us -> r x xs H Q →
  wpAny (model X.prog X.w) X.A (call (.builtin id) (v :: us)) (EP X pins σ Q) X.xe s
theorem Ql.one : ∀ {x : V} {us : List Value}, Ql [x] us -> ∃ u, us = [u] /\ RelV x u
 | _, _, .cons r .nil => ⟨_, rfl, r⟩
theorem Ql.two : ∀ {x y : V} {us : List Value}, Ql [x, y] us -> ∃ u v, us = [u, v] /\ RelV x u /\ RelV y v
 | _, _, _, .cons r (.cons q .nil) => ⟨_, _, rfl, r, q⟩
theorem Ql.zero : ∀ {us : List Value}, Ql [] us -> us = []
 | _, .nil => rfl
theorem Ql.reverse {xs : List V} {us : List Value} (h : Ql xs us) : Ql xs.reverse us.reverse := by
 induction h with
 | nil => exact .nil
 | cons r t ih => rw [ZaF, ZaF]; exact Ql.append ih (.cons r .nil)
theorem Ql.rep {xs : List V} {us : List Value} (h : Ql xs us) : ∀ k : Nat, Ql (List.replicate k xs).flatten (List.replicate k us).flatten
 | 0 => .nil
 | k + 1 => by
  rw [ZQ, ZQ, ZS, ZS]
  exact Ql.append h (Ql.rep h k)
theorem foldl_rep (its : List Value) : ∀ (k : Nat) (acc : List Value),
  List.foldl (λ x1 x2 => x1 ++ x2) acc.toArray (List.replicate k its.toArray) = (acc ++ (List.replicate k its).flatten).toArray
 | 0, acc => by simp
 | k + 1, acc => by
  have e : acc.toArray ++ its.toArray = (acc ++ its).toArray := by simp
  have e2 : (acc ++ its) ++ (List.replicate k its).flatten = acc ++ (List.replicate (k + 1) its).flatten := by
   rw [ZQ, ZS, Zax]
  rw [← e2, ← foldl_rep its k (acc ++ its), ← e, ZQ, List.foldl_cons]
section
variable {X : Cx} {pins : List (Addr × Obj)} {σ : St} {H : Hp} {s : Shared} {l b : Addr} {xs ys zs : List V}
theorem Inv.Qqn {its its' : List Value} {n : Nat} {f : Array Value -> Array Value} {t' : Nat} (I : Inv X pins σ H s) (hH : H l = some (.lst xs))
  (e : s.heap.get? l = some { cls := .type "list", data := .seq its.toArray n }) (hf : f its.toArray = its'.toArray) (hv : Ql ys its') (hz : ys.length <= sizeLine) :
  Inv X pins σ (upd H l (.lst ys)) { s with heap := s.heap.update l (Obj.mapSeq f), toks := t' } := by
 have q := PySem.IsL.update e f
 rw [hf] at q
 refine I.write (x := l) (e := l) (by rw [hH]; exact trivial) (.inl rfl) (λ b' u hb hu => (Heap.get?_update_other s.heap (Obj.mapSeq f) (Ne.symm hb)).trans hu) ⟨_, q⟩ ?_
 exact ⟨hz, its', _, hv, q⟩
theorem Inv.QrH {its : List Value} {t' : Nat} (I : Inv X pins σ H s) (hv : Ql ys its) (hz : ys.length <= sizeLine) :
  Inv X pins σ (upd H s.heap.objs.size (.lst ys)) { s with heap := s.heap.push { cls := .type "list", data := .seq its.toArray }, toks := t' } :=
 I.laid (λ _ _ q => Zl _ q) (Zj _) ⟨hz, its, 0, hv, Zy _ rfl⟩
theorem Inv.fresh (I : Inv X pins σ H s) : H s.heap.objs.size = none := I.hok.fresh (Zj _)
theorem Inv.Qna (I : Inv X pins σ H s) (hH : H l = some (.lst xs)) : xs.length <= sizeLine /\ ∃ (its : List Value) (n : Nat), Ql xs its /\ xs.length = its.length /\ s.heap.get? l = some { cls := .type "list", data := .seq its.toArray n } := by
 obtain ⟨z, its, n, r, e⟩ := I.hok l _ hH
 exact ⟨z, its, n, r, r.length, e⟩
theorem QmL {n : Nat} (h : n <= sizeLine) : Builtin.List.listTooLong n = false := by
 unfold Builtin.List.listTooLong
 exact decide_eq_false (by omega)
end
section
variable {X : Cx}
noncomputable def Qkr : V -> List V -> Hp -> VK -> Prop := λ x vs H Q => ∃ l xs y, x = .ref l /\ vs = [y] /\ H l = some (.lst xs) /\ xs.length < sizeLine /\ Q .non (upd H l (.lst (xs ++ [y])))
theorem QhO : MtM X "list.append" Qkr := by
 intro pins s σ H x vs v us Q I rx rv h
 obtain ⟨l, xs, y, rfl, rfl, hH, hz, q⟩ := h
 cases rx
 obtain ⟨u, rfl, ru⟩ := rv.one
 obtain ⟨z, its, n, r, hl, e⟩ := I.Qna hH
 refine call_meets F.slot_list_append ⟨_, e, rfl⟩ F.entry_list_append (F.args_list_append_2 _ _) (PySem.list_append l its.toArray n u (by rw [Zn]; omega)) ⟨e, ?_⟩
 refine ⟨.non, _, I.Qqn (its' := its ++ [u]) hH e (by simp) (r.append (.cons ru .nil)) ?_, rfl, q⟩
 rw [Zp, ZaH]
 omega
noncomputable def Qlg : V -> List V -> Hp -> VK -> Prop := λ x vs H Q => ∃ l xs, x = .ref l /\ vs = [] /\ H l = some (.lst xs) /\ Q .non (upd H l (.lst []))
theorem QnA : MtM X "list.clear" Qlg := by
 intro pins s σ H x vs v us Q I rx rv h
 obtain ⟨l, xs, rfl, rfl, hH, q⟩ := h
 cases rx
 have hus := rv.zero
 subst hus
 obtain ⟨z, its, n, r, hl, e⟩ := I.Qna hH
 refine call_meets F.slot_list_clear ⟨_, e, rfl⟩ F.entry_list_clear (F.args_list_clear_1 _) (AutoSeq1.list_clear_list_0 l its.toArray n (by rw [Zn]; omega)) ⟨e, ?_⟩
 exact ⟨.non, _, I.Qqn (its' := []) (ys := []) hH e rfl .nil (ZL _), rfl, q⟩
theorem len_rep {α : Type} (xs : List α) (k : Nat) : (List.replicate k xs).flatten.length = k * xs.length := by
 induction k with
 | zero => simp
 | succ k ih => rw [ZQ, ZS, Zp, ih, Nat.succ_mul, Nat.add_comm]
end
section
variable {prog : Program} {w : World} {A : Around} {E : Value -> Shared -> Prop} {s : Shared}
end
section
variable {X : Cx}
end
end L2
namespace Att
open PySem PySem.W PySem.Calls PyProof.Rows
theorem QgW {P : Params} {h : Heap} : ∀ (ns : List Int) (vs : List Value), WellAll P h vs (ns.map WData.int) -> IntsAre vs ns := by
 intro ns
 induction ns with
 | nil =>
  intro vs w
  rw [ZaE] at w
  cases w
  exact .nil
 | cons n ns ih =>
  intro vs w
  rw [Zt] at w
  cases w with
  | cons a b =>
   cases a
   exact .cons _ _ (ih _ b)
theorem QlG {l : OpenLaw} {n : Nat} (hn : l.most = some n) {P : Params} {h : Heap} {args : List WData} {vals : List Value}
  (hpre : l.row.toRowW.claim.pre args = true) (hwl : WellAll P h vals args) :
  ∃ a vs ns, vals = [Value.ref a] /\ args = [WData.list (ns.map WData.int)] /\ h.get? a = some { cls := .type "list", data := .seq vs.toArray } /\ IntsAre vs ns /\ ns.length <= n := by
 have hsh : WShape.hasAll [] args [.list .int] = true := (pre_splitW hpre).1
 have hc : l.pre.holds [] { args := args } = true := (pre_splitW hpre).2
 obtain ⟨d, r, rfl, h1, h2⟩ := hasAllW_cons hsh
 obtain rfl := hasAllW_nil h2
 obtain ⟨xs, rfl, h3⟩ := hasW_list h1
 obtain ⟨ns, rfl⟩ := items_int h3
 have hlen : ns.length <= n := by
  unfold OpenLaw.pre at hc
  have h4 : (WTm.not (.lt (.lit (.int (n : Int))) (.len (.arg 0)))).holds [] { args := [.list (ns.map .int)] } = true := by
   have h4 := (holds_andW hc).1
   rw [hn] at h4
   exact h4
  have h5 := condW_of h4 (w_not (w_lt w_lit (w_len_list (w_arg rfl))))
  rw [Zs] at h5
  refine Nat.le_of_not_lt λ q => ?_
  have q' : (n : Int) < ((ns.length : Nat) : Int) := by omega
  first
   | (rw [decide_eq_true q'] at h5; exact absurd h5 (by decide))
   | (simp at h5; omega)
 cases hwl with
 | cons w1 w2 =>
  cases w2
  cases w1 with
  | list ho hall => exact ⟨_, _, ns, rfl, rfl, ho, QgW ns _ hall, hlen⟩
theorem Qmw (l : OpenLaw) (args : List WData) : l.row.toRowW.claim.post args (.bool true) args = true :=
 postW_of (r := l.row.toRowW) (X := (true == true))
  (show WShape.has [] (.bool true) .bool = true by first | rfl | decide | simp [WShape.has, WShape.arms, WShape.armsAll])
  (show (WTm.eq .res (.lit (.bool true))).value [] { args := args, res := some (.bool true), after := args } = some (.bool (true == true)) from w_eq_bool (w_res rfl) w_lit) rfl
theorem QfL {l : OpenLaw} {n : Nat} {q : Program} {loose : List Str} {XP : (Str -> Option Value) -> Heap -> Prop} {YP : World -> Heap -> Prop} {d : DefRec}
  (hn : l.most = some n) (hdf : d.params.defaults = [])
  (call : ∀ (w : World) (s₀ s₁ : Shared) (mg mb : Str -> Option Value) (fa : Addr) (o : Obj) (pm cd doc : Value) (a : Addr) (vs : List Value) (ns : List Int),
   Ground q loose [] XP w s₀ mg mb s₁.heap -> YP w s₁.heap →
   s₁.heap.get? fa = some o -> o.data = .func (docDef d.name d.params d.body d.scope pm cd doc) -> s₁.heap.CodeRec cd d.name -> mg d.name = some (.ref fa) →
   s₁.heap.get? a = some { cls := .type "list", data := .seq vs.toArray } -> IntsAre vs ns -> ns.length <= n -> s₁.gens = #[] →
   codeAny (model l.prog w) callerA (.call (.ref fa) ⟨[.ref a], []⟩) (λ r s' => r = .ok (.ret (.bool true)) /\ OldK s₁.heap s'.heap /\ s'.os = s₁.os /\ AllBare s'.gens) s₁) :
  WalkO q loose XP YP l.row.toRowW d [] (λ f vs => PySem.call f vs) := by
 intro w s₀ s₁ mg mb G Y fa o pm cd doc dV kV ho hd hcd hD hmg hg args vals as hpre hlay hrd hwl hlo
 obtain rfl : dV = .none := Dflts.none hD hdf
 obtain rfl : kV = .none := Dflts.noKw hD
 obtain ⟨a, vs, ns, rfl, rfl, hobj, hints, hlen⟩ := QlG hn hpre hwl
 refine enter_call (codeAny_mono (call w s₀ s₁ mg mb fa o pm cd doc a vs ns G Y ho (fd_plain hd) hcd hmg hobj hints hlen hg) λ r s' hq => ?_)
 obtain ⟨rfl, h2, h3, h4⟩ := hq
 exact ⟨.inl ⟨.bool true, .bool true, [], rfl, λ _ => rfl, .bool true, Qmw l _, λ _ => ⟨List.Pairwise.nil, λ _ hm => (nomatch hm)⟩⟩, h2, h3, h4⟩
section
variable {prog : Program} {w : World} {A : Around} {E : Value -> Shared -> Prop} {s : Shared} {K : Frag}
noncomputable def ledger (h : Heap) (L d : Addr) : List (Addr × Obj) := (List.range h.objs.size).filterMap λ a => if a = L ∨ a = d then none else (h.get? a).map λ o => (a, o)
end
end Att
namespace L2
open PySem PySem.Spec PyProof.Rows
theorem QaW : ∀ {vs : List Value} {ns : List Int}, IntsAre vs ns -> Ql (ns.map V.int) vs
 | _, _, .nil => .nil
 | _, _, .cons n t h => .cons ⟨t, rfl⟩ (QaW h)
def QnK (H : Hp) : Prop := ∀ b, H b = none ∨ ∃ o xs, H b = some (.frz o (.lst xs))
theorem Qjm {P : Program} {w : World} {K : PySem.W.Frag} {mg mb : Str -> Option Value} {CX : CXT} {k : Nat} {fa a : Addr} {fd : FuncData} {x : Str} {sp : Sp} {s₁ : Shared} {vs : List Value} {ns : List Int}
  (KX : K.In s₁.heap) (hns : s₁.heap.Ns mainGlobals mg) (hb : s₁.heap.Ns builtinsNs mb) (hbb : ∀ x : Str, x ≠ "__name__" -> mb x = bootBuiltins x) (hlim : s₁.heap.NoLimit) (hg : s₁.gens = #[])
  (ha : s₁.heap.get? a = some { cls := .type "list", data := .seq vs.toArray }) (hi : IntsAre vs ns) (hl : ns.length <= sizeLine) (hr : QW k callerA)
  (F : ∀ base : Heap, K.In base -> base.Ns mainGlobals mg -> Qbe P w K mg base CX k fa fd [x] sp) (hbind : ∀ (s : Shared) (u : Value), BindsTo s fd ⟨[u], []⟩ [(x, u)])
  (hsp : ∀ H : Hp, QnK H -> SqL K H a (ns.map V.int) -> sp [.ref a] H (λ v _ => v = .bl true) λ _ _ _ => False)
  (hCX : ∀ H e s', CX [] H s₁ (λ _ _ _ => False) e s' -> False) :
  codeAny (model P w) callerA (.call (.ref fa) ⟨[.ref a], []⟩) (λ r s' => r = .ok (.ret (.bool true)) /\ OldK s₁.heap s'.heap /\ s'.os = s₁.os /\ AllBare s'.gens) s₁ := by
 have rv := QaW hi
 have lenV := hi.length
 have core : ∀ H : Hp, QnK H -> SqL K H a (ns.map V.int) -> HOk P w H s₁.heap -> (∀ b, H b ≠ none -> b = a) -> (H a ≠ none -> K.lookup a = none) →
   codeAny (model P w) callerA (.call (.ref fa) ⟨[.ref a], []⟩) (λ r s' => r = .ok (.ret (.bool true)) /\ OldK s₁.heap s'.heap /\ s'.os = s₁.os /\ AllBare s'.gens) s₁ := by
  intro H hO hS hok hA hK
  have base_of : ∀ {b : Addr} {o : Obj}, s₁.heap.get? b = some o -> H b = none -> (QeD s₁.heap H).get? b = some o := λ e n => Qm6 e n
  have noA : ∀ {b : Addr} {o : Obj} {es : Array DictEntry} {ep : Nat}, s₁.heap.get? b = some o -> o.data = .dict es ep -> H b = none := λ {b o es ep} e d => by
   cases q : H b with
   | none => rfl
   | some u =>
    have e' : b = a := hA b (by rw [q]; simp)
    subst e'
    rw [ha] at e; cases e
    have d' : Data.seq vs.toArray _ = Data.dict es ep := d
    cases d'
  have nsK : ∀ {b : Addr} {m : Str -> Option Value}, s₁.heap.Ns b m -> (QeD s₁.heap H).Ns b m := λ {b m} ⟨o, es, ep, e, d, r⟩ => ⟨o, es, ep, base_of e (noA e d), d, r⟩
  have hKb : K.In (QeD s₁.heap H) := λ b o e => base_of (KX b o e) (by
   cases q : H b with
   | none => rfl
   | some u =>
    have e' : b = a := hA b (by rw [q]; simp)
    subst e'
    rw [hK (by rw [q]; simp)] at e; cases e)
  have hM : Mod K mg (QeD s₁.heap H) := ⟨hKb, nsK hns, ⟨mb, nsK hb, hbb⟩, let ⟨mc, h1, h2⟩ := hlim; ⟨mc, nsK h1, h2⟩⟩
  have e0 : Qdx P w K mg (QeD s₁.heap H) callerA [] s₁ H := ⟨rfl, hM, λ b o e => QpQ e, Nat.le_of_eq (Qli _ _), trivial, λ b hb => absurd (show b ∈ ([] : List Addr) from hb) (by simp), hok, .of_eq hg⟩
  refine codeAny_mono ((F _ hKb (nsK hns)).run callerA [] s₁ H ⟨[.ref a], []⟩ [.ref a] [.ref a] _ _ hr e0 (hbind s₁ (.ref a)) (.cons rfl .nil) (hsp H hO hS)) λ r s' h => ?_
  cases r with
  | error e => exact (hCX H e s' h).elim
  | ok fl =>
   cases fl with
   | next => exact False.elim h
   | brk => exact False.elim h
   | cont => exact False.elim h
   | ret u =>
    obtain ⟨v, H', os, bare, un, hok', r', q⟩ := h
    have q' : v = .bl true := q
    subst q'
    obtain rfl : u = Value.bool true := r'
    refine ⟨rfl, OldK.of_keep λ b o e => ?_, os, bare⟩
    cases q : H b with
    | none => exact un.keep b o e q (by intro z; exact absurd (show b ∈ ([] : List Addr) from z) (by simp)) (by simp)
    | some u =>
     rcases hO b with z | ⟨ob, xs, z⟩
     ·rw [q] at z; cases z
     ·have z2 := un.frzs b ob _ z
      obtain ⟨e1, _⟩ := hok b _ z
      obtain ⟨e2, _⟩ := hok' b _ z2
      rw [e] at e1; cases e1
      exact e2
 cases hk : K.lookup a with
 | some o =>
  have e := KX a o hk
  rw [ha] at e
  cases e
  refine core (λ _ => none) (λ _ => .inl rfl) (.inr ⟨_, vs.toArray, _, hk, rfl, rfl, rfl, by rw [Zn, lenV]; exact hl, by simpa using rv⟩) (λ b u z => by have z' : (none : Option HO) = some u := z; cases z') (λ b z => absurd rfl z) λ z => absurd rfl z
 | none =>
  refine core (λ b => if b = a then some (.frz { cls := .type "list", data := .seq vs.toArray } (.lst (ns.map V.int))) else none) (λ b => ?_) (.inl (.inr ⟨{ cls := .type "list", data := .seq vs.toArray }, if_pos rfl⟩)) (λ b u z => ?_) (λ b z => ?_) λ _ => hk
  ·by_cases hb : b = a
   ·exact .inr ⟨_, _, if_pos hb⟩
   ·exact .inl (if_neg hb)
  ·by_cases hb : b = a
   ·have z' := (if_pos hb).symm.trans z
    cases z'
    subst hb
    exact ⟨ha, by rw [Zs]; exact hl, vs, _, rv, ha⟩
   ·have z' := (if_neg hb).symm.trans z
    cases z'
  ·by_cases hb : b = a
   ·exact hb
   ·exact absurd (if_neg hb) z
end L2
namespace L2
open PySem PySem.Spec PyProof.Rows
noncomputable abbrev KOf {K : PySem.W.Frag} {h : Heap} (_ : K.In h) : PySem.W.Frag := K
theorem Qtj {l : PySem.W.OpenLaw} {n k : Nat} {q : Program} {loose : List Str} {XP : (Str -> Option Value) -> Heap -> Prop} {YP : World -> Heap -> Prop} {d : DefRec} {K : Params -> PySem.W.Frag} {CX : World -> CXT} {sp : World -> Sp} {x : Str}
  (hn : l.most = some n) (hn2 : n <= sizeLine) (hdf : d.params.defaults = []) (hr : QW k callerA)
  (hY : ∀ (w : World) (h : Heap), YP w h -> (K w.params).In h)
  (F : ∀ (w : World) (mg : Str -> Option Value) (fa : Addr) (h : Heap), (K w.params).In h -> h.Ns mainGlobals mg -> mg d.name = some (.ref fa) →
   ∃ fd : FuncData, (∀ (s : Shared) (u : Value), BindsTo s fd ⟨[u], []⟩ [(x, u)]) ∧
    ∀ base : Heap, (K w.params).In base -> base.Ns mainGlobals mg -> Qbe l.prog w (K w.params) mg base (CX w) k fa fd [x] (sp w))
  (hsp : ∀ (w : World) (H : Hp) (a : Addr) (ns : List Int), ns.length <= n -> QnK H -> SqL (K w.params) H a (ns.map V.int) -> sp w [.ref a] H (λ v _ => v = .bl true) λ _ _ _ => False)
  (hCX : ∀ (w : World) (H : Hp) (s : Shared) (e : Value) (s' : Shared), CX w [] H s (λ _ _ _ => False) e s' -> False) :
  PySem.W.WalkO q loose XP YP l.row.toRowW d [] (λ f vs => PySem.call f vs) := by
 refine Att.QfL hn hdf λ w s₀ s₁ mg mb fa o pm cd doc a vs ns G Y ho hd hcd hmg hobj hints hlen hg => ?_
 have KX := hY w _ Y
 obtain ⟨fd, hb, hF⟩ := F w mg fa _ KX G.T.g hmg
 exact Qjm KX G.T.g G.T.b G.T.builtins G.T.nolimit hg hobj hints (Zv hlen hn2) hr hF hb (λ H hO hS => hsp w H a ns hlen hO hS) λ H e s' => hCX w H s₁ e s'
end L2
namespace L2
open PySem PySem.Spec PyProof.Rows
noncomputable def Qdi (s : Stmt) : Arguments := match s with
 | .FunctionDef _ a _ _ _ _ _ _ _ _ => a
 | _ => { posonlyargs := [], args := [], vararg := none, kwonlyargs := [], kw_defaults := [], kwarg := none, defaults := [] }
noncomputable def QY (s : Stmt) : List Stmt := match s with
 | .FunctionDef _ _ b _ _ _ _ _ _ _ => b
 | _ => []
noncomputable def Qd (s : Stmt) : Scope := match s with
 | .FunctionDef _ _ _ _ _ _ sc _ _ _ => sc
 | _ => { kind := .function, names := [], isGenerator := false, isCoroutine := false }
noncomputable abbrev CX0 : CXT := λ _ _ _ _ _ _ => False
noncomputable abbrev E0 : XK := λ _ _ _ => False
theorem QkO {X : Cx} : Qgd CX0 X E0 := λ _ _ _ _ _ _ _ h => h.elim
structure Fun (K : PySem.W.Frag) (x qual : Str) (st : Stmt) (f : Addr) (fd : FuncData) : Prop where
 ex : ∃ (oc : Value) (od : Option Addr) (kV doc pm : Value) (an : Option Addr) (cdv ct : Value) (osl : Array (Option Value)),
  fd = PySem.W.fnOf x qual (Qdi st) (QY st) (Qd st) .none kV doc pm an cdv ct /\ K.lookup f = some ⟨oc, od, .func fd, osl⟩ /\ PySem.W.codeIn K cdv qual = true
 kp : PySem.W.keepIn K (.ref f) = true
section
variable {P : Program} {w : World} {K : PySem.W.Frag} {mg : Str -> Option Value} {base : Heap}
theorem Fun.ok {x qual : Str} {st : Stmt} {f : Addr} {fd : FuncData} {N ps : List Str} {k : Nat} {sp : Sp} (F : Fun K x qual st f fd) (S : QaJ N ps (Qd st)) (len : ∀ vs H Q E, sp vs H Q E -> vs.length = ps.length)
  (hbody : ∀ (cdv : Value) (A : Around) (outer : List Env) (s : Shared) (H : Hp) (vs : List V) (Q : VK) (E : XK), QW k (A.deeper (envOfC qual (Qd st) s.heap.objs.size f cdv)) -> sp vs H Q E →
   ∃ t, PSs (Qb1 CX0 P w K mg base N qual (Qd st) f cdv A outer s H E).nox (QY st) t /\ t { nx := λ _ H' => Q .non H', rt := Q } (start N vs) H) : Qbe P w K mg base CX0 (k + 1) f fd ps sp := by
 obtain ⟨oc, od, kV, doc, pm, an, cdv, ct, osl, rfl, lk, hcd⟩ := F.ex
 refine Qoj lk hcd S len λ A outer s H vs Q E hr hsp => ?_
 obtain ⟨t, h, q⟩ := hbody cdv A outer s H vs Q E hr hsp
 exact ⟨t, h.nox, q⟩
theorem Fun.binds {x qual : Str} {st : Stmt} {f : Addr} {fd : FuncData} {ps : List Str} (F : Fun K x qual st f fd)
  (h : ∀ (kV doc pm : Value) (an : Option Addr) (cdv ct : Value) (us : List Value), us.length = ps.length -> bindArgs (PySem.W.fnOf x qual (Qdi st) (QY st) (Qd st) .none kV doc pm an cdv ct) ⟨us, []⟩ = pure (ps.zip us)) : Binds K fd ps [] := by
 obtain ⟨oc, od, kV, doc, pm, an, cdv, ct, osl, rfl, lk, hcd⟩ := F.ex
 exact .all (h kV doc pm an cdv ct)
theorem Qq7 {x qual : Str} {st : Stmt} {f : Addr} {oc : Value} {od an : Option Addr} {osl : Array (Option Value)} {kV doc pm cdv ct : Value} (l : K.lookup f = some ⟨oc, od, .func (PySem.W.fnOf x qual (Qdi st) (QY st) (Qd st) .none kV doc pm an cdv ct), osl⟩)
  (c : PySem.W.codeIn K cdv qual = true) (k : PySem.W.keepIn K (.ref f) = true) : Fun K x qual st f (PySem.W.fnOf x qual (Qdi st) (QY st) (Qd st) .none kV doc pm an cdv ct) := ⟨⟨oc, od, kV, doc, pm, an, cdv, ct, osl, rfl, l, c⟩, k⟩
end
section
variable {X : Cx}
end
theorem Qm0 {A B : Prop} (h : B) : if false = true then A else B := by
 rw [if_neg ZO]
 exact h
theorem QnY {A B : Prop} (h : A) : if true = true then A else B := by
 rw [if_pos rfl]
 exact h
def Qq (H H' : Hp) : Prop := ∀ b o, H b = some o -> H' b = some o
theorem Qq.refl (H : Hp) : Qq H H := λ _ _ h => h
theorem Qq.trans {H H1 H2 : Hp} (a : Qq H H1) (b : Qq H1 H2) : Qq H H2 := λ c o h => b c o (a c o h)
theorem Qq.free {H H' : Hp} (e : Qq H H') {l : Addr} (h : H' l = Option.none) : H l = Option.none := by
 cases q : H l with
 | none => rfl
 | some o =>
  rw [e l o q] at h
  cases h
theorem Qq.seq {K : PySem.W.Frag} {H H' : Hp} {a : Addr} {xs : List V} (e : Qq H H') (h : SqL K H a xs) : SqL K H' a xs := by
 rcases h with (h | ⟨o, h⟩) | h
 ·exact .inl (.inl (e _ _ h))
 ·exact .inl (.inr ⟨o, e _ _ h⟩)
 ·exact .inr h
end L2
namespace L2
open PySem PySem.Spec PyProof.Rows
theorem Qhg (env : Env) (body : Str × NameKind -> List (Str × Addr) -> Sem (ForInStep (List (Str × Addr))))
  (hb : ∀ n k cs, body (n, k) cs = if (k == NameKind.free) = true then (do let c ← cellOf env n; pure (ForInStep.yield ((n, c) :: cs))) else pure (ForInStep.yield cs)) :
  ∀ (names : List (Str × NameKind)) (acc : List (Str × Addr)), (∀ y ∈ names, y.2 = .free -> ∃ c, env.cells.lookup y.1 = some c) -> (∀ x c, acc.lookup x = some c -> env.cells.lookup x = some c) →
   ∃ cl, forIn names acc body = (pure cl : Sem _) /\ (∀ x c, cl.lookup x = some c -> env.cells.lookup x = some c) /\ (∀ x, acc.lookup x ≠ none -> cl.lookup x ≠ none) /\ ∀ y ∈ names, y.2 = .free -> cl.lookup y.1 ≠ none
 | [], acc, _, ha => ⟨acc, rfl, ha, λ _ h => h, λ y hy => by simp at hy⟩
 | (n, k) :: r, acc, hn, ha => by
  rw [List.forIn_cons, hb]
  have hr : ∀ y ∈ r, y.2 = .free -> ∃ c, env.cells.lookup y.1 = some c := λ y hy => hn y (Zc _ hy)
  by_cases hk : k = .free
  ·subst hk
   obtain ⟨c, hc⟩ := hn (n, .free) Zh rfl
   have hce : cellOf env n = pure c := by unfold cellOf; rw [show env.cells.lookup n = some c from hc]
   rw [if_pos (by rfl), hce]
   obtain ⟨cl, e, h1, h2, h3⟩ := Qhg env body hb r ((n, c) :: acc) hr (λ x c' e => by
    rw [Zq] at e
    cases q : x == n with
    | true => rw [q] at e; cases e; rw [beq_iff_eq] at q; rw [q]; exact hc
    | false => rw [q] at e; exact ha x c' e)
   have hcons : ∀ x, ((n, c) :: acc).lookup x ≠ none -> cl.lookup x ≠ none := h2
   refine ⟨cl, by simpa using e, h1, λ x hx => hcons x ?_, λ y hy hf => ?_⟩
   ·rw [Zq]; cases x == n with
    | true => simp
    | false => exact hx
   ·rcases Zm.mp hy with rfl | hy
    ·exact hcons _ (by simp [Zq])
    ·exact h3 y hy hf
  ·rw [if_neg (by simpa using hk)]
   obtain ⟨cl, e, h1, h2, h3⟩ := Qhg env body hb r acc hr ha
   refine ⟨cl, by simpa using e, h1, h2, λ y hy hf => ?_⟩
   rcases Zm.mp hy with rfl | hy
   ·exact absurd hf hk
   ·exact h3 y hy hf
theorem QpP {scope : Scope} {env : Env} (h : ∀ y ∈ scope.names, y.2 = .free -> ∃ c, env.cells.lookup y.1 = some c) :
  ∃ cl, closureFor scope env = pure cl /\ (∀ x c, cl.lookup x = some c -> env.cells.lookup x = some c) /\ ∀ y ∈ scope.names, y.2 = .free -> ∃ c, cl.lookup y.1 = some c := by
 unfold closureFor
 obtain ⟨cl, e, h1, _, h3⟩ := Qhg env (λ x cs => match x with | (name, kind) => if (kind == NameKind.free) = true then (do let c ← cellOf env name; pure (ForInStep.yield ((name, c) :: cs))) else pure (ForInStep.yield cs)) (λ _ _ _ => rfl) scope.names [] h (λ x c e => by simp at e)
 refine ⟨cl, ?_, h1, λ y hy hf => Option.ne_none_iff_exists'.mp (h3 y hy hf)⟩
 show (forIn scope.names [] _ >>= λ r => pure r) = _
 rw [e]; rfl
noncomputable def cxc (X : Cx) (N' : List Str) (scope : Scope) (cl : List (Str × Addr)) (C : Addr) (fp : List Addr) (s3 : Shared) (H3 : Hp) : Cx :=
 { X with N := N', s₀ := s3, H₀ := H3, env := compEnvC scope cl C X.env, outer := X.stack, ex := fp, fn := λ x => decide (scope.names.lookup x = some .cell), pn := [], xe := λ _ _ => False }
def PTs (X : Cx) (ifs : List Expr) (t : TT) : Prop :=
 ∀ (pins : List (Addr × Obj)) (s : Shared) (σ : St) (H : Hp) (Q : Bool -> Hp -> Prop), Inv X pins σ H s -> t σ H Q →
  wpAny (model X.prog X.w) X.A (forIn ifs true λ c r => if r = true then do let ok ← isTrue c X.env (eval c X.env); pure (ForInStep.yield ok) else pure (ForInStep.yield r)) (TP X pins σ Q) X.xe s
noncomputable def QsQ : TT := λ _ H Q => Q true H
theorem Qpr {X : Cx} : PTs X [] QsQ := λ _ _ _ H _ I h => wpAny_tests_nil ⟨H, I, h⟩
theorem Qpn {X : Cx} {c : Expr} {t : TT} (h : PT X c t) : PTs X [c] t := λ pins s σ H Q I q => wpAny_tests_one (h pins s σ H Q I q)
def Qgz (X : Cx) (N' : List Str) (scope : Scope) (σ σ' : St) : Prop :=
 σ'.length = N'.length /\ ∀ (j : Nat) (x : Str) (v : V), N'[j]? = some x -> σ'[j]? = some (some v) -> scope.names.lookup x = some .free /\ ∃ i : Nat, X.N[i]? = some x /\ σ[i]? = some (some v) /\ (X.env.kindOf x = some .cell ∨ X.env.kindOf x = some .free)
noncomputable def Qin (wi : TI) (cap : St -> St -> Prop) (g : TG) (tc : TT) (te : TE) : TE := λ σ H Q => wi σ H λ J H1 => ∃ σc, cap σ σc /\ ∀ D, H1 D = none -> ∃ W : Nat -> Nat -> List V -> Hp -> Prop,
 (∃ m, W 0 m [] (upd H1 D (.lst []))) /\ ∀ i m acc H2, W i m acc H2 -> (J.stop i H2 /\ Q (.ref D) H2) ∨
  (J.go i H2 /\ ∀ x H3, J.yld i H2 x H3 -> g x σc H3 λ σ2 H4 => (∀ (j : Nat) v, σc[j]? = some (some v) -> σ2[j]? = some (some v)) /\ tc σ2 H4 λ b H5 => if b = true then
   te σ2 H5 λ y H6 => H6 D = some (.lst acc) /\ acc.length < sizeLine /\ ∃ m', m' < m /\ W (i + 1) m' (acc ++ [y]) (upd H6 D (.lst (acc ++ [y])))
   else ∃ m', m' < m /\ W (i + 1) m' acc H5)
theorem Qbz {env : Env} : ∀ {names : List (Str × NameKind)} {x : Str}, names.lookup x = some .free →
  (names.map λ (n, k) => if (k == NameKind.free && env.scope.kind == .function && env.kindOf n == some .cell) then (n, NameKind.cell) else (n, k)).lookup x = some .cell ∨
  (names.map λ (n, k) => if (k == NameKind.free && env.scope.kind == .function && env.kindOf n == some .cell) then (n, NameKind.cell) else (n, k)).lookup x = some .free
 | [], _, h => by simp at h
 | (n, k) :: r, x, h => by
  have ih := @Qbz env r x
  rw [Zt]
  cases hx : x == n with
  | true =>
   simp only [Zq, hx] at h
   cases h
   dsimp only
   split
   ·left; simp [Zq, hx]
   ·right; simp [Zq, hx]
  | false =>
   simp only [Zq, hx] at h
   dsimp only
   split
   ·simp only [Zq, hx]; exact ih h
   ·simp only [Zq, hx]; exact ih h
theorem QcX {env : Env} : ∀ {names : List (Str × NameKind)} {x : Str},
  ((names.map λ (n, k) => if (k == NameKind.free && env.scope.kind == .function && env.kindOf n == some .cell) then (n, NameKind.cell) else (n, k)).lookup x = some .cell ∨
  (names.map λ (n, k) => if (k == NameKind.free && env.scope.kind == .function && env.kindOf n == some .cell) then (n, NameKind.cell) else (n, k)).lookup x = some .free) →
  ∃ k, (x, k) ∈ names /\ (k = .free ∨ k = .cell)
 | [], _, h => by simp at h
 | (n, k) :: r, x, h => by
  have ih := @QcX env r x
  rw [Zt] at h
  cases hx : x == n with
  | true =>
   have hn : x = n := by simpa using hx
   subst hn
   dsimp only at h
   split at h
   ·rename_i hc
    simp only [Zf] at hc
    refine ⟨k, Zh, .inl (by simpa using hc.1.1)⟩
   ·simp only [Zq, hx] at h
    refine ⟨k, Zh, ?_⟩
    rcases h with h | h
    ·exact .inr (Option.some.inj h)
    ·exact .inl (Option.some.inj h)
  | false =>
   dsimp only at h
   have : ∃ k, (x, k) ∈ r /\ (k = .free ∨ k = .cell) := by
    apply ih
    split at h
    ·simpa only [Zq, hx] using h
    ·simpa only [Zq, hx] using h
   obtain ⟨k', h1, h2⟩ := this
   exact ⟨k', Zc _ h1, h2⟩
theorem Qeb : ∀ (names : List (Str × NameKind)) (n : Nat) (acc : List (Str × Addr)) (x : Str) (c : Addr), (cellsFrom n names acc).lookup x = some c -> acc.lookup x = some c ∨ (n <= c /\ (x, NameKind.cell) ∈ names)
 | [], _, _, _, _, h => .inl h
 | (nm, k) :: r, n, acc, x, c, h => by
  unfold cellsFrom at h
  split at h
  ·rename_i hk
   have hk : k = .cell := by simpa using hk
   rcases Qeb r (n + 1) ((nm, n) :: acc) x c h with h | ⟨h1, h2⟩
   ·rw [Zq] at h
    cases q : x == nm with
    | true =>
     rw [q] at h
     cases h
     have : x = nm := by simpa using q
     exact .inr ⟨Zj _, by rw [this, hk]; exact Zh⟩
    | false => rw [q] at h; exact .inl h
   ·exact .inr ⟨by omega, Zc _ h2⟩
  ·rcases Qeb r n acc x c h with h | ⟨h1, h2⟩
   ·exact .inl h
   ·exact .inr ⟨h1, Zc _ h2⟩
theorem QiS : ∀ (names : List (Str × NameKind)) (n : Nat) (acc : List (Str × Addr)) (x : Str) (c : Addr), (x, NameKind.cell) ∈ names -> (cellsFrom n names acc).lookup x = some c -> n <= c
 | (nm, k) :: r, n, acc, x, c, hm, h => by
  unfold cellsFrom at h
  split at h
  ·by_cases hr : (x, NameKind.cell) ∈ r
   ·have := QiS r (n + 1) _ x c hr h
    omega
   ·have hx : x = nm := by
     rcases Zm.mp hm with e | e
     ·exact (Prod.mk.inj e).1
     ·exact absurd e hr
    rcases Qeb r (n + 1) ((nm, n) :: acc) x c h with h | ⟨h1, _⟩
    ·rw [Zq, show (x == nm) = true by simpa using hx] at h
     cases h
     exact Zj _
    ·omega
  ·rename_i hk
   rcases Zm.mp hm with e | e
   ·exact absurd (by rw [← (Prod.mk.inj e).2]; rfl) hk
   ·exact QiS r n acc x c e h
theorem Qiw : ∀ (names : List (Str × NameKind)) (n : Nat) (acc : List (Str × Addr)), (∀ x y c, acc.lookup x = some c -> acc.lookup y = some c -> x = y) -> (∀ x c, acc.lookup x = some c -> c < n) →
  ∀ x y c, (cellsFrom n names acc).lookup x = some c -> (cellsFrom n names acc).lookup y = some c -> x = y
 | [], _, _, hi, _, x, y, c, h1, h2 => hi x y c h1 h2
 | (nm, k) :: r, n, acc, hi, hb, x, y, c, h1, h2 => by
  unfold cellsFrom at h1 h2
  split at h1
  ·rename_i hk
   rw [if_pos hk] at h2
   refine Qiw r (n + 1) ((nm, n) :: acc) (λ x y c h1 h2 => ?_) (λ x c h => ?_) x y c h1 h2
   ·rw [Zq] at h1 h2
    cases qx : x == nm with
    | true =>
     rw [qx] at h1
     cases h1
     cases qy : y == nm with
     | true => rw [show x = nm by simpa using qx, show y = nm by simpa using qy]
     | false => rw [qy] at h2; exact absurd (hb y _ h2) (ZF _)
    | false =>
     rw [qx] at h1
     cases qy : y == nm with
     | true => rw [qy] at h2; cases h2; exact absurd (hb x _ h1) (ZF _)
     | false => rw [qy] at h2; exact hi x y c h1 h2
   ·rw [Zq] at h
    cases qx : x == nm with
    | true => rw [qx] at h; cases h; exact Zay _
    | false => rw [qx] at h; exact Zaq (hb x c h)
  ·rename_i hk
   rw [if_neg hk] at h2
   exact Qiw r n acc hi hb x y c h1 h2
theorem Qd2 : ∀ (names : List (Str × NameKind)) (n : Nat) (acc : List (Str × Addr)) (x : Str), (∃ c, acc.lookup x = some c) -> ∃ c, (cellsFrom n names acc).lookup x = some c
 | [], _, _, _, h => h
 | (nm, k) :: r, n, acc, x, h => by
  unfold cellsFrom
  split
  ·refine Qd2 r (n + 1) _ x ?_
   rw [Zq]
   cases x == nm with
   | true => exact ⟨n, rfl⟩
   | false => exact h
  ·exact Qd2 r n acc x h
theorem QiD : ∀ (names : List (Str × NameKind)) (n : Nat) (acc : List (Str × Addr)) (x : Str), (x, NameKind.cell) ∈ names -> ∃ c, (cellsFrom n names acc).lookup x = some c
 | (nm, k) :: r, n, acc, x, hm => by
  unfold cellsFrom
  rcases Zm.mp hm with e | e
  ·obtain ⟨e1, e2⟩ := Prod.mk.inj e
   subst e1
   rw [← e2, if_pos (by rfl)]
   exact Qd2 r (n + 1) _ x ⟨n, by simp [Zq]⟩
  ·split
   ·exact QiD r (n + 1) _ x e
   ·exact QiD r n acc x e
theorem Qhb (lo : Nat) : ∀ (names : List (Str × NameKind)) (h : Heap) (acc : List (Str × Addr)), (∀ x c, acc.lookup x = some c -> lo <= c -> h.IsCell c none) -> lo <= h.objs.size →
  ∀ x c, (cellsFrom h.objs.size names acc).lookup x = some c -> lo <= c -> (pushCells h names).IsCell c none
 | [], _, _, ha, _, x, c, e, hl => ha x c e hl
 | (nm, k) :: r, h, acc, ha, hlo, x, c, e, hl => by
  unfold cellsFrom at e
  unfold pushCells
  split at e
  ·rename_i hk
   rw [if_pos hk]
   have hs := Zak h { cls := .type "cell", data := .cell none }
   refine Qhb lo r (h.push { cls := .type "cell", data := .cell none }) ((nm, h.objs.size) :: acc) (λ x c e hl => ?_) (by rw [hs]; omega) x c (by rw [hs]; exact e) hl
   rw [Zq] at e
   cases q : x == nm with
   | true => rw [q] at e; cases e; exact ⟨_, Zy _ rfl, rfl⟩
   | false => rw [q] at e; exact (ha x c e hl).keeps λ b o e => Zl _ e
  ·rename_i hk
   rw [if_neg hk]
   exact Qhb lo r h acc ha hlo x c e hl
theorem Qkw {M : Model} {A : Around} {E : Value -> Shared -> Prop} {s : Shared} {scope : Scope} {globals builtins : Addr} {cl : List (Str × Addr)} {qual : Str} {env : Env} {Q : Env -> Shared -> Prop}
  (hQ : ∀ h' : Heap, h'.Ns s.heap.objs.size (λ _ => none) -> (∀ b o, s.heap.get? b = some o -> h'.get? b = some o) -> ((∀ x c, cl.lookup x = some c -> c < s.heap.objs.size) -> ∀ x c, (cellsFrom (s.heap.objs.size + 1) scope.names cl).lookup x = some c -> s.heap.objs.size + 1 <= c -> h'.IsCell c none) →
   Q (newEnv scope s.heap.objs.size globals (cellsFrom (s.heap.objs.size + 1) scope.names cl) qual none .none (some env) builtins) { s with heap := h' }) :
  wpAny M A (newFunctionEnv scope globals cl [] qual none .none (some env) builtins) Q E s := by
 simp only [newFunctionEnv, Option.isSome_some, if_true]
 refine wpAny_bind (wpAny_alloc ?_)
 refine wpAny_bind (wpAny_layCells _ (λ name kind cells => by cases hkc : kind == NameKind.cell <;> simp [hkc]) _ _ _ _ ?_)
 have hs := Zak s.heap { cls := .type "dict", data := .dict #[] }
 rw [show ({ s with heap := s.heap.push { cls := .type "dict", data := .dict #[] } } : Shared).heap.objs.size = s.heap.objs.size + 1 from hs]
 refine wpAny_bind (wpAny_pure (wpAny_pure ?_))
 refine hQ _ ((Heap.Ns.new s.heap (.type "dict")).keeps (pushCells_keeps _ _)) (λ b o e => pushCells_keeps _ _ b o (Zl _ e)) λ hb x c e hl => ?_
 refine Qhb (s.heap.objs.size + 1) scope.names (s.heap.push { cls := .type "dict", data := .dict #[] }) cl (λ x c e hl => ?_) (by rw [hs]; exact Zj _) x c (by rw [hs]; exact e) hl
 exact absurd (Zo (hb x c e) (Zv (Zu _) hl)) (ZF _)
section
variable {X : Cx} {tg iter elt : Expr} {ifs : List Expr} {scope : Scope} {N' : List Str} {pos : Pos}
structure Qc0 (X : Cx) (N' : List Str) (scope : Scope) : Prop where
 kind : scope.kind = .function
 own : ∀ y ∈ scope.names, y.2 = .cell -> scope.names.lookup y.1 = some .cell
 loc : ∀ y ∈ scope.names, y.2 = .local -> scope.names.lookup y.1 = some .local
 free : ∀ y ∈ scope.names, y.2 = .free -> X.env.kindOf y.1 = some .cell ∨ X.env.kindOf y.1 = some .free
theorem QmU {pins : List (Addr × Obj)} {σ σc : St} {H3 : Hp} {s3 : Shared} {fp : List Addr} {cl : List (Str × Addr)} {h' : Heap} {tk : Nat} (S : Qc0 X N' scope) (I : Inv X pins σ H3 s3)
  (hf : ∀ b ∈ fp, QcM X pins H3 b) (hfl : ∀ b ∈ fp, b < s3.heap.objs.size) (hc1 : ∀ x c, cl.lookup x = some c -> X.env.cells.lookup x = some c) (hc2 : ∀ y ∈ scope.names, y.2 = .free -> ∃ c, cl.lookup y.1 = some c) (cap : Qgz X N' scope σ σc)
  (hns : h'.Ns s3.heap.objs.size (λ _ => none)) (hk : ∀ b o, s3.heap.get? b = some o -> h'.get? b = some o)
  (hown : (∀ x c, cl.lookup x = some c -> c < s3.heap.objs.size) -> ∀ x c, (cellsFrom (s3.heap.objs.size + 1) scope.names cl).lookup x = some c -> s3.heap.objs.size + 1 <= c -> h'.IsCell c none) :
  Inv (cxc X N' scope (cellsFrom (s3.heap.objs.size + 1) scope.names cl) s3.heap.objs.size fp s3 H3) [] σc H3 { s3 with heap := h', toks := tk } := by
 have nold : ∀ b, b ∈ fp -> b ≠ s3.heap.objs.size := λ b hb e => absurd (hfl b hb) (by rw [e]; exact ZF _)
 have cellOld : ∀ x c, cl.lookup x = some c -> ∃ v, s3.heap.IsCell c v := λ x c e => I.cell x c (hc1 x c e)
 have cellLt : ∀ x c, cl.lookup x = some c -> c < s3.heap.objs.size := λ x c e => let ⟨v, q⟩ := cellOld x c e; q.lt
 have cellNew : ∀ c v, s3.heap.IsCell c v -> h'.IsCell c v := λ c v ⟨o, ho, hd⟩ => ⟨o, hk c o ho, hd⟩
 have hown := hown cellLt
 have look : ∀ x c, (cellsFrom (s3.heap.objs.size + 1) scope.names cl).lookup x = some c -> cl.lookup x = some c ∨ (s3.heap.objs.size + 1 <= c /\ (x, NameKind.cell) ∈ scope.names) := Qeb scope.names _ cl
 refine ⟨⟨I.ok.mod, S.kind, I.ok.glob, I.ok.blt, Zj _, Qiw scope.names _ cl (λ x y c h1 h2 => I.ok.inj x y c (hc1 x c h1) (hc1 y c h2)) (λ x c e => Zaq (cellLt x c e)), λ x hx => ?_, λ x c e1 e2 => ?_, I.ok.hd, I.ok.frames, .inl rfl, λ b hb => ⟨nold b hb, λ x c e => ?_⟩,
  I.bs, Zv I.ok.bsz I.sz, λ b o e hb => ?_, λ b hb hs => ?_, I.stack, I.Qhw⟩, rfl, I.bare, Un.kept hk, ⟨_, hns, λ j x v h1 h2 h3 => ?_⟩, λ x c e => ?_, I.hok.fresh (Zj _), λ x c e => ?_, λ p hp => absurd (show p ∈ ([] : List (Addr × Obj)) from hp) (by simp), I.hok.kept hk, cap.1⟩
 ·obtain ⟨k, hm, hk'⟩ := QcX (env := X.env) (names := scope.names) (x := x) hx
  rcases hk' with rfl | rfl
  ·exact Qd2 scope.names _ cl x (hc2 _ hm rfl)
  ·exact QiD scope.names _ cl x hm
 ·have e1 : decide (scope.names.lookup x = some .cell) = true := e1
  have := QiS scope.names _ cl x c (ZN (of_decide_eq_true e1)) e2
  exact Zv (Zu _) this
 ·rcases look x c e with e | ⟨e, _⟩
  ·exact (hf b hb).2.2.2.2.1 x c (hc1 x c e)
  ·intro z
   rw [z] at e
   exact absurd (Zo (hfl b hb) (Zv (Zu _) e)) (ZF _)
 ·rcases (hf b hb).2.2.2.1 with z | z
  ·exact I.ok.noex b o e z
  ·exact absurd (Zo (Zk e) (Zv I.ok.bsz z)) (ZF _)
 ·rcases Zm.mp (I.Qdl b hs) with e | z
  ·exact (hf b hb).2.1 e
  ·exact (hf b hb).2.2.1 z
 ·obtain ⟨hl, i, e1, e2, e3⟩ := cap.2 j x v h1 h2
  obtain ⟨m, hn, look'⟩ := I.loc
  obtain ⟨u, r, l⟩ := look' i x v e1 e2 (e3.elim (λ z => .inr (.inl z)) λ z => .inr (.inr z))
  refine ⟨u, r, .inr ⟨Qbz hl, ?_⟩⟩
  rcases l with ⟨k, _⟩ | ⟨_, c, ec, hcell⟩
  ·rcases e3 with z | z <;> (rw [k] at z; cases z)
  ·obtain ⟨c', ec'⟩ := Qd2 scope.names (s3.heap.objs.size + 1) cl x (hc2 (x, .free) (ZN hl) rfl)
   rcases look x c' ec' with q | ⟨_, q⟩
   ·have := hc1 x c' q
    rw [ec] at this; cases this
    exact ⟨c, ec', cellNew c _ hcell⟩
   ·have := S.own _ q rfl
    rw [hl] at this
    cases this
 ·rcases look x c e with q | ⟨q, _⟩
  ·obtain ⟨v, q⟩ := cellOld x c q
   exact ⟨v, cellNew c v q⟩
  ·exact ⟨none, hown x c e q⟩
 ·rcases look x c e with q | ⟨q, _⟩
  ·exact I.freeC x c (hc1 x c q)
  ·exact I.hok.fresh (by omega)
theorem Qlf {prog : Program} {w : World} {A : Around} {env : Env} {it acc : Value} {R : Result -> Shared -> Prop} {s0 : Shared} (J : Nat -> Shared -> Prop)
  (turn : ∀ n s, J n s -> wpAny (model prog w) A (pyNext it) (λ r s1 => match r with
   | none => R (.ok .next) s1
   | some v => wpAny (model prog w) A (letOwnedTupleGo tg it v) (λ _ s2 => wpAny (model prog w) A (assign tg env v) (λ _ s3 =>
     wpAny (model prog w) A (forIn ifs true λ c r => if r = true then do let ok ← isTrue c env (eval c env); pure (ForInStep.yield ok) else pure (ForInStep.yield r)) (λ ok s4 =>
      if ok = true then wpAny (model prog w) A (eval elt env) (λ x s5 => wpAny (model prog w) A (call (.builtin "list.append") [acc, x]) (λ _ s6 => ∃ m, m < n /\ J m s6) (λ _ _ => False) s5) (λ _ _ => False) s4
      else ∃ m, m < n /\ J m s4) (λ _ _ => False) s3) (λ _ _ => False) s2) (λ _ _ => False) s1) (λ _ _ => False) s)
  (n : Nat) (h : J n s0) : codeAny (model prog w) A (.compLoop (.ListComp elt [⟨tg, iter, ifs, 0⟩] scope pos) 0 it acc env) R s0 := by
 have up : ∀ {α : Type} {t : Sem α} {Q : α -> Shared -> Prop} {E : Value -> Shared -> Prop} {s : Shared}, wpAny (model prog w) A t Q (λ _ _ => False) s -> wpAny (model prog w) A t Q E s := λ h => wpAny_mono h (λ _ _ q => q) λ _ _ f => f.elim
 refine codeAny_loop (by rfl) J (λ k sk hk => ?_) n h
 show wpAny (model prog w) A ((compTurn (.ListComp elt [⟨tg, iter, ifs, 0⟩] scope pos) 0 it acc env).onRaise (λ x => do noteFrame x env; theTreesLotGoes x)) _ _ sk
 refine wpAny_noted (up ?_)
 rw [compTurn_list]
 refine wpAny_bind (wpAny_standAt (wpAny_bind (thn (turn k sk hk) λ r s1 h1 => ?_)))
 cases r with
 | none => exact wpAny_pure h1
 | some v =>
  refine wpAny_bind (thn h1 λ _ s2 h2 => wpAny_bind (thn h2 λ _ s3 h3 => wpAny_bind (thn h3 λ ok s4 h4 => ?_)))
  cases ok with
  | false => exact wpAny_pure ⟨rfl, h4⟩
  | true => exact wpAny_bind (wpAny_bind (thn h4 λ x s5 h5 => wpAny_bind (thn h5 λ _ s6 h6 => wpAny_pure (wpAny_pure ⟨rfl, h6⟩))))
theorem QnN {it D C : Addr} {fp : List Addr} {tn : Nat -> Heap -> Prop} {J : It} {cl : List (Str × Addr)} {s3 s4 : Shared} {H3 : Hp} {σc : St} {g : TG} {tc : TT} {te : TE} {Q : Hp -> Prop} (hcalm : X.calm = true)
  (T : Turn X.prog X.w X.K tg J fp it tn)
  (hg : PG (cxc X N' scope cl C fp s3 H3) tg g) (ht : PTs (cxc X N' scope cl C fp s3 H3) ifs tc) (he : PE (cxc X N' scope cl C fp s3 H3) elt te)
  (I : Inv (cxc X N' scope cl C fp s3 H3) [] σc H3 s4) (st : tn 0 s4.heap) (ff : ∀ b ∈ fp, QcM (cxc X N' scope cl C fp s3 H3) [] H3 b)
  (W : Nat -> Nat -> List V -> Hp -> Prop) (hw : ∃ m, W 0 m [] H3)
  (turn : ∀ i m acc H2, W i m acc H2 -> (J.stop i H2 /\ Q H2) ∨
   (J.go i H2 /\ ∀ x H5, J.yld i H2 x H5 -> g x σc H5 λ σ2 H6 => (∀ (j : Nat) v, σc[j]? = some (some v) -> σ2[j]? = some (some v)) /\ tc σ2 H6 λ b H7 => if b = true then
    te σ2 H7 λ y H8 => H8 D = some (.lst acc) /\ acc.length < sizeLine /\ ∃ m', m' < m /\ W (i + 1) m' (acc ++ [y]) (upd H8 D (.lst (acc ++ [y])))
    else ∃ m', m' < m /\ W (i + 1) m' acc H7))
  {R : Result -> Shared -> Prop} (hR : ∀ H' s', Inv (cxc X N' scope cl C fp s3 H3) [] σc H' s' -> Q H' -> R (.ok .next) s') :
  codeAny (model X.prog X.w) X.A (.compStart (.ListComp elt [⟨tg, iter, ifs, 0⟩] scope pos) 0 (.ref it) (.ref D) (compEnvC scope cl C X.env)) R s4 := by
 obtain ⟨m0, w0⟩ := hw
 have stat : ∀ {H' : Hp}, (∀ b ∈ fp, H' b = none) -> ∀ b ∈ fp, QcM (cxc X N' scope cl C fp s3 H3) [] H' b := λ hn b hb => ⟨hn b hb, (ff b hb).2⟩
 have loop : codeAny (model X.prog X.w) X.A (.compLoop (.ListComp elt [⟨tg, iter, ifs, 0⟩] scope pos) 0 (.ref it) (.ref D) (compEnvC scope cl C X.env)) R s4 := by
  refine Qlf (λ n s' => ∃ i acc H', Inv (cxc X N' scope cl C fp s3 H3) [] σc H' s' /\ tn i s'.heap /\ (∀ b ∈ fp, H' b = none) /\ W i n acc H') ?_ m0 ⟨0, [], H3, I, st, λ b hb => (ff b hb).1, w0⟩
  rintro n s5 ⟨i, acc, H5, I5, st5, fr5, w5⟩
  rcases turn i n acc H5 w5 with ⟨stop, q⟩ | ⟨go, step⟩
  ·refine thn (T.done (cxc X N' scope cl C fp s3 H3) rfl rfl rfl hcalm i [] s5 σc H5 _ I5 (stat fr5) st5 stop) λ r s6 ⟨hr, I6⟩ => ?_
   subst hr
   exact hR H5 s6 I6 q
  ·refine thn (T.item (cxc X N' scope cl C fp s3 H3) rfl rfl rfl hcalm i [] s5 σc H5 _ I5 (stat fr5) st5 go) λ r s6 ⟨u, hr, h6⟩ => ?_
   subst hr
   refine thn h6 λ _ s7 ⟨x, H7, I7, r7, y7, st7, fr7⟩ => ?_
   have I7' := I7.pinned (stat fr7) (T.obj _ _ st7)
   refine thn (hg _ s7 σc H7 x u _ I7' r7 (step x H7 y7)) λ _ s8 ⟨σ8, H8, I8, k8, q8⟩ => ?_
   refine thn (ht _ s8 σ8 H8 _ I8 q8) λ ok s9 ⟨H9, I9, q9⟩ => ?_
   have again : ∀ {H' : Hp} {s' : Shared} {acc' : List V}, Inv (cxc X N' scope cl C fp s3 H3) ([] ++ QeX fp s7.heap) σ8 H' s' -> (∃ m', m' < n /\ W (i + 1) m' acc' H') →
     ∃ m, m < n /\ ∃ i acc H', Inv (cxc X N' scope cl C fp s3 H3) [] σc H' s' /\ tn i s'.heap /\ (∀ b ∈ fp, H' b = none) /\ W i m acc H' := λ {H' s' acc'} I' ⟨m', hm, w'⟩ => by
    have pin : ∀ b ∈ fp, ∀ o, s7.heap.get? b = some o -> s'.heap.get? b = some o /\ H' b = none := λ b hb o e => by
     have z := I'.pin (b, o) (Ze _ (Ze _ (Qez hb e)))
     exact ⟨z.1, z.2.1⟩
    refine ⟨m', hm, i + 1, acc', H', ?_, T.keep _ _ _ st7 λ b hb o e => (pin b hb o e).1, λ b hb => ?_, w'⟩
    ·exact I'.QeH.weak (I.len.trans I8.len.symm) k8
    ·obtain ⟨o, e, _⟩ := T.obj _ _ st7 b hb
     exact (pin b hb o e).2
   cases ok with
   | false =>
    rw [if_neg ZO] at q9 ⊢
    exact again I9 q9
   | true =>
    rw [if_pos rfl] at q9 ⊢
    refine thn (he _ s9 σ8 H9 _ I9 q9) λ yv s10 ⟨y, H10, I10, r10, e10, l10, q10⟩ => ?_
    refine thn (QhO _ s10 σ8 H10 (.ref D) [y] (.ref D) [yv] (λ v H11 => H11 = upd H10 D (.lst (acc ++ [y]))) I10 rfl (.cons r10 .nil) ⟨D, acc, y, rfl, rfl, e10, l10, rfl⟩) λ _ s11 ⟨_, H11, I11, _, e11⟩ => ?_
    subst e11
    exact again I11 q10
 exact codeAny_compStart_list loop (T.self _ 0 _ _ _ st loop)
theorem Qjp {wi : TI} {g : TG} {tc : TT} {te : TE} {cp : Pos} {use : Option (Value -> Sem Unit)} {pins : List (Addr × Obj)} {s : Shared} {σ : St} {H : Hp} {QV : Value -> Shared -> Prop} {Q : VK} (hcalm : X.calm = true) (S : Qc0 X N' scope) (hi : PI X tg iter wi)
  (hin : ∀ cl C fp s3 H3, PG (cxc X N' scope cl C fp s3 H3) tg g /\ PTs (cxc X N' scope cl C fp s3 H3) ifs tc /\ PE (cxc X N' scope cl C fp s3 H3) elt te)
  (hs : ∀ x, foldedSetIterable iter X.env x = pure x) (I : Inv X pins σ H s) (h : Qin wi (Qgz X N' scope) g tc te σ H Q)
  (fin : ∀ (D C : Addr) (H' : Hp) (s' : Shared), Inv X pins σ H' s' -> H' C = none -> C ≠ X.env.locals -> X.s₀.heap.objs.size <= C -> (∀ x c, X.env.cells.lookup x = some c -> c ≠ C) -> (∀ p ∈ X.pn ++ pins, p.1 ≠ C) -> (∃ m, s'.heap.Ns C m) -> Q (.ref D) H' →
   compPost (model X.prog X.w) X.A X.xe use QV (.ref D) C (.ok .next) s') :
  wpAny (model X.prog X.w) X.A (comprehension (.ListComp elt [⟨tg, iter, ifs, 0⟩] scope pos) scope X.env cp (newList []) false (eval iter X.env) use) QV X.xe s := by
 obtain ⟨cl, hcl, hc1, hc2⟩ := QpP (scope := scope) (env := X.env) λ y hy hf => I.ok.has y.1 (S.free y hy hf)
 refine wpAny_comprehension_free (g := ⟨tg, iter, ifs, 0⟩) (gs := []) rfl hs hcl S.kind S.loc ?_
 refine thn (hi pins s σ H _ I h) λ v s1 h1 => thn h1 λ itv s2 h2 => ?_
 obtain ⟨it, fp, tn, J, H2, e, I2, T, st2, f2, σc, cap, hw⟩ := h2
 subst e
 have hD0 : H2 s2.heap.objs.size = none := I2.hok.fresh (Zj _)
 obtain ⟨W, hW0, turn⟩ := hw _ hD0
 have fpl : ∀ b ∈ fp, b < s2.heap.objs.size := λ b hb => let ⟨o, e, _⟩ := T.obj _ _ st2 b hb; Zk e
 have hlist : ∀ D : Addr, D = s2.heap.objs.size -> ∃ x, x = D := λ D _ => ⟨D, rfl⟩
 refine wpAny_newObj_type ?_
 have I3 : Inv X pins σ (upd H2 s2.heap.objs.size (.lst [])) { s2 with heap := s2.heap.push { cls := .type "list", dict := none, data := .seq ([] : List Value).toArray } } :=
  I2.laid (t' := s2.toks) (λ b o e => Zl _ e) (Zj _) ⟨ZL _, [], 0, .nil, Zy _ rfl⟩
 generalize hs3 : ({ s2 with heap := s2.heap.push { cls := .type "list", dict := none, data := .seq ([] : List Value).toArray } } : Shared) = s3 at I3
 have hs3' : s3.heap = s2.heap.push { cls := .type "list", dict := none, data := .seq ([] : List Value).toArray } := by rw [← hs3]
 have sz3 : s3.heap.objs.size = s2.heap.objs.size + 1 := by rw [hs3', Zak]
 have old3 : ∀ b o, s2.heap.get? b = some o -> s3.heap.get? b = some o := λ b o e => by rw [hs3']; exact Zl _ e
 have f3 : ∀ b ∈ fp, QcM X pins (upd H2 s2.heap.objs.size (.lst [])) b := λ b hb => ⟨by rw [Qr (ZA (fpl b hb))]; exact (f2 b hb).1, (f2 b hb).2⟩
 have fpl3 : ∀ b ∈ fp, b < s3.heap.objs.size := λ b hb => by rw [sz3]; exact Zaq (fpl b hb)
 refine Qkw (λ h4 hns4' keep4 hown4 => ?_)
 have I4 := QmU (tk := s3.toks) S I3 f3 fpl3 hc1 hc2 cap hns4' keep4 hown4
 have hout : ∀ H' s', Inv (cxc X N' scope (cellsFrom (s3.heap.objs.size + 1) scope.names cl) s3.heap.objs.size fp s3 (upd H2 s2.heap.objs.size (.lst []))) [] σc H' s' -> Inv X pins σ H' s' := λ H' s' J' =>
  I3.Qod (ch := fp) J'.os J'.base J'.hok J'.bare λ b hb => ⟨(f3 b hb).2.2.2.1, (f3 b hb).2.1, (f3 b hb).2.2.2.2.1, (f3 b hb).2.2.2.2.2⟩
 obtain ⟨hg, ht, he⟩ := hin (cellsFrom (s3.heap.objs.size + 1) scope.names cl) s3.heap.objs.size fp s3 (upd H2 s2.heap.objs.size (.lst []))
 have fc : ∀ b ∈ fp, QcM (cxc X N' scope (cellsFrom (s3.heap.objs.size + 1) scope.names cl) s3.heap.objs.size fp s3 (upd H2 s2.heap.objs.size (.lst []))) [] (upd H2 s2.heap.objs.size (.lst [])) b := λ b hb =>
  ⟨(f3 b hb).1, ZA (fpl3 b hb), λ hs' => (Zm.mp (I3.Qdl b hs')).elim (f3 b hb).2.1 (f3 b hb).2.2.1, .inl hb, λ x c e => (by
   rcases Qeb scope.names _ cl x c e with e | ⟨e, _⟩
   ·exact (f3 b hb).2.2.2.2.1 x c (hc1 x c e)
   ·intro z
    rw [z] at e
    exact absurd (Zo (fpl3 b hb) (Zv (Zu _) e)) (ZF _)), λ p hp => absurd (show p ∈ ([] : List (Addr × Obj)) from hp) (by simp)⟩
 have hC1 : s3.heap.objs.size ≠ X.env.locals := Ne.symm (ZA I3.lt)
 refine QnN (D := s2.heap.objs.size) (C := s3.heap.objs.size) (s3 := s3) (σc := σc) (H3 := upd H2 s2.heap.objs.size (.lst [])) (W := W) (Q := λ H' => Q (.ref s2.heap.objs.size) H') hcalm T hg ht he I4 (T.keep _ _ _ st2 λ b hb o e => keep4 b o (old3 b o e)) fc hW0 turn λ H' s' J' q => ?_
 have O := hout H' s' J'
 refine fin _ _ H' s' O J'.free hC1 (Zv I3.sz (Zj _)) (λ x c e z => ?_) (λ p hp z => ?_) (let ⟨m, hn, _⟩ := J'.loc; ⟨m, hn⟩) q
 ·obtain ⟨v, o, ho, _⟩ := I3.cell x c e
  exact absurd (Zk ho) (by rw [z]; exact ZF _)
 ·exact absurd (Zk (I3.pin p hp).1) (by rw [z]; exact ZF _)
theorem Inv.Qoa {pins : List (Addr × Obj)} {σ : St} {H : Hp} {s : Shared} {C : Addr} {h' : Heap} (I : Inv X pins σ H s) (hs : Heap.SameBut C s.heap h') (hn : H C = none) (hL : C ≠ X.env.locals) (h1 : X.s₀.heap.objs.size <= C)
  (h2 : ∀ x c, X.env.cells.lookup x = some c -> c ≠ C) (h3 : ∀ p ∈ X.pn ++ pins, p.1 ≠ C) : Inv X pins σ H { s with heap := h' } :=
 I.turned (t' := s.toks) (λ b o hb e => (hs.2 b hb).trans e) hn hL (.inr h1) h2 h3
theorem Qki {wi : TI} {g : TG} {tc : TT} {te : TE} (hcalm : X.calm = true) (S : Qc0 X N' scope) (hi : PI X tg iter wi)
  (hin : ∀ cl C fp s3 H3, PG (cxc X N' scope cl C fp s3 H3) tg g /\ PTs (cxc X N' scope cl C fp s3 H3) ifs tc /\ PE (cxc X N' scope cl C fp s3 H3) elt te)
  (hs : ∀ x, foldedSetIterable iter X.env x = pure x := by intro _; rfl) : PE X (.ListComp elt [⟨tg, iter, ifs, 0⟩] scope pos) (Qin wi (Qgz X N' scope) g tc te) := by
 intro pins s σ H Q I h
 rw [eval_ListComp]
 refine Qjp (use := none) hcalm S hi hin hs I h λ D C H' s' O h1 h2 h3 h4 h5 ⟨m, hm⟩ q => ?_
 exact ⟨m, hm, λ h' hs' => ⟨.ref D, H', O.Qoa hs' h1 h2 h3 h4 h5, rfl, q⟩⟩
theorem Qqd {wi : TI} {g : TG} {tc : TT} {te : TE} {i : Nat} {x : Str} {pos' spos : Pos} (hN : X.N.Nodup) (hx1 : X.N[i]? = some x) (hx : Loc X.env.scope x) (hf : X.fn x = true ∨ X.env.scope.names.lookup x = some .local) (hcalm : X.calm = true) (S : Qc0 X N' scope) (hi : PI X tg iter wi)
  (hin : ∀ cl C fp s3 H3, PG (cxc X N' scope cl C fp s3 H3) tg g /\ PTs (cxc X N' scope cl C fp s3 H3) ifs tc /\ PE (cxc X N' scope cl C fp s3 H3) elt te)
  (hs : ∀ x, foldedSetIterable iter X.env x = pure x := by intro _; rfl) :
  PS X (.Assign [.Name x pos'] (.ListComp elt [⟨tg, iter, ifs, 0⟩] scope pos) spos) (QiE (Qin wi (Qgz X N' scope) g tc te) (Qfw i)) := by
 have hb : ∃ b, swapsWith (.ListComp elt [⟨tg, iter, ifs, 0⟩] scope pos) (some (.Name x pos')) spos.line X.env = pure b := ⟨_, rfl⟩
 obtain ⟨b, hb⟩ := hb
 cases b with
 | false => exact Qe2 hN hx1 hx (Qki hcalm S hi hin hs) hb hf
 | true =>
  intro pins s σ H D I h
  rw [exec_Assign_Name_used _ _ _ _ hb]
  refine wpAny_bind (wpAny_standAt (wpAny_bind ?_))
  show wpAny _ X.A (do let _ ← comprehension (.ListComp elt [⟨tg, iter, ifs, 0⟩] scope pos) scope X.env _ (newList []) false (eval iter X.env) (some (assign (.Name x pos') X.env))) _ _ s
  refine wpAny_bind (thn (Qjp (use := some (assign (.Name x pos') X.env)) (QV := λ _ s' => SP X pins D .next s') hcalm S hi hin hs I h λ Dl C H' s' O h1 h2 h3 h4 h5 ⟨m, hm⟩ q => ?_) λ _ s' hq => wpAny_pure (wpAny_pure hq))
  refine wpAny_assign_Name (QhT O hN hx1 hx (v := .ref Dl) (u := .ref Dl) rfl (λ s2 I2 hsb => ?_) hf)
  obtain ⟨a, sb, ha⟩ := hsb
  have haC : C ≠ a := by
   rcases ha with rfl | ha
   ·exact h2
   ·exact Ne.symm (h4 _ _ ha)
  exact ⟨m, hm.sameBut sb haC, λ h' hs' => ⟨_, H', I2.Qoa hs' h1 h2 h3 h4 h5, q⟩⟩
end
end L2
namespace L2
open PySem PySem.Spec PyProof.Rows
section
variable {X : Cx} {pins : List (Addr × Obj)} {σ : St} {H H' : Hp} {s : Shared} {h' : Heap}
theorem Inv.Qoq {t' : Nat} {ch : List Addr} {T : Addr} {ts : List V} (I : Inv X pins σ H s) (hf : ∀ b ∈ ch, QcM X pins H b) (k : ∀ b o, b ∉ ch -> s.heap.get? b = some o -> h'.get? b = some o) (hp : ∀ b ∈ ch, ∃ o, h'.get? b = some o)
  (hT : s.heap.objs.size <= T) (hnew : ts.length <= sizeLine /\ ∃ its : List Value, Ql ts its /\ IsTup h' T its.toArray) : Inv X pins σ (upd H T (.tup ts)) { s with heap := h', toks := t' } := by
 have hn : H T = none := I.hok.fresh hT
 have neT : ∀ b u, H b = some u -> b ≠ T := λ b u e => Qa0 e hn
 have nch : ∀ b u, H b = some u -> b ∉ ch := λ b u e hb => by rw [(hf b hb).1] at e; cases e
 have ltT : ∀ b o, s.heap.get? b = some o -> b ≠ T := λ b o e => ZA (Zo (Zk e) hT)
 refine I.step (g' := s.gens) (d' := s.drawn) (ch := ch) (λ b hb => ?_) (λ b o _ _ hc e _ => k b o hc e) (λ b o _ _ hc e _ => ⟨o.slots, k b o hc e⟩) (λ b o _ e n => by rw [Qr (ltT b o e)]; exact n)
  (λ b o hc e => ⟨o, k b o hc e⟩) (λ b xs e => by rw [Qr (neT b _ e)]; exact e) (λ b o u e => by rw [Qr (neT b _ e)]; exact e) (λ b ps e => ⟨#[], by rw [Qr (neT b _ e), e]; simp⟩) (λ m hm => ?_) (λ b u e => ?_) I.bare
 ·obtain ⟨f0, f1, f2, f3, f4, f5⟩ := hf b hb
  exact ⟨f3, f1, f4, f5⟩
 ·obtain ⟨o, es, ep, ho, r⟩ := hm
  exact ⟨o, es, ep, k _ o (λ z => (hf _ z).2.1 rfl) ho, r⟩
 ·by_cases hb : b = T
  ·subst hb
   rw [Q4] at e
   cases e
   exact hnew
  ·rw [Qr hb] at e
   refine (I.hok b u e).QdS (λ c v hc q => k c v ?_ q) (λ c q => by rw [Qr (neT c _ q)]; exact q) λ c xs q => by rw [Qr (neT c _ q)]; exact q
   rcases hc with z | z
   ·rw [z]; exact nch b u e
   ·exact nch c _ z
theorem Inv.turns {t' : Nat} {ch : List Addr} (I : Inv X pins σ H s) (hf : ∀ b ∈ ch, QcM X pins H b) (k : ∀ b o, b ∉ ch -> s.heap.get? b = some o -> h'.get? b = some o) : Inv X pins σ H { s with heap := h', toks := t' } := by
 have nch : ∀ b u, H b = some u -> b ∉ ch := λ b u e hb => by rw [(hf b hb).1] at e; cases e
 refine I.step (g' := s.gens) (d' := s.drawn) (ch := ch) (λ b hb => ?_) (λ b o _ _ hc e _ => k b o hc e) (λ b o _ _ hc e _ => ⟨o.slots, k b o hc e⟩) (λ b o _ e n => n)
  (λ b o hc e => ⟨o, k b o hc e⟩) (λ b xs e => e) (λ b o u e => e) (λ b ps e => ⟨#[], by rw [e]; simp⟩) (λ m hm => ?_) (λ b u e => ?_) I.bare
 ·obtain ⟨f0, f1, f2, f3, f4, f5⟩ := hf b hb
  exact ⟨f3, f1, f4, f5⟩
 ·obtain ⟨o, es, ep, ho, r⟩ := hm
  exact ⟨o, es, ep, k _ o (λ z => (hf _ z).2.1 rfl) ho, r⟩
 ·refine (I.hok b u e).QdS (λ c v hc q => k c v ?_ q) (λ c q => q) λ c xs q => q
  rcases hc with z | z
  ·rw [z]; exact nch b u e
  ·exact nch c _ z
end
noncomputable def Ite (K : PySem.W.Frag) (a : Addr) : It :=
 ⟨λ i H => ∃ xs x, SqL K H a xs /\ xs[i]? = some x, λ i H v H' => ∃ p x, v = .ref p /\ H p = none /\ H' = upd H p (.tup [.int i, x]) /\ ∀ xs, SqL K H a xs -> xs[i]? = some x, λ i H => ∃ xs, SqL K H a xs /\ xs.length <= i⟩
theorem Qmn {P : Program} {w : World} {K : PySem.W.Frag} {es : List Expr} {tk : Nat} {tpos : Pos} (a e it : Addr) (hne : e ≠ it) : Turn P w K (.Tuple es tk tpos) (Ite K a) [e, it] e (λ i h => ∃ old, IsEnum h e it (i : Int) old /\ h.IsListIter it a i) where
 mem := by simp
 obj := λ i h st b hb => by
  obtain ⟨old, he, o, ho, hc, hd⟩ := st
  have hb : b = e ∨ b = it := by simpa using hb
  rcases hb with rfl | rfl
  ·exact ⟨_, he, λ v z => by cases z⟩
  ·exact ⟨o, ho, λ v z => by rw [hd] at z; cases z⟩
 keep := λ i h h' st k => by
  obtain ⟨old, he, hi⟩ := st
  exact ⟨old, k e (by simp) _ he, hi.at λ o q => k it (by simp) o q⟩
 item := by
  intro X hP hw hK hc i pins s σ H E I hf st hg
  subst hP hw hK
  obtain ⟨old, he, hi⟩ := st
  obtain ⟨xs, x, hq, hx⟩ := hg
  obtain ⟨its, rv, p, hz⟩ := I.list hq
  obtain ⟨u, hu, ru⟩ := rv.get hx
  refine wpAny_pyNext_enum_item he hi p.isList (x := u) (by simpa using hu) hne λ h1 heo hi1 ht1 hz1 hk1 => ?_
  refine ⟨.ref s.heap.objs.size, rfl, wpAny_letOwnedTupleGo_enum heo λ h2 he2 hs2 => ?_⟩
  replace hs2 : Heap.SameBut e h1 h2 := hs2
  have helt : e < s.heap.objs.size := Zk he
  have hilt : it < s.heap.objs.size := by obtain ⟨o, ho, _⟩ := hi; exact Zk ho
  have ht2 : IsTup h2 s.heap.objs.size [Value.int i s.toks, u].toArray := ⟨_, (hs2.2 _ (Nat.ne_of_gt helt)).trans ht1, rfl, _, rfl⟩
  have hi2 : h2.IsListIter it a (i + 1) := hi1.extBut hs2.extBut (Ne.symm hne)
  have kk : ∀ b o, b ∉ [e, it] -> s.heap.get? b = some o -> h2.get? b = some o := λ b o hb q => by
   have h1 : b ≠ e := λ z => hb (by simp [z])
   have h2 : b ≠ it := λ z => hb (by simp [z])
   exact hs2.extBut b o h1 (hk1 b o h1 h2 q)
  refine ⟨.ref s.heap.objs.size, upd H s.heap.objs.size (.tup [.int i, x]), I.Qoq (t' := s.toks + 1) hf kk (λ b hb => ?_) (Zj _) ⟨by show 2 <= sizeLine; decide, _, .cons ⟨_, rfl⟩ (.cons ru .nil), ht2⟩, rfl,
   ⟨_, x, rfl, I.hok.fresh (Zj _), rfl, λ ys hy => by rw [I.QeF hy hq]; exact hx⟩, ⟨u, ?_, hi2⟩, λ b hb => ?_⟩
  ·have hb : b = e ∨ b = it := by simpa using hb
   rcases hb with rfl | rfl
   ·exact ⟨_, he2⟩
   ·obtain ⟨o, ho, _⟩ := hi2; exact ⟨o, ho⟩
  ·have : ((i + 1 : Nat) : Int) = (i : Int) + 1 := by push_cast; rfl
   rw [this]; exact he2
  ·have hb' : b = e ∨ b = it := by simpa using hb
   have : b ≠ s.heap.objs.size := by
    rcases hb' with rfl | rfl
    ·exact ZA helt
    ·exact ZA hilt
   rw [Qr this]; exact (hf b hb).1
 done := by
  intro X hP hw hK hc i pins s σ H E I hf st hg
  subst hP hw hK
  obtain ⟨old, he, hi⟩ := st
  obtain ⟨xs, hq, hx⟩ := hg
  obtain ⟨its, rv, p, hz⟩ := I.list hq
  have hl := rv.length
  refine wpAny_pyNext_enum_end (I.ok.hd hc) he hi p.isList (by simp; omega) λ h1 eb => ⟨rfl, ?_⟩
  exact I.turns (t' := s.toks) hf λ b o hb q => eb b o (λ z => hb (by simp [z])) q
 self := λ _ _ _ _ _ st h => by
  obtain ⟨old, he, hi⟩ := st
  exact wpAny_pyIter_enum he h
section
variable {X : Cx}
noncomputable def Qsa (K : PySem.W.Frag) (ta : TA) : TI := λ σ H R => ta σ H λ vs H1 => ∃ a, vs = [.ref a] /\ (∃ xs, SqL K H1 a xs) /\ R (Ite K a) H1
theorem QpI {a : Expr} {ta : TA} {p pos : Pos} {es : List Expr} {tk : Nat} {tpos : Pos} (hg : Gl X "enumerate") (hm : X.mg "enumerate" = none) (ha : PA X [a] ta) (hs : starEach [a] X.env = [(false, eval a X.env)]) :
  PI X (.Tuple es tk tpos) (.Call (.Name "enumerate" p) [a] [] pos) (Qsa X.K ta) := by
 intro pins s σ H R I h
 refine Call_ (Qb5 I hg hm PyProof.Rows.boot_enumerate (ZK (thn (ha pos pins s σ H _ I h) λ us s1 ⟨vs, H1, I1, r1, q1⟩ => ?_) hs rfl))
 obtain ⟨l, e, ⟨xs, hq⟩, q⟩ := q1
 subst e
 obtain ⟨u, rfl, ru⟩ := vals1 r1
 cases ru
 obtain ⟨its, rv, pl, hz⟩ := I1.list hq
 refine call_enumerate_list pl.isList λ h2 he2 hi2 hz2 hk2 => ?_
 have I2 : Inv X pins σ H1 { s1 with heap := h2 } := I1.kept (t' := s1.toks) hk2
 refine wpAny_pyIter_enum he2 ⟨_, [s1.heap.objs.size + 1, s1.heap.objs.size], _, _, H1, rfl, I2, Qmn l _ _ (Nat.succ_ne_self _), ⟨_, he2, hi2⟩, λ b hb => ?_, q⟩
 have hb : b = s1.heap.objs.size + 1 ∨ b = s1.heap.objs.size := by simpa using hb
 have hle : s1.heap.objs.size <= b := by rcases hb with rfl | rfl <;> omega
 exact I1.QjC hle (I1.hok.fresh hle)
end
noncomputable def Itz (K : PySem.W.Frag) (a b : Addr) : It :=
 ⟨λ i H => ∃ xs ys x y, SqL K H a xs /\ SqL K H b ys /\ xs[i]? = some x /\ ys[i]? = some y, λ i H v H' => ∃ p x y, v = .ref p /\ H p = none /\ H' = upd H p (.tup [x, y]) /\ (∀ xs, SqL K H a xs -> xs[i]? = some x) /\ ∀ ys, SqL K H b ys -> ys[i]? = some y,
  λ i H => ∃ xs ys, SqL K H a xs /\ SqL K H b ys /\ (xs.length <= i ∨ ys.length <= i)⟩
structure Qo6 (z TI TO i1 i2 : Addr) : Prop where
 a : TI ≠ z
 b : TO ≠ z
 c : i1 ≠ z
 d : i2 ≠ z
 e : TI ≠ TO
 f : TI ≠ i1
 g : TI ≠ i2
 h : TO ≠ i1
 i : TO ≠ i2
 j : i1 ≠ i2
theorem QnM {P : Program} {w : World} {K : PySem.W.Frag} {es : List Expr} {tk : Nat} {tpos : Pos} (l1 l2 z TI TO i1 i2 : Addr) (D : Qo6 z TI TO i1 i2) :
  Turn P w K (.Tuple es tk tpos) (Itz K l1 l2) [z, TI, TO, i1, i2] z (λ i h => IsZip h z TI TO .none /\ IsPair h TI (.ref i1) (.ref i2) /\ (∃ a b, IsPair h TO a b) /\ h.IsListIter i1 l1 i /\ h.IsListIter i2 l2 i) where
 mem := by simp
 obj := λ i h st b hb => by
  obtain ⟨hz, hTI, ⟨p, q, hTO⟩, ⟨o1, ho1, hc1, hd1⟩, ⟨o2, ho2, hc2, hd2⟩⟩ := st
  have hb : b = z ∨ b = TI ∨ b = TO ∨ b = i1 ∨ b = i2 := by simpa using hb
  rcases hb with rfl | rfl | rfl | rfl | rfl
  ·exact ⟨_, hz, λ v z => by cases z⟩
  ·exact ⟨_, hTI, λ v z => by cases z⟩
  ·exact ⟨_, hTO, λ v z => by cases z⟩
  ·exact ⟨o1, ho1, λ v z => by rw [hd1] at z; cases z⟩
  ·exact ⟨o2, ho2, λ v z => by rw [hd2] at z; cases z⟩
 keep := λ i h h' st k => by
  obtain ⟨hz, hTI, ⟨p, q, hTO⟩, h1, h2⟩ := st
  exact ⟨k z (by simp) _ hz, k TI (by simp) _ hTI, ⟨p, q, k TO (by simp) _ hTO⟩, h1.at λ o e => k i1 (by simp) o e, h2.at λ o e => k i2 (by simp) o e⟩
 item := by
  intro X hP hw hK hc i pins s σ H E I hf st hg
  subst hP hw hK
  obtain ⟨hz, hTI, ⟨a0, b0, hTO⟩, h1, h2⟩ := st
  obtain ⟨xs, ys, x, y, hq1, hq2, hx, hy⟩ := hg
  obtain ⟨its, rv, p, hzz⟩ := I.list hq1
  obtain ⟨its2, rv2, p2, hzz2⟩ := I.list hq2
  obtain ⟨u, hu, ru⟩ := rv.get hx
  obtain ⟨u2, hu2, ru2⟩ := rv2.get hy
  have free : ∀ l ys, SqL X.K H l ys -> ∀ b, b ∈ [z, TI, TO, i1, i2] -> l ≠ b := λ l ys hq b hb e => by
   subst e
   rcases hq with (hq | ⟨o, hq⟩) | ⟨o, its, n, hk, hc', _, hd', _⟩
   ·rw [(hf l hb).1] at hq; cases hq
   ·rw [(hf l hb).1] at hq; cases hq
   ·have e1 := I.kIn l o hk
    obtain ⟨o1, ho1, hcc1, hd1⟩ := id h1
    obtain ⟨o2, ho2, hcc2, hd2⟩ := id h2
    have hb : l = z ∨ l = TI ∨ l = TO ∨ l = i1 ∨ l = i2 := by simpa using hb
    rcases hb with rfl | rfl | rfl | rfl | rfl
    ·rw [hz] at e1; cases e1; simp at hc'
    ·rw [hTI] at e1; cases e1; simp at hc'
    ·rw [hTO] at e1; cases e1; simp at hc'
    ·rw [ho1] at e1; cases e1; rw [hc'] at hcc1; simp at hcc1
    ·rw [ho2] at e1; cases e1; rw [hc'] at hcc2; simp at hcc2
  have A1 := free l1 xs hq1
  have A2 := free l2 ys hq2
  have DD : ZipApart z TI TO i1 i2 l1 l2 := ⟨D.a, D.b, D.c, D.d, D.e, D.f, D.g, D.h, D.i, D.j, A1 z (by simp), A1 TO (by simp), A1 i1 (by simp), A1 i2 (by simp), A2 z (by simp), A2 TO (by simp), A2 i1 (by simp), A2 i2 (by simp)⟩
  refine wpAny_pyNext_zip_item DD hz hTI hTO h1 h2 p.isList p2.isList (x := u) (y := u2) (by simpa using hu) (by simpa using hu2) λ h3 z3 TO3 a3 b3 T3 sz3 k3 => ?_
  refine ⟨.ref s.heap.objs.size, rfl, wpAny_letOwnedTupleGo_zip z3 λ h4 z4 hs4 => ?_⟩
  replace hs4 : Heap.SameBut z h3 h4 := hs4
  have lt : ∀ {c o}, s.heap.get? c = some o -> c < s.heap.objs.size := λ e => Zk e
  have hzlt := lt hz
  have all : ∀ b ∈ [z, TI, TO, i1, i2], b < s.heap.objs.size := λ b hb => by
   have hb : b = z ∨ b = TI ∨ b = TO ∨ b = i1 ∨ b = i2 := by simpa using hb
   obtain ⟨o1, ho1, _⟩ := h1
   obtain ⟨o2, ho2, _⟩ := h2
   rcases hb with rfl | rfl | rfl | rfl | rfl
   ·exact lt hz
   ·exact lt hTI
   ·exact lt hTO
   ·exact lt ho1
   ·exact lt ho2
  have kk : ∀ b o, b ∉ [z, TI, TO, i1, i2] -> s.heap.get? b = some o -> h4.get? b = some o := λ b o hb q => by
   have n1 : b ≠ z := λ e => hb (by simp [e])
   exact hs4.extBut b o n1 (k3 b o n1 (λ e => hb (by simp [e])) (λ e => hb (by simp [e])) (λ e => hb (by simp [e])) q)
  have TI4 : IsPair h4 TI (.ref i1) (.ref i2) := hs4.extBut _ _ D.a (k3 _ _ D.a D.e D.f D.g hTI)
  have TO4 : IsPair h4 TO u u2 := hs4.extBut _ _ D.b TO3
  have a4 : h4.IsListIter i1 l1 (i + 1) := a3.extBut hs4.extBut D.c
  have b4 : h4.IsListIter i2 l2 (i + 1) := b3.extBut hs4.extBut D.d
  have T4 : IsTup h4 s.heap.objs.size [u, u2].toArray := ⟨_, (hs4.2 _ (Nat.ne_of_gt hzlt)).trans T3, rfl, _, rfl⟩
  refine ⟨.ref s.heap.objs.size, upd H s.heap.objs.size (.tup [x, y]), I.Qoq (t' := s.toks) hf kk (λ b hb => ?_) (Zj _) ⟨by show 2 <= sizeLine; decide, _, .cons ru (.cons ru2 .nil), T4⟩, rfl,
   ⟨_, x, y, rfl, I.hok.fresh (Zj _), rfl, λ zs hy' => by rw [I.QeF hy' hq1]; exact hx, λ zs hy' => by rw [I.QeF hy' hq2]; exact hy⟩, ⟨z4, TI4, ⟨_, _, TO4⟩, a4, b4⟩, λ b hb => ?_⟩
  ·have hb : b = z ∨ b = TI ∨ b = TO ∨ b = i1 ∨ b = i2 := by simpa using hb
   obtain ⟨o1, ho1, _⟩ := a4
   obtain ⟨o2, ho2, _⟩ := b4
   rcases hb with rfl | rfl | rfl | rfl | rfl
   ·exact ⟨_, z4⟩
   ·exact ⟨_, TI4⟩
   ·exact ⟨_, TO4⟩
   ·exact ⟨_, ho1⟩
   ·exact ⟨_, ho2⟩
  ·rw [Qr (ZA (all b hb))]; exact (hf b hb).1
 done := by
  intro X hP hw hK hc i pins s σ H E I hf st hg
  subst hP hw hK
  obtain ⟨hz, hTI, ⟨a0, b0, hTO⟩, h1, h2⟩ := st
  obtain ⟨xs, ys, hq1, hq2, hx⟩ := hg
  obtain ⟨its, rv, p, hzz⟩ := I.list hq1
  obtain ⟨its2, rv2, p2, hzz2⟩ := I.list hq2
  have free : ∀ l ys, SqL X.K H l ys -> ∀ b, b ∈ [z, TI, TO, i1, i2] -> l ≠ b := λ l ys hq b hb e => by
   subst e
   rcases hq with (hq | ⟨o, hq⟩) | ⟨o, its, n, hk, hc', _, hd', _⟩
   ·rw [(hf l hb).1] at hq; cases hq
   ·rw [(hf l hb).1] at hq; cases hq
   ·have e1 := I.kIn l o hk
    obtain ⟨o1, ho1, hcc1, hd1⟩ := id h1
    obtain ⟨o2, ho2, hcc2, hd2⟩ := id h2
    have hb : l = z ∨ l = TI ∨ l = TO ∨ l = i1 ∨ l = i2 := by simpa using hb
    rcases hb with rfl | rfl | rfl | rfl | rfl
    ·rw [hz] at e1; cases e1; simp at hc'
    ·rw [hTI] at e1; cases e1; simp at hc'
    ·rw [hTO] at e1; cases e1; simp at hc'
    ·rw [ho1] at e1; cases e1; rw [hc'] at hcc1; simp at hcc1
    ·rw [ho2] at e1; cases e1; rw [hc'] at hcc2; simp at hcc2
  have A1 := free l1 xs hq1
  have A2 := free l2 ys hq2
  have DD : ZipApart z TI TO i1 i2 l1 l2 := ⟨D.a, D.b, D.c, D.d, D.e, D.f, D.g, D.h, D.i, D.j, A1 z (by simp), A1 TO (by simp), A1 i1 (by simp), A1 i2 (by simp), A2 z (by simp), A2 TO (by simp), A2 i1 (by simp), A2 i2 (by simp)⟩
  have hl := rv.length
  have hl2 := rv2.length
  refine wpAny_pyNext_zip_end (I.ok.hd hc) DD hz hTI hTO h1 h2 p.isList p2.isList (by rcases hx with hx | hx; (left; simp; omega); (right; simp; omega)) λ h3 k3 => ⟨rfl, ?_⟩
  exact I.turns (t' := s.toks) hf λ b o hb q => k3 b o (λ e => hb (by simp [e])) (λ e => hb (by simp [e])) (λ e => hb (by simp [e])) (λ e => hb (by simp [e])) q
 self := λ _ _ _ _ _ st h => wpAny_pyIter_zip st.1 h
section
variable {X : Cx}
noncomputable def QsI (K : PySem.W.Frag) (ta : TA) : TI := λ σ H R => ta σ H λ vs H1 => ∃ a b, vs = [.ref a, .ref b] /\ (∃ xs, SqL K H1 a xs) /\ (∃ ys, SqL K H1 b ys) /\ R (Itz K a b) H1
theorem QrC {a b : Expr} {ta : TA} {p pos : Pos} {es : List Expr} {tk : Nat} {tpos : Pos} (hg : Gl X "zip") (hm : X.mg "zip" = none) (ha : PA X [a, b] ta) (hs : starEach [a, b] X.env = [(false, eval a X.env), (false, eval b X.env)]) (hs2 : starEach [b] X.env = [(false, eval b X.env)]) :
  PI X (.Tuple es tk tpos) (.Call (.Name "zip" p) [a, b] [] pos) (QsI X.K ta) := by
 intro pins s σ H R I h
 refine Call_ (Qb5 I hg hm PyProof.Rows.boot_zip (ZK (thn (ha pos pins s σ H _ I h) λ us s1 ⟨vs, H1, I1, r1, q1⟩ => ?_) (by rw [hs, hs2]) (by rw [hs2]; rfl)))
 obtain ⟨l, l2, e, ⟨xs, hq⟩, ⟨ys, hq2⟩, q⟩ := q1
 subst e
 obtain ⟨u, u2, rfl, ru, ru2⟩ := vals2 r1
 cases ru
 cases ru2
 obtain ⟨its, rv, pl, hz⟩ := I1.list hq
 obtain ⟨its2, rv2, pl2, hz2⟩ := I1.list hq2
 refine call_zip_2 pl.isList pl2.isList λ h2 hz hTI hTO h1 h2' hsz hk2 => ?_
 have I2 : Inv X pins σ H1 { s1 with heap := h2 } := I1.kept (t' := s1.toks) hk2
 refine wpAny_pyIter_zip hz ⟨_, [s1.heap.objs.size + 4, s1.heap.objs.size + 2, s1.heap.objs.size + 3, s1.heap.objs.size, s1.heap.objs.size + 1], _, _, H1, rfl, I2, QnM l l2 _ _ _ _ _ ⟨?_, ?_, ?_, ?_, ?_, ?_, ?_, ?_, ?_, ?_⟩, ⟨hz, hTI, ⟨_, _, hTO⟩, h1, h2'⟩, λ b hb => ?_, q⟩
 iterate 10 (exact (by intro e; first | (have e' : (s1.heap.objs.size : Nat) + _ = _ := e; omega) | (have e' : (s1.heap.objs.size : Nat) = _ := e; omega)))
 have hle : s1.heap.objs.size <= b := by
  simp only [Zm, List.not_mem_nil, or_false] at hb
  rcases hb with rfl | rfl | rfl | rfl | rfl <;> first | exact Zj _ | exact Nat.le_add_right _ _
 exact I1.QjC hle (I1.hok.fresh hle)
end
end L2
namespace L2
open PySem PySem.Spec
section
variable {prog : Program} {w : World} {A : Around} {E : Value -> Shared -> Prop} {s : Shared}
structure Six (z TI TO i1 i2 i3 : Addr) : Prop where
 TIz : TI ≠ z
 TOz : TO ≠ z
 i1z : i1 ≠ z
 i2z : i2 ≠ z
 i3z : i3 ≠ z
 TITO : TI ≠ TO
 TIi1 : TI ≠ i1
 TIi2 : TI ≠ i2
 TIi3 : TI ≠ i3
 TOi1 : TO ≠ i1
 TOi2 : TO ≠ i2
 TOi3 : TO ≠ i3
 i12 : i1 ≠ i2
 i13 : i1 ≠ i3
 i23 : i2 ≠ i3
end
section
variable {prog : Program} {w : World} {A : Around} {E : Value -> Shared -> Prop} {s : Shared}
end
open PyProof.Rows
section
variable {X : Cx}
end
end L2
namespace HS
open PySem PySem.Spec PyProof.Rows L2
inductive D where
 | non | bl (b : Bool) | int (i : Int) | str (x : Str) | tup (xs : List D) | lst (xs : List D) | exc (x : Str)
mutual
noncomputable def D.flat : D -> Bool
 | .lst _ => false
 | .tup xs => Qo xs
 | .non => true
 | .bl _ => true
 | .int _ => true
 | .str _ => true
 | .exc _ => true
noncomputable def Qo : List D -> Bool
 | [] => true
 | d :: ds => d.flat && Qo ds
end
mutual
noncomputable def D.nl : D -> Nat
 | .lst xs => nls xs + 1
 | .tup xs => nls xs
 | .non => 0
 | .bl _ => 0
 | .int _ => 0
 | .str _ => 0
 | .exc _ => 0
noncomputable def nls : List D -> Nat
 | [] => 0
 | d :: ds => d.nl + nls ds
end
mutual
theorem QcK : ∀ (d : D), d.flat = true -> d.nl = 0
 | .non, _ => rfl
 | .bl _, _ => rfl
 | .int _, _ => rfl
 | .str _, _ => rfl
 | .exc _, _ => rfl
 | .tup xs, h => by simp only [D.nl]; simp only [D.flat] at h; exact QfW xs h
 | .lst xs, h => by simp [D.flat] at h
theorem QfW : ∀ (ds : List D), Qo ds = true -> nls ds = 0
 | [], _ => rfl
 | d :: ds, h => by simp only [Qo, Zf] at h; simp only [nls, QcK d h.1, QfW ds h.2]
end
def Fix (K : PySem.W.Frag) (H : Hp) (a : Addr) (vs : List V) : Prop :=
 (∃ o, H a = some (.frz o (.lst vs))) ∨
  ∃ (its : List Value) (n : Nat), K.lookup a = some { cls := .type "list", data := .seq its.toArray n } /\ vs.length <= sizeLine /\ Ql vs its
def Qcd (a C : Addr) (h : Heap) : Prop := ∃ o vs, h.get? a = some o /\ o.cls = .ref C /\ o.data = .fields vs
def ExcAt (K : PySem.W.Frag) (H : Hp) (a : Addr) (x : Str) : Prop := ∃ C, PySem.W.nsIn K mainGlobals x = some (some (.ref C)) /\ H a = some (.ext (Qcd a C))
theorem Qk8 {K : PySem.W.Frag} {H H' : Hp} {a : Addr} {x : Str} (s : Qq H H') (h : ExcAt K H a x) : ExcAt K H' a x := by
 obtain ⟨C, h1, h2⟩ := h
 exact ⟨C, h1, s _ _ h2⟩
theorem Ql6 {K : PySem.W.Frag} {H : Hp} {a p : Addr} {x : Str} {zs ys : List V} (hp : H p = some (.lst zs)) (h : ExcAt K H a x) : ExcAt K (upd H p (.lst ys)) a x := by
 obtain ⟨C, h1, h2⟩ := h
 exact ⟨C, h1, by rw [Qr (Qim h2 hp (by intro z; cases z))]; exact h2⟩
mutual
noncomputable def Rp (K : PySem.W.Frag) (H : Hp) : D -> V -> List Addr -> Prop
 | .non, v, F => v = .non /\ F = []
 | .bl b, v, F => v = .bl b /\ F = []
 | .int i, v, F => v = .int i /\ F = []
 | .str x, v, F => v = .str x /\ F = []
 | .exc x, v, F => (∃ a, v = .ref a /\ ExcAt K H a x) /\ F = []
 | .tup ds, v, F => ∃ a vs, v = .ref a /\ SqT K H a vs /\ Rps K H ds vs F
 | .lst ds, v, F => ds.length <= sizeLine /\ ∃ a vs, v = .ref a /\ ((∃ G, F = a :: G /\ H a = some (.lst vs) /\ Rps K H ds vs G) ∨ (Fix K H a vs /\ Rps K H ds vs F))
noncomputable def Rps (K : PySem.W.Frag) (H : Hp) : List D -> List V -> List Addr -> Prop
 | [], vs, F => vs = [] /\ F = []
 | d :: ds, vs, F => ∃ v ws F1 F2, vs = v :: ws /\ F = F1 ++ F2 /\ Rp K H d v F1 /\ Rps K H ds ws F2
end
theorem Qjx {K : PySem.W.Frag} {H H' : Hp} {a : Addr} {vs : List V} (s : Qq H H') (h : SqT K H a vs) : SqT K H' a vs := by
 rcases h with (h | ⟨o, h⟩) | h
 ·exact .inl (.inl (s _ _ h))
 ·exact .inl (.inr ⟨o, s _ _ h⟩)
 ·exact .inr h
theorem Qjo {K : PySem.W.Frag} {H H' : Hp} {a : Addr} {vs : List V} (s : Qq H H') (h : Fix K H a vs) : Fix K H' a vs := by
 rcases h with ⟨o, h⟩ | h
 ·exact .inl ⟨o, s _ _ h⟩
 ·exact .inr h
theorem Qkj {K : PySem.W.Frag} {H : Hp} {a p : Addr} {vs zs ys : List V} (hp : H p = some (.lst zs)) (h : SqT K H a vs) : SqT K (upd H p (.lst ys)) a vs := by
 rcases h with (h | ⟨o, h⟩) | h
 ·exact .inl (.inl (by rw [Qr (Qim h hp (by intro z; cases z))]; exact h))
 ·exact .inl (.inr ⟨o, by rw [Qr (Qim h hp (by intro z; cases z))]; exact h⟩)
 ·exact .inr h
theorem QoV {K : PySem.W.Frag} {H : Hp} {a p : Addr} {vs zs ys : List V} (hp : H p = some (.lst zs)) (h : Fix K H a vs) : Fix K (upd H p (.lst ys)) a vs := by
 rcases h with ⟨o, h⟩ | h
 ·exact .inl ⟨o, by rw [Qr (Qim h hp (by intro z; cases z))]; exact h⟩
 ·exact .inr h
section
variable {K : PySem.W.Frag} {H H' : Hp}
mutual
theorem Rp.same (s : Qq H H') : ∀ {d : D} {v : V} {F : List Addr}, Rp K H d v F -> Rp K H' d v F
 | .exc _, _, _, h => by
  simp only [Rp] at h ⊢
  obtain ⟨⟨a, e, q⟩, z⟩ := h
  exact ⟨⟨a, e, Qk8 s q⟩, z⟩
 | .non, _, _, h => h
 | .bl _, _, _, h => h
 | .int _, _, _, h => h
 | .str _, _, _, h => h
 | .tup ds, _, _, h => by
  simp only [Rp] at h ⊢
  obtain ⟨a, vs, e, q, r⟩ := h
  exact ⟨a, vs, e, Qjx s q, Rps.same s r⟩
 | .lst ds, _, _, h => by
  simp only [Rp] at h ⊢
  obtain ⟨hz, a, vs, e, ⟨G, eF, q, r⟩ | ⟨q, r⟩⟩ := h
  ·exact ⟨hz, a, vs, e, .inl ⟨G, eF, s _ _ q, Rps.same s r⟩⟩
  ·exact ⟨hz, a, vs, e, .inr ⟨Qjo s q, Rps.same s r⟩⟩
theorem Rps.same (s : Qq H H') : ∀ {ds : List D} {vs : List V} {F : List Addr}, Rps K H ds vs F -> Rps K H' ds vs F
 | [], _, _, h => h
 | d :: ds, _, _, h => by
  simp only [Rps] at h ⊢
  obtain ⟨v, ws, F1, F2, e, eF, r, q⟩ := h
  exact ⟨v, ws, F1, F2, e, eF, Rp.same s r, Rps.same s q⟩
end
mutual
theorem Rp.upd {p : Addr} {zs ys : List V} (hp : H p = some (.lst zs)) : ∀ {d : D} {v : V} {F : List Addr}, Rp K H d v F -> p ∉ F -> Rp K (upd H p (.lst ys)) d v F
 | .exc _, _, _, h, _ => by
  simp only [Rp] at h ⊢
  obtain ⟨⟨a, e, q⟩, z⟩ := h
  exact ⟨⟨a, e, Ql6 hp q⟩, z⟩
 | .non, _, _, h, _ => h
 | .bl _, _, _, h, _ => h
 | .int _, _, _, h, _ => h
 | .str _, _, _, h, _ => h
 | .tup ds, _, _, h, hn => by
  simp only [Rp] at h ⊢
  obtain ⟨a, vs, e, q, r⟩ := h
  exact ⟨a, vs, e, Qkj hp q, Rps.upd hp r hn⟩
 | .lst ds, _, _, h, hn => by
  simp only [Rp] at h ⊢
  obtain ⟨hz, a, vs, e, ⟨G, eF, q, r⟩ | ⟨q, r⟩⟩ := h
  ·subst eF
   have h1 : a ≠ p := λ z => hn (by rw [z]; exact Zh)
   exact ⟨hz, a, vs, e, .inl ⟨G, rfl, by rw [Qr h1]; exact q, Rps.upd hp r λ z => hn (Zc _ z)⟩⟩
  ·exact ⟨hz, a, vs, e, .inr ⟨QoV hp q, Rps.upd hp r hn⟩⟩
theorem Rps.upd {p : Addr} {zs ys : List V} (hp : H p = some (.lst zs)) : ∀ {ds : List D} {vs : List V} {F : List Addr}, Rps K H ds vs F -> p ∉ F -> Rps K (upd H p (.lst ys)) ds vs F
 | [], _, _, h, _ => h
 | d :: ds, _, _, h, hn => by
  simp only [Rps] at h ⊢
  obtain ⟨v, ws, F1, F2, e, eF, r, q⟩ := h
  subst eF
  exact ⟨v, ws, F1, F2, e, rfl, Rp.upd hp r λ z => hn (Zd _ z), Rps.upd hp q λ z => hn (Ze _ z)⟩
end
mutual
theorem Rp.mem : ∀ {d : D} {v : V} {F : List Addr}, Rp K H d v F -> ∀ a ∈ F, ∃ vs, H a = some (.lst vs)
 | .non, _, _, h, a, ha => by simp only [Rp] at h; rw [h.2] at ha; simp at ha
 | .bl _, _, _, h, a, ha => by simp only [Rp] at h; rw [h.2] at ha; simp at ha
 | .int _, _, _, h, a, ha => by simp only [Rp] at h; rw [h.2] at ha; simp at ha
 | .str _, _, _, h, a, ha => by simp only [Rp] at h; rw [h.2] at ha; simp at ha
 | .exc _, _, _, h, a, ha => by simp only [Rp] at h; rw [h.2] at ha; simp at ha
 | .tup ds, _, _, h, a, ha => by
  simp only [Rp] at h
  obtain ⟨_, vs, e, q, r⟩ := h
  exact Rps.mem r a ha
 | .lst ds, _, _, h, a, ha => by
  simp only [Rp] at h
  obtain ⟨_, b, vs, e, ⟨G, eF, q, r⟩ | ⟨q, r⟩⟩ := h
  ·subst eF
   rcases Zm.mp ha with z | z
   ·exact ⟨vs, by rw [z]; exact q⟩
   ·exact Rps.mem r a z
  ·exact Rps.mem r a ha
theorem Rps.mem : ∀ {ds : List D} {vs : List V} {F : List Addr}, Rps K H ds vs F -> ∀ a ∈ F, ∃ vs, H a = some (.lst vs)
 | [], _, _, h, a, ha => by simp only [Rps] at h; rw [h.2] at ha; simp at ha
 | d :: ds, _, _, h, a, ha => by
  simp only [Rps] at h
  obtain ⟨v, ws, F1, F2, e, eF, r, q⟩ := h
  subst eF
  rcases ZD.mp ha with z | z
  ·exact Rp.mem r a z
  ·exact Rps.mem q a z
end
mutual
theorem Rp.QbC : ∀ {d : D} {v : V} {F : List Addr}, Rp K H d v F -> d.flat = true -> F = []
 | .non, _, _, h, _ => by simp only [Rp] at h; exact h.2
 | .bl _, _, _, h, _ => by simp only [Rp] at h; exact h.2
 | .int _, _, _, h, _ => by simp only [Rp] at h; exact h.2
 | .str _, _, _, h, _ => by simp only [Rp] at h; exact h.2
 | .exc _, _, _, h, _ => by simp only [Rp] at h; exact h.2
 | .tup ds, _, _, h, hf => by
  simp only [Rp] at h
  simp only [D.flat] at hf
  obtain ⟨_, vs, e, q, r⟩ := h
  exact Rps.QbC r hf
 | .lst ds, _, _, h, hf => by simp [D.flat] at hf
theorem Rps.QbC : ∀ {ds : List D} {vs : List V} {F : List Addr}, Rps K H ds vs F -> Qo ds = true -> F = []
 | [], _, _, h, _ => by simp only [Rps] at h; exact h.2
 | d :: ds, _, _, h, hf => by
  simp only [Rps] at h
  simp only [Qo, Zf] at hf
  obtain ⟨v, ws, F1, F2, e, eF, r, q⟩ := h
  rw [eF, Rp.QbC r hf.1, Rps.QbC q hf.2]; rfl
end
mutual
theorem Rp.Qai : ∀ {d : D} {v : V} {F : List Addr}, Rp K H d v F -> F.length <= d.nl
 | .non, _, _, h => by simp only [Rp] at h; rw [h.2]; exact ZL _
 | .bl _, _, _, h => by simp only [Rp] at h; rw [h.2]; exact ZL _
 | .int _, _, _, h => by simp only [Rp] at h; rw [h.2]; exact ZL _
 | .str _, _, _, h => by simp only [Rp] at h; rw [h.2]; exact ZL _
 | .exc _, _, _, h => by simp only [Rp] at h; rw [h.2]; exact ZL _
 | .tup ds, _, _, h => by
  simp only [Rp] at h
  obtain ⟨_, vs, e, q, r⟩ := h
  simp only [D.nl]
  exact Rps.Qai r
 | .lst ds, _, _, h => by
  simp only [Rp] at h
  simp only [D.nl]
  obtain ⟨_, b, vs, e, ⟨G, eF, q, r⟩ | ⟨q, r⟩⟩ := h
  ·rw [eF, ZJ]; have := Rps.Qai r; omega
  ·have := Rps.Qai r; omega
theorem Rps.Qai : ∀ {ds : List D} {vs : List V} {F : List Addr}, Rps K H ds vs F -> F.length <= nls ds
 | [], _, _, h => by simp only [Rps] at h; rw [h.2]; exact ZL _
 | d :: ds, _, _, h => by
  simp only [Rps] at h
  obtain ⟨v, ws, F1, F2, e, eF, r, q⟩ := h
  simp only [nls]
  rw [eF, Zp]
  have := Rp.Qai r
  have := Rps.Qai q
  omega
end
theorem Rps.length : ∀ {ds : List D} {vs : List V} {F : List Addr}, Rps K H ds vs F -> ds.length = vs.length
 | [], _, _, h => by simp only [Rps] at h; rw [h.1]; rfl
 | d :: ds, _, _, h => by
  simp only [Rps] at h
  obtain ⟨v, ws, F1, F2, e, eF, r, q⟩ := h
  rw [e, ZJ, ZJ, Rps.length q]
theorem Rps.append : ∀ {ds es : List D} {vs ws : List V} {F G : List Addr}, Rps K H ds vs F -> Rps K H es ws G -> Rps K H (ds ++ es) (vs ++ ws) (F ++ G)
 | [], _, _, _, _, _, h, g => by simp only [Rps] at h; rw [h.1, h.2]; exact g
 | d :: ds, _, _, _, _, _, h, g => by
  simp only [Rps, ZaJ] at h ⊢
  obtain ⟨v, ws, F1, F2, e, eF, r, q⟩ := h
  subst e eF
  exact ⟨v, _, F1, _, rfl, by rw [Zax], r, Rps.append q g⟩
theorem Rps.get : ∀ {ds : List D} {vs : List V} {F : List Addr} {i : Nat} {d : D}, Rps K H ds vs F -> ds[i]? = some d -> ∃ v F1 G F2, vs[i]? = some v /\ F = F1 ++ (G ++ F2) /\ Rp K H d v G /\ (F.length = nls ds -> G.length = d.nl)
 | [], _, _, _, _, _, e => by simp at e
 | d :: ds, _, _, 0, _, h, e => by
  simp only [Rps] at h
  obtain ⟨v, ws, F1, F2, e1, eF, r, q⟩ := h
  simp at e; subst e e1 eF
  refine ⟨v, [], F1, F2, by simp, rfl, r, λ hl => ?_⟩
  simp only [nls, Zp] at hl
  have := Rp.Qai r
  have := Rps.Qai q
  omega
 | d :: ds, _, _, i + 1, _, h, e => by
  simp only [Rps] at h
  obtain ⟨v, ws, F1, F2, e1, eF, r, q⟩ := h
  obtain ⟨v', G1, G, G2, h1, h2, h3, h4⟩ := Rps.get q (i := i) (by simpa using e)
  have l1 := Rp.Qai r
  have l2 := Rps.Qai q
  subst e1 eF
  refine ⟨v', F1 ++ G1, G, G2, by simpa using h1, by rw [h2, Zax], h3, λ hl => h4 ?_⟩
  simp only [nls, Zp] at hl
  omega
theorem Fix.sq {K : PySem.W.Frag} {H : Hp} {a : Addr} {vs : List V} (h : Fix K H a vs) : SqL K H a vs := by
 rcases h with ⟨o, h⟩ | ⟨its, n, h, hz, r⟩
 ·exact .inl (.inr ⟨o, h⟩)
 ·exact .inr ⟨_, its.toArray, n, h, rfl, rfl, rfl, by rw [Zn, ← r.length]; exact hz, by simpa using r⟩
theorem _root_.L2.Inv.QiX {X : Cx} {pins : List (Addr × Obj)} {σ : L2.St} {H : Hp} {s : Shared} {a : Addr} {vs : List V} (I : Inv X pins σ H s) (h : H a = some (.lst vs) ∨ Fix X.K H a vs) :
  vs.length <= sizeLine /\ ∃ (its : List Value) (n : Nat), Ql vs its /\ vs.length = its.length /\ s.heap.get? a = some { cls := .type "list", data := .seq its.toArray n } := by
 rcases h with h | ⟨o, h⟩ | ⟨its, n, h, hz, r⟩
 ·exact I.Qna h
 ·obtain ⟨e, hz, its, n, r, e2⟩ := I.hok a _ h
  exact ⟨hz, its, n, r, r.length, e2⟩
 ·exact ⟨hz, its, n, r, r.length, I.kIn _ _ h⟩
theorem Rp.lst_inv {K : PySem.W.Frag} {H : Hp} {ds : List D} {v : V} {F : List Addr} (h : Rp K H (.lst ds) v F) :
  ∃ a vs G, v = .ref a /\ (H a = some (.lst vs) ∨ Fix K H a vs) /\ Rps K H ds vs G /\ ds.length <= sizeLine /\ (F = a :: G ∨ F = G) := by
 simp only [Rp] at h
 obtain ⟨hz, a, vs, e, ⟨G, eF, q, r⟩ | ⟨q, r⟩⟩ := h
 ·exact ⟨a, vs, G, e, .inl q, r, hz, .inl eF⟩
 ·exact ⟨a, vs, F, e, .inr q, r, hz, .inr rfl⟩
theorem QI {K : PySem.W.Frag} {H : Hp} {a : Addr} {vs : List V} (h : H a = some (.lst vs) ∨ Fix K H a vs) : SqL K H a vs := h.elim (λ h => SqL.of h) Fix.sq
theorem Rp.Qap {K : PySem.W.Frag} {H : Hp} {ds : List D} {v : V} {F : List Addr} (h : Rp K H (.tup ds) v F) : ∃ a vs, v = .ref a /\ SqT K H a vs /\ Rps K H ds vs F := by
 simp only [Rp] at h
 exact h
theorem Rp.Qd5 {K : PySem.W.Frag} {H : Hp} {ds : List D} {a : Addr} {vs : List V} {G : List Addr} (h : H a = some (.lst vs)) (r : Rps K H ds vs G) (hz : ds.length <= sizeLine) : Rp K H (.lst ds) (.ref a) (a :: G) := by
 simp only [Rp]
 exact ⟨hz, a, vs, rfl, .inl ⟨G, rfl, h, r⟩⟩
theorem Rp.Qjy {K : PySem.W.Frag} {H : Hp} {ds : List D} {a : Addr} {vs : List V} {G : List Addr} (h : H a = some (.tup vs)) (r : Rps K H ds vs G) : Rp K H (.tup ds) (.ref a) G := by
 simp only [Rp]
 exact ⟨a, vs, rfl, SqT.of h, r⟩
theorem Rp.int_inv {K : PySem.W.Frag} {H : Hp} {i : Int} {v : V} {F : List Addr} (h : Rp K H (.int i) v F) : v = .int i := by simp only [Rp] at h; exact h.1
theorem Rp.Qe0 {K : PySem.W.Frag} {H : Hp} {i : Bool} {v : V} {F : List Addr} (h : Rp K H (.bl i) v F) : v = .bl i := by simp only [Rp] at h; exact h.1
theorem Rp.Qhf {K : PySem.W.Frag} {H : Hp} {v : V} {F : List Addr} (h : Rp K H .non v F) : v = .non := by simp only [Rp] at h; exact h.1
theorem Rp.str_inv {K : PySem.W.Frag} {H : Hp} {i : Str} {v : V} {F : List Addr} (h : Rp K H (.str i) v F) : v = .str i := by simp only [Rp] at h; exact h.1
theorem Rp.int_mk {K : PySem.W.Frag} {H : Hp} {i : Int} : Rp K H (.int i) (.int i) [] := by simp [Rp]
theorem Rp.Qbg {K : PySem.W.Frag} {H : Hp} {i : Bool} : Rp K H (.bl i) (.bl i) [] := by simp [Rp]
theorem Rp.Qea {K : PySem.W.Frag} {H : Hp} : Rp K H .non .non [] := by simp [Rp]
theorem Rp.str_mk {K : PySem.W.Frag} {H : Hp} {i : Str} : Rp K H (.str i) (.str i) [] := by simp [Rp]
theorem QbM {H : Hp} {p : Addr} {o : HO} (h : H p = none) : Qq H (L2.upd H p o) := λ b u e => by rw [Qr (Qa0 e h)]; exact e
end
end HS
namespace HS
open PySem PySem.Spec L2
noncomputable abbrev En := List (Option (D × Bool))
structure R where
 d : D
 fr : Bool
 M : List Nat
structure RA where
 ds : List D
 fr : Bool
 M : List Nat
noncomputable abbrev DE := En -> Option R
noncomputable abbrev DA := En -> Option RA
noncomputable abbrev DT := En -> Option Bool
structure Rel (K : PySem.W.Frag) (H0 : Hp) (A0 : List Addr) (hs : List (V × D × List Addr)) (ρ : En) (F : Nat -> List Addr) (σ : St) (H : Hp) : Prop where
 len : ρ.length = σ.length
 val : ∀ (i : Nat) d b, ρ[i]? = some (some (d, b)) -> ∃ v, σ[i]? = some (some v) /\ Rp K H d v (F i)
 own : ∀ (i : Nat) d, ρ[i]? = some (some (d, true)) -> (F i).length = d.nl /\ (F i).Nodup /\ (∀ a ∈ F i, H0 a = none) /\ (∀ (j : Nat) d' b', j ≠ i -> ρ[j]? = some (some (d', b')) -> ∀ a ∈ F i, a ∉ F j) /\ ∀ t ∈ hs, ∀ a ∈ F i, a ∉ t.2.2
 src : ∀ (i : Nat) d b, ρ[i]? = some (some (d, b)) -> ∀ a ∈ F i, H0 a = none ∨ a ∈ A0
 held : ∀ t ∈ hs, Rp K H t.2.1 t.1 t.2.2 /\ ∀ a ∈ t.2.2, H0 a = none ∨ a ∈ A0
 same : Qq H0 H
def Src (ρ : En) (F : Nat -> List Addr) (H : Hp) (M : List Nat) (G : List Addr) : Prop :=
 ∀ a ∈ G, H a = none ∨ ∃ (i : Nat) (d : D) (b : Bool), ρ[i]? = some (some (d, b)) /\ a ∈ F i /\ (b = true -> i ∈ M)
noncomputable def nw (H : Hp) (a : Addr) : Nat := match H a with | none => 1 | some _ => 0
def Cnt (F : Nat -> List Addr) (H : Hp) (M : List Nat) (G : List Addr) : Prop :=
 ∀ a, G.count a <= nw H a + ((M.map F).flatten).count a
def QaN (ρ : En) (M : List Nat) : Prop := ∀ i ∈ M, ∃ d, ρ[i]? = some (some (d, true))
structure QH (K : PySem.W.Frag) (ρ : En) (F : Nat -> List Addr) (H H' : Hp) (r : R) (v : V) (G : List Addr) : Prop where
 same : Qq H H'
 rp : Rp K H' r.d v G
 src : Src ρ F H r.M G
 cnt : r.fr = true -> Cnt F H r.M G /\ G.length = r.d.nl
 own : QaN ρ r.M
structure QkC (K : PySem.W.Frag) (ρ : En) (F : Nat -> List Addr) (H H' : Hp) (r : RA) (vs : List V) (G : List Addr) : Prop where
 same : Qq H H'
 rp : Rps K H' r.ds vs G
 src : Src ρ F H r.M G
 cnt : r.fr = true -> Cnt F H r.M G /\ G.length = nls r.ds
 own : QaN ρ r.M
noncomputable def tV (K : PySem.W.Frag) (H0 : Hp) (A0 : List Addr) (f : DE) : TE := λ σ H Q => ∃ ρ hs F r, Rel K H0 A0 hs ρ F σ H /\ f ρ = some r /\ ∀ v H' G, QH K ρ F H H' r v G -> Q v H'
noncomputable def tVA (K : PySem.W.Frag) (H0 : Hp) (A0 : List Addr) (f : DA) : TA := λ σ H Q => ∃ ρ hs F r, Rel K H0 A0 hs ρ F σ H /\ f ρ = some r /\ ∀ v H' G, QkC K ρ F H H' r v G -> Q v H'
noncomputable def tVT (K : PySem.W.Frag) (H0 : Hp) (A0 : List Addr) (f : DT) : TT := λ σ H Q => ∃ ρ hs F b, Rel K H0 A0 hs ρ F σ H /\ f ρ = some b /\ ∀ H', Qq H H' -> Q b H'
def SE (X : Cx) (e : Expr) (f : DE) : Prop := ∀ H0 A0, PE X e (tV X.K H0 A0 f)
def SA (X : Cx) (es : List Expr) (f : DA) : Prop := ∀ H0 A0, PA X es (tVA X.K H0 A0 f)
def ST (X : Cx) (e : Expr) (f : DT) : Prop := ∀ H0 A0, PT X e (tVT X.K H0 A0 f)
theorem _root_.L2.PE.mono {X : Cx} {e : Expr} {t t' : TE} (h : PE X e t) (m : ∀ σ H Q, t' σ H Q -> t σ H Q) : PE X e t' := λ pins s σ H Q I q => h pins s σ H Q I (m σ H Q q)
theorem _root_.L2.PT.mono {X : Cx} {e : Expr} {t t' : TT} (h : PT X e t) (m : ∀ σ H Q, t' σ H Q -> t σ H Q) : PT X e t' := λ pins s σ H Q I q => h pins s σ H Q I (m σ H Q q)
theorem _root_.L2.PA.mono {X : Cx} {e : List Expr} {t t' : TA} (h : PA X e t) (m : ∀ σ H Q, t' σ H Q -> t σ H Q) : PA X e t' := λ pos pins s σ H Q I q => h pos pins s σ H Q I (m σ H Q q)
section
variable {K : PySem.W.Frag} {H0 H H' : Hp} {A0 : List Addr} {hs : List (V × D × List Addr)} {ρ : En} {F : Nat -> List Addr} {σ : St}
theorem Rel.ext (r : Rel K H0 A0 hs ρ F σ H) (s : Qq H H') : Rel K H0 A0 hs ρ F σ H' where
 len := r.len
 val := λ i d b e => let ⟨v, h1, h2⟩ := r.val i d b e; ⟨v, h1, h2.same s⟩
 own := r.own
 src := r.src
 held := λ t ht => ⟨(r.held t ht).1.same s, (r.held t ht).2⟩
 same := r.same.trans s
theorem Rel.mem (r : Rel K H0 A0 hs ρ F σ H) {i : Nat} {d : D} {b : Bool} (e : ρ[i]? = some (some (d, b))) {a : Addr} (h : a ∈ F i) : ∃ vs, H a = some (.lst vs) :=
 let ⟨_, _, h2⟩ := r.val i d b e; h2.mem a h
theorem Qcx {a : Addr} {o : HO} (h : H a = some o) : nw H a = 0 := by simp [nw, h]
theorem QaF {a : Addr} (h : H a = none) : nw H a = 1 := by simp [nw, h]
theorem Rel.fl0 (r : Rel K H0 A0 hs ρ F σ H) {M : List Nat} (ow : QaN ρ M) {a : Addr} (h : H a = none) : ((M.map F).flatten).count a = 0 := by
 rw [ZG]
 intro hm
 obtain ⟨l, hl, ha⟩ := ZaK.mp hm
 obtain ⟨i, hi, rfl⟩ := ZH.mp hl
 obtain ⟨d, e⟩ := ow i hi
 obtain ⟨vs, q⟩ := r.mem e ha
 rw [h] at q; cases q
theorem Cnt.append (r : Rel K H0 A0 hs ρ F σ H) {H1 : Hp} {M1 M2 : List Nat} {G1 G2 : List Addr} (c1 : Cnt F H M1 G1) (c2 : Cnt F H1 M2 G2) (s : Qq H H1) (m1 : ∀ a ∈ G1, ∃ vs, H1 a = some (.lst vs)) : Cnt F H (M1 ++ M2) (G1 ++ G2) := λ a => by
 rw [ZT, Zaa, List.flatten_append, ZT]
 have h1 := c1 a
 have h2 := c2 a
 cases q : H1 a with
 | some o => rw [Qcx q] at h2; omega
 | none =>
  rw [QaF q] at h2
  have h3 : H a = none := s.free q
  rw [QaF h3] at h1 ⊢
  have h4 : G1.count a = 0 := ZG.mpr λ hm => by obtain ⟨vs, z⟩ := m1 a hm; rw [q] at z; cases z
  omega
theorem Src.append {H1 : Hp} {M1 M2 : List Nat} {G1 G2 : List Addr} (c1 : Src ρ F H M1 G1) (c2 : Src ρ F H1 M2 G2) (s : Qq H H1) : Src ρ F H (M1 ++ M2) (G1 ++ G2) := λ a ha => by
 rcases ZD.mp ha with h | h
 ·rcases c1 a h with z | ⟨i, d, b, e, m, w⟩
  ·exact .inl z
  ·exact .inr ⟨i, d, b, e, m, λ hb => Zd _ (w hb)⟩
 ·rcases c2 a h with z | ⟨i, d, b, e, m, w⟩
  ·exact .inl (s.free z)
  ·exact .inr ⟨i, d, b, e, m, λ hb => Ze _ (w hb)⟩
theorem QaN.append {M1 M2 : List Nat} (h1 : QaN ρ M1) (h2 : QaN ρ M2) : QaN ρ (M1 ++ M2) := λ i hi => (ZD.mp hi).elim (h1 i) (h2 i)
theorem QaN.nil : QaN ρ [] := λ i hi => by simp at hi
theorem Src.nil {M : List Nat} : Src ρ F H M [] := λ a ha => by simp at ha
theorem Cnt.nil {M : List Nat} : Cnt F H M [] := λ a => by simp
theorem QH.flat {d : D} {v : V} (s : Qq H H') (r : Rp K H' d v []) (hf : d.flat = true := by rfl) : QH K ρ F H H' ⟨d, true, []⟩ v [] := ⟨s, r, Src.nil, λ _ => ⟨Cnt.nil, (QcK d hf).symm⟩, QaN.nil⟩
theorem QH.sub {r : R} {v u : V} {d : D} {G G' : List Addr} {H1 : Hp} (p : QH K ρ F H H1 r v G) (rp : Rp K H1 d u G') (hs : ∀ a, G'.count a <= G.count a) (hn : G.length = r.d.nl -> G'.length = d.nl) : QH K ρ F H H1 ⟨d, r.fr, r.M⟩ u G' where
 same := p.same
 rp := rp
 src := λ a ha => p.src a (by
  have := hs a
  have h1 : 0 < G'.count a := Zac.mpr ha
  exact Zac.mp (by omega))
 cnt := λ h => ⟨λ a => Zv (hs a) ((p.cnt h).1 a), hn (p.cnt h).2⟩
 own := p.own
noncomputable def R.norm (r : R) : R := if r.d.flat then ⟨r.d, true, []⟩ else r
theorem R.Qcv (r : R) : r.norm.d = r.d := by unfold R.norm; split <;> rfl
theorem QH.norm {r : R} {v : V} {G : List Addr} (p : QH K ρ F H H' r v G) : QH K ρ F H H' r.norm v G := by
 unfold R.norm
 split
 ·rename_i h
  have := p.rp.QbC h
  subst this
  exact .flat p.same p.rp h
 ·exact p
end
noncomputable def Qa (i : Nat) : DE := λ ρ => match ρ[i]? with
 | some (some (d, b)) => if d.flat then some ⟨d, true, []⟩ else if b then some ⟨d, true, [i]⟩ else some ⟨d, false, []⟩
 | _ => none
noncomputable def dC (d : D) : DE := λ _ => some ⟨d, true, []⟩
section
variable {X : Cx}
theorem Qma {i : Nat} {x : Str} {pos : Pos} (h : PE X (.Name x pos) (QkV i)) : SE X (.Name x pos) (Qa i) := λ H0 A0 => h.mono λ σ H Q ⟨ρ, hs, F, r, rel, e, q⟩ => by
 unfold Qa at e
 split at e
 ·rename_i d b q1
  obtain ⟨v, h1, h2⟩ := rel.val i d b q1
  refine ⟨v, h1, q v H (F i) ?_⟩
  split at e
  ·rename_i hf
   cases e
   have := h2.QbC hf
   rw [this] at h2 ⊢
   exact .flat (Qq.refl _) h2 hf
  ·split at e
   ·rename_i hb
    cases e
    subst hb
    exact ⟨Qq.refl _, h2, λ a ha => .inr ⟨i, d, true, q1, ha, λ _ => by simp⟩, λ _ => ⟨λ a => (by simp), (rel.own i d q1).1⟩, λ j hj => by simp at hj; subst hj; exact ⟨d, q1⟩⟩
   ·rename_i hb
    cases e
    simp at hb
    subst hb
    exact ⟨Qq.refl _, h2, λ a ha => .inr ⟨i, d, false, q1, ha, λ z => by cases z⟩, λ z => (by cases z), QaN.nil⟩
 ·cases e
theorem Qf2 {e : Expr} {d : D} {v : V} (h : PE X e (tC v)) (r : ∀ K H, Rp K H d v []) (hf : d.flat = true) : SE X e (dC d) := λ H0 A0 => h.mono λ σ H Q ⟨ρ, hs, F, r', rel, e, q⟩ => by
 cases e
 exact q v H [] (.flat (Qq.refl _) (r _ _) hf)
theorem two {K : PySem.W.Frag} {H0 : Hp} {A0 : List Addr} {fa fb : DE} {σ : St} {H : Hp} {hs : List (V × D × List Addr)} {ρ : En} {F : Nat -> List Addr} {ra rb : R} {Rr : V -> V -> Hp -> Prop} (rel : Rel K H0 A0 hs ρ F σ H) (ea : fa ρ = some ra) (eb : fb ρ = some rb)
  (k : ∀ x y H1 H2 G1 G2, QH K ρ F H H1 ra x G1 -> QH K ρ F H1 H2 rb y G2 -> Rr x y H2) : tV K H0 A0 fa σ H λ x H1 => tV K H0 A0 fb σ H1 λ y H2 => Rr x y H2 :=
 ⟨ρ, hs, F, ra, rel, ea, λ x H1 G1 p1 => ⟨ρ, hs, F, rb, rel.ext p1.same, eb, λ y H2 G2 p2 => k x y H1 H2 G1 G2 p1 p2⟩⟩
noncomputable def dOp (g : D -> D -> Option D) (fa fb : DE) : DE := λ ρ => (fa ρ).bind λ ra => (fb ρ).bind λ rb => (g ra.d rb.d).map λ d => ⟨d, true, []⟩
theorem Qg7 {g : D -> D -> Option D} {fa fb : DE} {ρ : En} {r : R} (e : dOp g fa fb ρ = some r) : ∃ ra rb d, fa ρ = some ra /\ fb ρ = some rb /\ g ra.d rb.d = some d /\ r = ⟨d, true, []⟩ := by
 unfold dOp at e
 cases h1 : fa ρ with
 | none => rw [h1] at e; cases e
 | some ra =>
  cases h2 : fb ρ with
  | none => rw [h1, h2] at e; cases e
  | some rb =>
   rw [h1, h2] at e
   cases h3 : g ra.d rb.d with
   | none => simp [h3] at e
   | some d => simp [h3] at e; exact ⟨ra, rb, d, rfl, rfl, h3, e.symm⟩
def Qby (K : PySem.W.Frag) (g : D -> D -> Option D) (r : R2) : Prop := ∀ a b d, g a b = some d -> d.flat = true /\ ∀ H x y F G (Q : VK), Rp K H a x F -> Rp K H b y G -> (∀ v, (∀ H', Rp K H' d v []) -> Q v H) -> r x y H Q
theorem Qig {a b : Expr} {op : Operator} {pos : Pos} {fa fb : DE} {g : D -> D -> Option D} {r : R2} (ho : OpR X (binaryOp op) r) (hg : Qby X.K g r) (ha : SE X a fa) (hb : SE X b fb) : SE X (.BinOp a op b pos) (dOp g fa fb) := λ H0 A0 =>
 (Qk4 ho (ha H0 A0) (hb H0 A0)).mono λ σ H Q ⟨ρ, hs, F, r', rel, e, q⟩ => by
  obtain ⟨ra, rb, d, ea, eb, eg, rfl⟩ := Qg7 e
  refine two rel ea eb λ x y H1 H2 G1 G2 p1 p2 => (hg _ _ _ eg).2 H2 x y G1 G2 Q (p1.rp.same p2.same) p2.rp λ v hv => ?_
  exact q v H2 [] (.flat (p1.same.trans p2.same) (hv H2) (hg _ _ _ eg).1)
theorem QiY {a b : Expr} {op : CmpOp} {pos : Pos} {fa fb : DE} {g : D -> D -> Option D} {r : R2} (ho : OpR X (compareOp op) r) (hg : Qby X.K g r) (ha : SE X a fa) (hb : SE X b fb) (hm : behindInMarks op b = false) : SE X (.Compare a [op] [b] pos) (dOp g fa fb) := λ H0 A0 =>
 (Qp0 ho (ha H0 A0) (hb H0 A0) hm).mono λ σ H Q ⟨ρ, hs, F, r', rel, e, q⟩ => by
  obtain ⟨ra, rb, d, ea, eb, eg, rfl⟩ := Qg7 e
  refine two rel ea eb λ x y H1 H2 G1 G2 p1 p2 => (hg _ _ _ eg).2 H2 x y G1 G2 Q (p1.rp.same p2.same) p2.rp λ v hv => ?_
  exact q v H2 [] (.flat (p1.same.trans p2.same) (hv H2) (hg _ _ _ eg).1)
end
end HS
namespace HS
open PySem PySem.Spec L2
noncomputable def Qe4 (i j : Int) : Int := if 0 <= j then i / j else i.fdiv j
noncomputable def Qfn (i j : Int) : Int := if 0 <= j then i % j else i.fmod j
theorem QoJ (i j : Int) : Qe4 i j = i.fdiv j := by
 unfold Qe4; split
 ·rw [Int.fdiv_eq_ediv_of_nonneg _ (by assumption)]
 ·rfl
theorem QoH (i j : Int) : Qfn i j = i.fmod j := by
 unfold Qfn; split
 ·rw [Int.fmod_eq_emod_of_nonneg _ (by assumption)]
 ·rfl
noncomputable def Qdc (i j : Int) : Bool := decide (i.natAbs < 2 ^ 64) || decide (j.natAbs < 2 ^ 64) || (decide (Builtin.Int.intBits i <= 2 ^ 20) && decide (Builtin.Int.intBits j <= 2 ^ 20))
noncomputable def Qem (j : Int) : Bool := decide (j ≠ 0) && decide (j.natAbs < 2 ^ 8000)
noncomputable def gI (f : Int -> Int -> Option D) (a b : D) : Option D := match a, b with
 | .int i, .int j => f i j
 | _, _ => none
noncomputable def Qet := gI λ i j => some (.int (i - j))
noncomputable def QcD := gI λ i j => if Qem j then some (.int (Qe4 i j)) else none
noncomputable def Qaa := gI λ i j => if j ≠ 0 then some (.int (Qfn i j)) else none
noncomputable def QiH := gI λ i j => if 0 <= j /\ j <= 1000 /\ i.natAbs < 2 ^ 200 then some (.int (i ^ j.toNat)) else none
noncomputable def gLt := gI λ i j => some (.bl (decide (i < j)))
noncomputable def gLe := gI λ i j => some (.bl (decide (i <= j)))
noncomputable def gGt := gI λ i j => some (.bl (decide (j < i)))
noncomputable def gGe := gI λ i j => some (.bl (decide (j <= i)))
theorem Qml {f : Int -> Int -> Option D} {a b d : D} (h : gI f a b = some d) : ∃ i j, a = .int i /\ b = .int j /\ f i j = some d := by
 unfold gI at h
 split at h
 ·exact ⟨_, _, rfl, rfl, h⟩
 ·cases h
section
variable {K : PySem.W.Frag} {X : Cx}
theorem Qex {f : Int -> Int -> Option D} {r : R2} (hf : ∀ i j d, f i j = some d -> d.flat = true) (h : ∀ i j d, f i j = some d -> ∀ H (Q : VK), (∀ v, (∀ H', Rp K H' d v []) -> Q v H) -> r (.int i) (.int j) H Q) : Qby K (gI f) r := λ a b d e => by
 obtain ⟨i, j, rfl, rfl, ef⟩ := Qml e
 refine ⟨hf i j d ef, λ H x y F G Q ha hb q => ?_⟩
 rw [ha.int_inv, hb.int_inv]
 exact h i j d ef H Q q
theorem Qmg : Qby K Qet (rI0 λ i j => .int (i - j)) := Qex (λ i j d e => by cases e; rfl) λ i j d e H Q q => by cases e; exact ⟨i, j, rfl, rfl, q _ λ _ => .int_mk⟩
theorem Qnu {i j : Int} (h : Qdc i j = true) : IntMulOk i j := by
 have small : ∀ k : Int, k.natAbs < 2 ^ 64 -> Builtin.Int.intBits k <= 64 := λ k hk => by
  unfold Builtin.Int.intBits
  split
  ·omega
  ·rename_i h0; have h0' : k.natAbs ≠ 0 := λ z => by simp_all
   have := (Nat.log2_lt h0').mpr hk; omega
 unfold Qdc at h
 simp only [Bool.or_eq_true, Zf, decide_eq_true_eq] at h
 rcases h with (h | h) | ⟨h1, h2⟩
 ·exact .of_left (small i h)
 ·exact .of_right (small j h)
 ·exact .of_bits h1 h2
theorem QoI : OpR X (binaryOp .Mult) (rI (λ i j => Qdc i j = true) λ i j => .int (i * j)) := opI λ _ _ _ _ _ _ _ hc q => PyProof.Rows.mul_int q (Qnu hc)
theorem QoW : OpR X (binaryOp .FloorDiv) (rI (λ i j => Qem j = true) λ i j => .int (Qe4 i j)) := opI λ i j _ _ _ _ _ hc q => by
 unfold Qem at hc
 simp only [Zf, decide_eq_true_eq] at hc
 rw [QoJ] at q
 refine PyProof.Rows.floordiv_int hc.1 q (.inl (PyProof.noPylong_of_log2 ?_))
 have h0 : j.natAbs ≠ 0 := by omega
 exact Nat.lt_trans ((Nat.log2_lt h0).mpr hc.2) (by decide)
theorem QpT : OpR X (binaryOp .Mod) (rI (λ i j => j ≠ 0) λ i j => .int (Qfn i j)) := opI λ i j _ _ _ _ _ hc q => by
 rw [QoH] at q
 exact PyProof.Rows.mod_int' hc q
theorem Qq0 : Qby K QcD (rI (λ i j => Qem j = true) λ i j => .int (Qe4 i j)) := Qex (λ i j d e => by split at e <;> cases e; rfl) λ i j d e H Q q => by
 split at e
 ·cases e; exact ⟨i, j, rfl, rfl, by assumption, q _ λ _ => .int_mk⟩
 ·cases e
theorem Qqw : Qby K Qaa (rI (λ i j => j ≠ 0) λ i j => .int (Qfn i j)) := Qex (λ i j d e => by split at e <;> cases e; rfl) λ i j d e H Q q => by
 split at e
 ·cases e; exact ⟨i, j, rfl, rfl, by assumption, q _ λ _ => .int_mk⟩
 ·cases e
theorem Qpf : OpR X (binaryOp .Pow) (rI (λ i j => 0 <= j /\ j <= 1000 /\ i.natAbs < 2 ^ 200) λ i j => .int (i ^ j.toNat)) := opI λ i j _ _ _ _ _ hc q => by
 refine PyProof.Rows.pow_int hc.1 ?_ q
 have hb : Builtin.Int.intBits i <= 200 := by
  unfold Builtin.Int.intBits
  split
  ·omega
  ·rename_i h0; have h0' : i.natAbs ≠ 0 := λ z => by simp_all
   have := (Nat.log2_lt h0').mpr hc.2.2; omega
 have h1 : ((Builtin.Int.intBits i : Nat) : Int) * j <= 200 * 1000 := Int.mul_le_mul (by omega) hc.2.1 hc.1 (by decide)
 omega
theorem Qrp : Qby K QiH (rI (λ i j => 0 <= j /\ j <= 1000 /\ i.natAbs < 2 ^ 200) λ i j => .int (i ^ j.toNat)) := Qex (λ i j d e => by split at e <;> cases e; rfl) λ i j d e H Q q => by
 split at e
 ·rename_i h; cases e; exact ⟨i, j, rfl, rfl, h, q _ λ _ => .int_mk⟩
 ·cases e
theorem Qsy : Qby K gLt (rI0 λ i j => .bl (decide (i < j))) := Qex (λ i j d e => by cases e; rfl) λ i j d e H Q q => by cases e; exact ⟨i, j, rfl, rfl, q _ λ _ => .Qbg⟩
theorem Qr9 : Qby K gLe (rI0 λ i j => .bl (decide (i <= j))) := Qex (λ i j d e => by cases e; rfl) λ i j d e H Q q => by cases e; exact ⟨i, j, rfl, rfl, q _ λ _ => .Qbg⟩
theorem Qr3 : Qby K gGt (rI0 λ i j => .bl (decide (j < i))) := Qex (λ i j d e => by cases e; rfl) λ i j d e H Q q => by cases e; exact ⟨i, j, rfl, rfl, q _ λ _ => .Qbg⟩
theorem Qsn : Qby K gGe (rI0 λ i j => .bl (decide (j <= i))) := Qex (λ i j d e => by cases e; rfl) λ i j d e H Q q => by cases e; exact ⟨i, j, rfl, rfl, q _ λ _ => .Qbg⟩
end
theorem Qdz : ∀ (xs ys : List D), Qo (xs ++ ys) = (Qo xs && Qo ys)
 | [], ys => by simp [Qo]
 | x :: xs, ys => by simp [Qo, Qdz xs ys, Bool.and_assoc]
noncomputable def Qav (ds : List D) (M : List Nat) : R := if Qo ds then ⟨.lst ds, true, []⟩ else ⟨.lst ds, false, M⟩
section
variable {K : PySem.W.Frag} {H0 H H' : Hp} {A0 : List Addr} {hs : List (V × D × List Addr)} {ρ : En} {F : Nat -> List Addr} {σ : L2.St}
theorem QH.Qav {ds : List D} {M : List Nat} {vs : List V} {G : List Addr} {H1 : Hp} {p : Addr} (s : Qq H H1) (hp : H1 p = none) (r : Rps K H1 ds vs G) (hz : ds.length <= sizeLine) (src : Src ρ F H M G) (ow : QaN ρ M) :
  QH K ρ F H (upd H1 p (.lst vs)) (Qav ds M) (.ref p) (p :: G) := by
 have s2 : Qq H1 (upd H1 p (.lst vs)) := QbM hp
 have rp : Rp K (upd H1 p (.lst vs)) (.lst ds) (.ref p) (p :: G) := Rp.Qd5 Q4 (r.same s2) hz
 have hH : H p = none := s.free hp
 unfold HS.Qav
 split
 ·rename_i hf
  have := r.QbC hf
  subst this
  refine ⟨s.trans s2, rp, λ a ha => ?_, λ _ => ⟨λ a => ?_, by simp only [D.nl, QfW ds hf]; rfl⟩, QaN.nil⟩
  ·have : a = p := by simpa using ha
   subst this; exact .inl hH
  ·rw [List.count_singleton]
   split
   ·rename_i e; have e' : p = a := by simpa using e
    subst e'; rw [QaF hH]; omega
   ·omega
 ·refine ⟨s.trans s2, rp, λ a ha => ?_, λ z => (by cases z), ow⟩
  rcases Zm.mp ha with rfl | h
  ·exact .inl hH
  ·exact src a h
end
noncomputable def QN (fa fb : DE) : DE := λ ρ => (fa ρ).bind λ ra => (fb ρ).bind λ rb => match ra.d, rb.d with
 | .int i, .int j => some ⟨.int (i + j), true, []⟩
 | .lst xs, .lst ys => if xs.length + ys.length <= sizeLine then some (Qav (xs ++ ys) (ra.M ++ rb.M)) else none
 | _, _ => none
noncomputable def Qbf (fa fb : DE) : DE := λ ρ => (fa ρ).bind λ ra => (fb ρ).bind λ rb => match ra.d, rb.d with
 | .int i, .int j => if Qdc i j then some ⟨.int (i * j), true, []⟩ else none
 | .lst xs, .int j => if xs.length * j.toNat <= sizeLine /\ -(2 ^ 63) <= j /\ j < 2 ^ 63 /\ Qo xs = true then some ⟨.lst (List.replicate j.toNat xs).flatten, true, []⟩ else none
 | _, _ => none
theorem Qk6 {fa fb : DE} {ρ : En} {k : R -> R -> Option R} {r : R} (e : ((fa ρ).bind λ ra => (fb ρ).bind λ rb => k ra rb) = some r) : ∃ ra rb, fa ρ = some ra /\ fb ρ = some rb /\ k ra rb = some r := by
 cases h1 : fa ρ with
 | none => rw [h1] at e; cases e
 | some ra =>
  cases h2 : fb ρ with
  | none => rw [h1, h2] at e; cases e
  | some rb => rw [h1, h2] at e; exact ⟨ra, rb, rfl, rfl, e⟩
theorem bind1 {α β : Type} {x : Option α} {k : α -> Option β} {r : β} (e : x.bind k = some r) : ∃ a, x = some a /\ k a = some r := by
 cases x with
 | none => cases e
 | some a => exact ⟨a, rfl, e⟩
section
variable {X : Cx} {a b : Expr} {fa fb : DE} {pos : Pos}
noncomputable def Qsf (K : PySem.W.Frag) : R2 := λ x y H Q => ∃ l c xs zs, x = .ref l /\ y = .ref c /\ (H l = some (.lst xs) ∨ Fix K H l xs) /\ (H c = some (.lst zs) ∨ Fix K H c zs) /\ xs.length + zs.length <= sizeLine /\ ∀ p, H p = none -> Q (.ref p) (upd H p (.lst (xs ++ zs)))
theorem Qqc : OpR X (binaryOp .Add) (Qsf X.K) := by
 intro pins s σ H x y v u Q I rx ry h
 obtain ⟨l, c, xs, zs, rfl, rfl, hH, hB, hz, q⟩ := h
 cases rx
 cases ry
 obtain ⟨z, its, n, r, hl, e⟩ := I.QiX hH
 obtain ⟨z2, its2, n2, r2, hl2, e2⟩ := I.QiX hB
 refine PySem.P.add_list e e2 ?_ (by rw [Zn, Zn]; omega)
 have ea : its.toArray ++ its2.toArray = (its ++ its2).toArray := by simp
 rw [ea]
 exact ⟨.ref _, _, I.QrH (t' := s.toks) (r.append r2) (by rw [Zp]; omega), rfl, q _ I.fresh⟩
theorem QqE (ha : SE X a fa) (hb : SE X b fb) : SE X (.BinOp a .Add b pos) (QN fa fb) := λ H0 A0 =>
 (Qk4 (QqJ.or Qqc) (ha H0 A0) (hb H0 A0)).mono λ σ H Q ⟨ρ, hs, F, r', rel, e, q⟩ => by
  obtain ⟨ra, rb, ea, eb, ek⟩ := Qk6 e
  refine two rel ea eb λ x y H1 H2 G1 G2 p1 p2 => ?_
  have p1' := p1.rp.same p2.same
  have p2' := p2.rp
  have c1 := p1.src.append p2.src p1.same
  have o1 := p1.own.append p2.own
  revert ek
  revert p1' p2'
  cases ra.d <;> cases rb.d <;> intro p1' p2' ek <;> first | (cases ek; done) | skip
  ·cases ek
   rw [p1'.int_inv, p2'.int_inv]
   exact .inl ⟨_, _, rfl, rfl, q _ H2 [] (.flat (p1.same.trans p2.same) .int_mk)⟩
  ·rename_i xs ys
   dsimp only at ek
   split at ek
   ·rename_i hz
    cases ek
    obtain ⟨l, vs, L1, rfl, hl, rl, zl, el⟩ := p1'.lst_inv
    obtain ⟨c, ws, L2', rfl, hc, rc, zc, ec⟩ := p2'.lst_inv
    have n1 := rl.length
    have n2 := rc.length
    refine .inr ⟨l, c, vs, ws, rfl, rfl, hl, hc, by omega, λ p hp => ?_⟩
    refine q _ _ (p :: (L1 ++ L2')) (QH.Qav (p1.same.trans p2.same) hp (rl.append rc) (by rw [Zp]; exact hz) (λ a ha => c1 a ?_) o1)
    rcases ZD.mp ha with h | h
    ·refine Zd _ ?_
     rcases el with rfl | rfl
     ·exact Zc _ h
     ·exact h
    ·refine Ze _ ?_
     rcases ec with rfl | rfl
     ·exact Zc _ h
     ·exact h
   ·cases ek
noncomputable def Qr8 (K : PySem.W.Frag) : R2 := λ x y H Q => ∃ l k xs, x = .ref l /\ y = .int k /\ (H l = some (.lst xs) ∨ Fix K H l xs) /\ -(2 ^ 63) <= k /\ k < 2 ^ 63 /\ xs.length * k.toNat <= sizeLine ∧
 ∀ p, H p = none -> Q (.ref p) (upd H p (.lst (List.replicate k.toNat xs).flatten))
theorem Qpm : OpR X (binaryOp .Mult) (Qr8 X.K) := by
 intro pins s σ H x y v u Q I rx ry h
 obtain ⟨l, k, xs, rfl, rfl, hH, h1, h2, hz, q⟩ := h
 cases rx
 obtain ⟨t, rfl⟩ := ry
 obtain ⟨z, its, n, r, hl, e⟩ := I.QiX hH
 have hlen : its.toArray.size * k.toNat <= sizeLine := by rw [Zn, ← hl]; exact hz
 have hcap : ¬ its.toArray.size * k.toNat > (2 ^ 63 - 1) / 8 := by
  have : (sizeLine : Nat) <= (2 ^ 63 - 1) / 8 := by decide
  omega
 have hfit : ¬ (!Builtin.List.listFitsIndex k) = true := by
  rw [fitsIndex_both h1 h2]
  exact ZO
 have hlong : ¬ Builtin.List.listTooLong (its.toArray.size * k.toNat) = true := by
  rw [QmL hlen]
  exact ZO
 have hnew : List.foldl (λ x1 x2 => x1 ++ x2) #[] (List.replicate (if its.toArray.isEmpty = true then 0 else k.toNat) its.toArray) = (List.replicate k.toNat its).flatten.toArray := by
  have f0 : ∀ m : Nat, List.foldl (λ x1 x2 => x1 ++ x2) #[] (List.replicate m its.toArray) = (List.replicate m its).flatten.toArray := λ m => by
   have := foldl_rep its m []
   rw [List.nil_append] at this
   exact this
  rw [f0]
  cases its with
  | nil => simp
  | cons a r' => rw [if_neg (by simp)]
 open PyProof.Rows in
 refine wpAny_binaryOp_repeat_ref (T := "list") (U := "int") (by decide) ⟨_, e, rfl⟩ (λ s' => typeIs_int s' k t) noFill_list_mul F.fills_int_mul F.slot_int_rmul repeat_list F.slot_int_index.lookup
  (call_meets F.slot_int_rmul (typeIs_int s k t) F.entry_int_rmul (F.args_int_rmul_2 _ _) (int___rmul___int_list k t l its.toArray n)
   ⟨e, rfl, ⟨_, e, rfl⟩, call_meets F.slot_list_mul ⟨_, e, rfl⟩ F.entry_list_mul (F.args_list_mul_2 _ _) (AutoListH.list___mul___list_int_3 l its.toArray n k t hfit hcap hlong) ⟨e, ?_⟩⟩)
 rw [hnew]
 exact ⟨.ref _, _, I.QrH (t' := s.toks) (r.rep k.toNat) (by rw [len_rep, Nat.mul_comm]; exact hz), rfl, q _ I.fresh⟩
theorem QhV {xs : List D} (h : Qo xs = true) : ∀ n : Nat, Qo (List.replicate n xs).flatten = true
 | 0 => by simp [Qo]
 | n + 1 => by rw [ZQ, ZS, Qdz, h, QhV h n]; rfl
theorem Rps.rep {K : PySem.W.Frag} {H : Hp} {ds : List D} {vs : List V} (h : Rps K H ds vs []) : ∀ n : Nat, Rps K H (List.replicate n ds).flatten (List.replicate n vs).flatten []
 | 0 => by simp [Rps]
 | n + 1 => by rw [ZQ, ZS, ZQ, ZS]; exact h.append (Rps.rep h n)
theorem QqA (ha : SE X a fa) (hb : SE X b fb) : SE X (.BinOp a .Mult b pos) (Qbf fa fb) := λ H0 A0 =>
 (Qk4 (QoI.or Qpm) (ha H0 A0) (hb H0 A0)).mono λ σ H Q ⟨ρ, hs, F, r', rel, e, q⟩ => by
  obtain ⟨ra, rb, ea, eb, ek⟩ := Qk6 e
  refine two rel ea eb λ x y H1 H2 G1 G2 p1 p2 => ?_
  have p1' := p1.rp.same p2.same
  have p2' := p2.rp
  revert ek
  revert p1' p2'
  cases ra.d <;> cases rb.d <;> intro p1' p2' ek <;> first | (cases ek; done) | skip
  ·dsimp only at ek
   split at ek
   ·rename_i hm
    cases ek
    rw [p1'.int_inv, p2'.int_inv]
    exact .inl ⟨_, _, rfl, rfl, hm, q _ H2 [] (.flat (p1.same.trans p2.same) .int_mk)⟩
   ·cases ek
  ·rename_i xs j
   dsimp only at ek
   split at ek
   ·rename_i hz
    cases ek
    obtain ⟨hz1, hz2, hz3, hf⟩ := hz
    obtain ⟨l, vs, L1, rfl, hl, rl, zl, el⟩ := p1'.lst_inv
    have n1 := rl.length
    have e0 := rl.QbC hf
    subst e0
    rw [p2'.int_inv]
    refine .inr ⟨l, j, vs, rfl, rfl, hl, hz2, hz3, by rw [← n1]; exact hz1, λ p hp => ?_⟩
    have w : HS.Qav (List.replicate j.toNat xs).flatten [] = ⟨.lst (List.replicate j.toNat xs).flatten, true, []⟩ := by
     unfold HS.Qav; rw [if_pos (QhV hf _)]
    rw [← w] at q
    exact q _ _ (p :: []) (QH.Qav (p1.same.trans p2.same) hp (rl.rep _) (by rw [len_rep, Nat.mul_comm]; exact hz1) Src.nil QaN.nil)
   ·cases ek
end
end HS
namespace HS
open PySem PySem.Spec L2
noncomputable def Qc : DA := λ _ => some ⟨[], true, []⟩
noncomputable def Qb (fa : DE) (fr : DA) : DA := λ ρ => (fa ρ).bind λ r => (fr ρ).bind λ rs => some ⟨r.d :: rs.ds, r.fr && rs.fr, r.M ++ rs.M⟩
noncomputable def Qa9 (fa : DA) : DE := λ ρ => (fa ρ).bind λ r => if r.ds.length <= 64 then some ⟨.tup r.ds, r.fr, r.M⟩ else none
noncomputable def Qae (fa : DA) : DE := λ ρ => (fa ρ).bind λ r => if r.ds.length <= 64 then some ⟨.lst r.ds, r.fr, r.M⟩ else none
section
variable {X : Cx} {a b e : Expr} {es : List Expr} {fa fb : DE} {fs : DA} {pos : Pos}
theorem QgA : SA X [] Qc := λ H0 A0 => QbQ.mono λ σ H Q ⟨ρ, hs, F, r', rel, e, q⟩ => by
 cases e
 exact q [] H [] ⟨Qq.refl _, by simp [Rps], Src.nil, λ _ => ⟨Cnt.nil, rfl⟩, QaN.nil⟩
theorem Qef (ha : SE X e fa) (hr : SA X es fs) (hs : starEach (e :: es) X.env = (false, eval e X.env) :: starEach es X.env) : SA X (e :: es) (Qb fa fs) := λ H0 A0 =>
 (Qag (ha H0 A0) (hr H0 A0) hs).mono λ σ H Q ⟨ρ, hs, F, r', rel, e, q⟩ => by
  obtain ⟨r, e1, e⟩ := bind1 e
  obtain ⟨rs, e2, e⟩ := bind1 e
  cases e
  refine ⟨ρ, hs, F, r, rel, e1, λ x H1 G1 p1 => ⟨ρ, hs, F, rs, rel.ext p1.same, e2, λ xs H2 G2 p2 => ?_⟩⟩
  refine q _ H2 (G1 ++ G2) ⟨p1.same.trans p2.same, ?_, p1.src.append p2.src p1.same, λ h => ?_, p1.own.append p2.own⟩
  ·simp only [Rps]
   exact ⟨x, xs, G1, G2, rfl, rfl, p1.rp.same p2.same, p2.rp⟩
  ·simp only [Zf] at h
   exact ⟨(p1.cnt h.1).1.append rel (p2.cnt h.2).1 p1.same p1.rp.mem, by simp only [nls, Zp, (p1.cnt h.1).2, (p2.cnt h.2).2]⟩
theorem Qer {n : Nat} (h : n <= 64) : n <= sizeLine := Zv h (by decide)
theorem Qq6 {k : Nat} (ha : SA X es fs) : SE X (.Tuple es k pos) (Qa9 fs) := λ H0 A0 =>
 (Qmi (ha H0 A0)).mono λ σ H Q ⟨ρ, hs, F, r', rel, e, q⟩ => by
  obtain ⟨r, e1, e⟩ := bind1 e
  split at e
  ·rename_i hz
   cases e
   refine ⟨ρ, hs, F, r, rel, e1, λ xs H1 G p => ⟨by rw [← p.rp.length]; exact Qer hz, λ c hc => q _ _ G ⟨p.same.trans (QbM hc), Rp.Qjy Q4 (p.rp.same (QbM hc)), p.src, λ h => ⟨(p.cnt h).1, by simp only [D.nl]; exact (p.cnt h).2⟩, p.own⟩⟩⟩
  ·cases e
theorem Qmj (ha : SA X es fs) : SE X (.List es pos) (Qae fs) := λ H0 A0 =>
 (Qq4 (ha H0 A0)).mono λ σ H Q ⟨ρ, hs, F, r', rel, e, q⟩ => by
  obtain ⟨r, e1, e⟩ := bind1 e
  split at e
  ·rename_i hz
   cases e
   refine ⟨ρ, hs, F, r, rel, e1, λ xs H1 G p => ⟨by rw [← p.rp.length]; exact Qer hz, λ c hc => ?_⟩⟩
   have hH : H c = none := p.same.free hc
   refine q _ _ (c :: G) ⟨p.same.trans (QbM hc), Rp.Qd5 Q4 (p.rp.same (QbM hc)) (Qer hz), λ z hz' => ?_, λ h => ⟨λ z => ?_, by simp only [D.nl, ZJ, (p.cnt h).2]⟩, p.own⟩
   ·rcases Zm.mp hz' with rfl | h
    ·exact .inl hH
    ·exact p.src z h
   ·rw [Zan]
    have := (p.cnt h).1 z
    split
    ·rename_i e'
     have e' : c = z := by simpa using e'
     subst e'
     have h0 : G.count c = 0 := ZG.mpr λ hm => by obtain ⟨vs, w⟩ := p.rp.mem c hm; rw [hc] at w; cases w
     rw [QaF hH]; omega
    ·exact this
  ·cases e
noncomputable def D.items : D -> Option (List D)
 | .lst xs => some xs
 | .tup xs => some xs
 | _ => none
noncomputable def Qs (fa fb : DE) : DE := λ ρ => (fa ρ).bind λ ra => (fb ρ).bind λ rb => match rb.d with
 | .int i => (ra.d.items).bind λ xs => (atI xs i).map λ d => (R.norm ⟨d, ra.fr, ra.M⟩)
 | _ => none
theorem QoE {α β : Type} {xs : List α} {i : Int} {d : α} (h : atI xs i = some d) : ∃ j : Nat, xs[j]? = some d /\ ∀ (ys : List β), ys.length = xs.length -> ∀ y, ys[j]? = some y -> atI ys i = some y := by
 unfold atI at h
 cases e : ixN xs.length i with
 | none => rw [e] at h; cases h
 | some j =>
  rw [e] at h
  refine ⟨j, h, λ ys hl y hy => ?_⟩
  unfold atI
  rw [hl, e]
  exact hy
theorem QrA (ha : SE X a fa) (hb : SE X b fb) (hs : QfF b) : SE X (.Subscript a b pos) (Qs fa fb) := λ H0 A0 =>
 (Qox (Qj7.or QlT) (ha H0 A0) (hb H0 A0) hs).mono λ σ H Q ⟨ρ, hs, F, r', rel, e, q⟩ => by
  obtain ⟨ra, rb, ea, eb, ek⟩ := Qk6 e
  refine two rel ea eb λ x y H1 H2 G1 G2 p1 p2 => ?_
  have p1' := p1.rp.same p2.same
  have p2' := p2.rp
  have pp : QH X.K ρ F H H2 ra x G1 := ⟨p1.same.trans p2.same, p1', p1.src, p1.cnt, p1.own⟩
  cases hb' : rb.d with
  | int i =>
   rw [hb'] at ek p2'
   rw [p2'.int_inv]
   obtain ⟨xs, ex, ek⟩ := bind1 ek
   obtain ⟨d, ed, ek⟩ := Zb.mp ek
   subst ek
   obtain ⟨j, hj, hm⟩ := QoE (β := V) ed
   have fin : ∀ (L : List Addr) (vs : List V), Rps X.K H2 xs vs L -> (∀ z, L.count z <= G1.count z) -> (G1.length = ra.d.nl -> L.length = nls xs) -> ∃ v, atI vs i = some v /\ Q v H2 := λ L vs rl hc hn => by
    obtain ⟨v, F1, G, F2, hv, eF, rv, hx⟩ := rl.get hj
    refine ⟨v, hm vs rl.length.symm v hv, q v H2 G (QH.norm (QH.sub pp rv (λ z => Zv ?_ (hc z)) λ z => hx (hn z)))⟩
    rw [eF, ZT, ZT]; omega
   cases hra : ra.d with
   | lst ys =>
    rw [hra] at ex p1'
    cases ex
    obtain ⟨l, vs, L, rfl, hl, rl, zl, el⟩ := p1'.lst_inv
    have hn : G1.length = ra.d.nl -> L.length = nls xs := λ hz => by
     have := rl.Qai
     simp only [hra, D.nl] at hz
     rcases el with rfl | rfl
     ·rw [ZJ] at hz; omega
     ·omega
    have hc : ∀ z, L.count z <= G1.count z := λ z => by
     rcases el with rfl | rfl
     ·rw [Zan]; omega
     ·exact Zj _
    obtain ⟨v, h1, h2⟩ := fin L vs rl hc hn
    exact .inl ⟨l, vs, i, v, rfl, rfl, QI hl, h1, h2⟩
   | tup ys =>
    rw [hra] at ex p1'
    cases ex
    obtain ⟨l, vs, rfl, hl, rl⟩ := p1'.Qap
    obtain ⟨v, h1, h2⟩ := fin G1 vs rl (λ z => Zj _) λ z => (by simpa only [hra, D.nl] using z)
    exact .inr ⟨l, vs, i, v, rfl, rfl, hl, h1, h2⟩
   | _ => rw [hra] at ex; cases ex
  | _ => rw [hb'] at ek; cases ek
noncomputable abbrev DO := En -> Option (Option Int)
noncomputable def QbW : DO := λ _ => some none
noncomputable def QaR (f : DE) : DO := λ ρ => (f ρ).bind λ r => match r.d with
 | .int i => some (some i)
 | _ => none
noncomputable def tVO (K : PySem.W.Frag) (H0 : Hp) (A0 : List Addr) (f : DO) : TO := λ σ H Q => ∃ ρ hs F o, Rel K H0 A0 hs ρ F σ H /\ f ρ = some o /\ ∀ H', Qq H H' -> Q o H'
def SO (X : Cx) (e : Option Expr) (f : DO) : Prop := ∀ H0 A0, PO X e (tVO X.K H0 A0 f)
theorem _root_.L2.PO.mono {X : Cx} {e : Option Expr} {t t' : TO} (h : PO X e t) (m : ∀ σ H Q, t' σ H Q -> t σ H Q) : PO X e t' := by
 intro pins s σ H Q I q
 exact h pins s σ H Q I (m σ H Q q)
theorem QpG : SO X none QbW := λ H0 A0 => QoB.mono λ σ H Q ⟨ρ, hs, F, o, rel, e, q⟩ => by
 cases e
 exact q H (Qq.refl _)
theorem QpY (h : SE X a fa) : SO X (some a) (QaR fa) := λ H0 A0 => (QpW (h H0 A0)).mono λ σ H Q ⟨ρ, hs, F, o, rel, e, q⟩ => by
 obtain ⟨r, e1, e⟩ := bind1 e
 refine ⟨ρ, hs, F, r, rel, e1, λ v H1 G p => ?_⟩
 have rp := p.rp
 cases hr : r.d with
 | int i =>
  rw [hr] at e rp
  cases e
  exact ⟨i, rp.int_inv, q H1 p.same⟩
 | _ => rw [hr] at e; cases e
noncomputable def cutD (xs : List D) (lo hi : Option Int) : List D := (xs.drop (HT.sIx xs.length 0 lo)).take (HT.sIx xs.length xs.length hi - HT.sIx xs.length 0 lo)
noncomputable def QbA (fa : DE) (lo hi : DO) : DE := λ ρ => (fa ρ).bind λ ra => (lo ρ).bind λ l => (hi ρ).bind λ h => match ra.d with
 | .lst xs => some (Qav (cutD xs l h) ra.M)
 | _ => none
theorem Rps.drop : ∀ {ds : List D} {vs : List V} {F : List Addr} {K : PySem.W.Frag} {H : Hp} (n : Nat), Rps K H ds vs F -> ∃ G, Rps K H (ds.drop n) (vs.drop n) G /\ ∀ a ∈ G, a ∈ F
 | [], vs, F, K, H, n, h => by simp only [Rps] at h; rw [h.1, h.2]; exact ⟨[], by simp [Rps], λ _ h => h⟩
 | d :: ds, vs, F, K, H, 0, h => ⟨F, by simpa using h, λ _ h => h⟩
 | d :: ds, vs, F, K, H, n + 1, h => by
  simp only [Rps] at h
  obtain ⟨v, ws, F1, F2, e, eF, r, q⟩ := h
  subst e eF
  obtain ⟨G, h1, h2⟩ := Rps.drop n q
  exact ⟨G, by simpa using h1, λ a ha => Ze _ (h2 a ha)⟩
theorem Rps.take : ∀ {ds : List D} {vs : List V} {F : List Addr} {K : PySem.W.Frag} {H : Hp} (n : Nat), Rps K H ds vs F -> ∃ G, Rps K H (ds.take n) (vs.take n) G /\ ∀ a ∈ G, a ∈ F
 | [], vs, F, K, H, n, h => by simp only [Rps] at h; rw [h.1, h.2]; exact ⟨[], by simp [Rps], λ _ h => h⟩
 | d :: ds, vs, F, K, H, 0, h => ⟨[], by simp [Rps], λ _ h => by simp at h⟩
 | d :: ds, vs, F, K, H, n + 1, h => by
  simp only [Rps] at h
  obtain ⟨v, ws, F1, F2, e, eF, r, q⟩ := h
  subst e eF
  obtain ⟨G, h1, h2⟩ := Rps.take n q
  refine ⟨F1 ++ G, ?_, λ a ha => ?_⟩
  ·simp only [ZaA, Rps]
   exact ⟨v, _, F1, G, rfl, rfl, r, h1⟩
  ·rcases ZD.mp ha with h | h
   ·exact Zd _ h
   ·exact Ze _ (h2 a h)
theorem QrJ {lo hi : Option Expr} {fl fh : DO} {p2 : Pos} (ha : SE X a fa) (hl : SO X lo fl) (hh : SO X hi fh) : SE X (.Subscript a (.Slice lo hi none p2) pos) (QbA fa fl fh) := λ H0 A0 =>
 (QnI Qpk (ha H0 A0) (hl H0 A0) (hh H0 A0)).mono λ σ H Q ⟨ρ, hs, F, r', rel, e, q⟩ => by
  obtain ⟨ra, e1, e⟩ := bind1 e
  obtain ⟨l, e2, e⟩ := bind1 e
  obtain ⟨h, e3, e⟩ := bind1 e
  refine ⟨ρ, hs, F, ra, rel, e1, λ x H1 G1 p1 => ⟨ρ, hs, F, l, rel.ext p1.same, e2, λ H2 s2 => ⟨ρ, hs, F, h, (rel.ext p1.same).ext s2, e3, λ H3 s3 => ?_⟩⟩⟩
  have rp := p1.rp.same (s2.trans s3)
  cases hra : ra.d with
  | lst xs =>
   rw [hra] at e rp
   cases e
   obtain ⟨c, vs, L, rfl, hc, rl, zl, el⟩ := rp.lst_inv
   refine ⟨c, vs, rfl, QI hc, λ p hp => ?_⟩
   obtain ⟨G2, h2, m2⟩ := rl.drop (HT.sIx xs.length 0 l)
   obtain ⟨G3, h3, m3⟩ := h2.take (HT.sIx xs.length xs.length h - HT.sIx xs.length 0 l)
   have n1 := rl.length
   rw [show Qg9 vs l h = (vs.drop (HT.sIx xs.length 0 l)).take (HT.sIx xs.length xs.length h - HT.sIx xs.length 0 l) by unfold Qg9; rw [n1]]
   refine q _ _ (p :: G3) (QH.Qav (p1.same.trans (s2.trans s3)) hp h3 ?_ (λ z hz => p1.src z ?_) p1.own)
   ·unfold cutD; rw [Zaj, Zat]; omega
   ·have := m2 z (m3 z hz)
    rcases el with rfl | rfl
    ·exact Zc _ this
    ·exact this
  | _ => rw [hra] at e; cases e
noncomputable def dBf (g : List D -> Option D) (fs : DA) : DE := λ ρ => (fs ρ).bind λ r => (g r.ds).map λ d => ⟨d, true, []⟩
def QdZ (K : PySem.W.Frag) (g : List D -> Option D) (r : List V -> Hp -> VK -> Prop) : Prop := ∀ ds d, g ds = some d -> d.flat = true /\ ∀ H vs F (Q : VK), Rps K H ds vs F -> (∀ v, (∀ H', Rp K H' d v []) -> Q v H) -> r vs H Q
theorem Qgj {x : Str} {id : String} {g : List D -> Option D} {r : List V -> Hp -> VK -> Prop} {p : Pos} (hc : Qbj X (.builtin id) r) (hk : QdZ X.K g r) (hg : Gl X x) (hm : X.mg x = none) (hv : bootBuiltins x = some (.builtin id)) (ha : SA X (e :: es) fs) (hn : x ≠ "__name__") (hdb : (x == ("__debug__" : Str)) = false)
  (he : starEach (e :: es) X.env = (false, eval e X.env) :: starEach es X.env) (hpl : (backTo pos (starEach es X.env)).any (·.1) = false) : SE X (.Call (.Name x p) (e :: es) [] pos) (dBf g fs) := λ H0 A0 =>
 (Qen hc hg hm hv (ha H0 A0) hn hdb he hpl).mono λ σ H Q ⟨ρ, hs, F, r', rel, e, q⟩ => by
  obtain ⟨ra, e1, e⟩ := bind1 e
  obtain ⟨d, ed, e⟩ := Zb.mp e
  subst e
  exact ⟨ρ, hs, F, ra, rel, e1, λ vs H1 G p1 => (hk _ _ ed).2 H1 vs G Q p1.rp λ v hv => q v H1 [] (.flat p1.same (hv _) (hk _ _ ed).1)⟩
theorem Rps.one {K : PySem.W.Frag} {H : Hp} {d : D} {vs : List V} {F : List Addr} (h : Rps K H [d] vs F) : ∃ v, vs = [v] /\ Rp K H d v F := by
 simp only [Rps] at h
 obtain ⟨v, ws, F1, F2, rfl, rfl, r, rfl, rfl⟩ := h
 exact ⟨v, rfl, by simpa using r⟩
theorem Rps.two {K : PySem.W.Frag} {H : Hp} {d e : D} {vs : List V} {F : List Addr} (h : Rps K H [d, e] vs F) : ∃ v w F1 F2, vs = [v, w] /\ Rp K H d v F1 /\ Rp K H e w F2 := by
 simp only [Rps] at h
 obtain ⟨v, ws, F1, F2, rfl, rfl, r, w, ws', F3, F4, rfl, rfl, r2, rfl, rfl⟩ := h
 exact ⟨v, w, F1, F3, rfl, r, r2⟩
noncomputable def QcF : List D -> Option D
 | [.lst xs] => some (.int xs.length)
 | [.tup xs] => some (.int xs.length)
 | _ => none
theorem QqR {K : PySem.W.Frag} : QdZ K QcF (λ xs H Q => ∃ p ys, xs = [.ref p] /\ (SqL K H p ys ∨ SqT K H p ys) /\ Q (.int ys.length) H) := λ ds d e => by
 unfold QcF at e
 split at e
 ·cases e
  refine ⟨rfl, λ H vs F Q r q => ?_⟩
  obtain ⟨v, rfl, rp⟩ := r.one
  obtain ⟨l, ws, L, rfl, hl, rl, zl, el⟩ := rp.lst_inv
  exact ⟨l, ws, rfl, .inl (QI hl), by rw [← rl.length]; exact q _ λ _ => .int_mk⟩
 ·cases e
  refine ⟨rfl, λ H vs F Q r q => ?_⟩
  obtain ⟨v, rfl, rp⟩ := r.one
  obtain ⟨l, ws, rfl, hl, rl⟩ := rp.Qap
  exact ⟨l, ws, rfl, .inr hl, by rw [← rl.length]; exact q _ λ _ => .int_mk⟩
 ·cases e
noncomputable def dList (fs : DA) : DE := λ ρ => (fs ρ).bind λ r => match r.ds with
 | [.lst xs] => some (Qav xs r.M)
 | [.tup xs] => if xs.length <= sizeLine then some (Qav xs r.M) else none
 | _ => none
theorem QpJ {p : Pos} (hg : Gl X "list") (hm : X.mg "list" = none) (ha : SA X (e :: es) fs) (he : starEach (e :: es) X.env = (false, eval e X.env) :: starEach es X.env) (hpl : (backTo pos (starEach es X.env)).any (·.1) = false) :
  SE X (.Call (.Name "list" p) (e :: es) [] pos) (dList fs) := λ H0 A0 =>
 (QlQ Qjr hg hm Zbf (ha H0 A0) (by decide) (by decide) he hpl).mono λ σ H Q ⟨ρ, hs, F, r', rel, e, q⟩ => by
  obtain ⟨ra, e1, e⟩ := bind1 e
  refine ⟨ρ, hs, F, ra, rel, e1, λ vs H1 G p1 => ?_⟩
  have rp := p1.rp
  have src := p1.src
  split at e
  ·rename_i xs hds
   cases e
   rw [hds] at rp
   obtain ⟨v, rfl, rq⟩ := rp.one
   obtain ⟨l, ws, L, rfl, hl, rl, zl, el⟩ := rq.lst_inv
   refine ⟨l, ws, rfl, .inl (QI hl), λ c hc => q _ _ (c :: L) (QH.Qav p1.same hc rl zl (λ z hz => src z ?_) p1.own)⟩
   rcases el with rfl | rfl
   ·exact Zc _ hz
   ·exact hz
  ·rename_i xs hds
   split at e
   ·rename_i hz
    cases e
    rw [hds] at rp
    obtain ⟨v, rfl, rq⟩ := rp.one
    obtain ⟨l, ws, rfl, hl, rl⟩ := rq.Qap
    exact ⟨l, ws, rfl, .inr hl, λ c hc => q _ _ (c :: G) (QH.Qav p1.same hc rl hz src p1.own)⟩
   ·cases e
  ·cases e
end
end HS
namespace HS
open PySem PySem.Spec L2
mutual
noncomputable def D.py : D -> PyData
 | .non => .none
 | .bl b => .bool b
 | .int i => .int i
 | .str x => .str x
 | .tup xs => .tuple (pys xs)
 | .lst xs => .list (pys xs)
 | .exc _ => .none
noncomputable def pys : List D -> List PyData
 | [] => []
 | d :: ds => d.py :: pys ds
end
theorem Qkl : ∀ ds : List D, pys ds = ds.map D.py
 | [] => rfl
 | d :: ds => by simp [pys, Qkl ds]
noncomputable def D.sim : Nat -> D -> Bool
 | _, .non => true
 | _, .bl _ => true
 | _, .int _ => true
 | _, .str x => PyData.canLay0 (.str x)
 | 0, .tup xs => xs.isEmpty
 | 0, .lst xs => xs.isEmpty
 | n + 1, .tup xs => xs.all (D.sim n)
 | n + 1, .lst xs => xs.all (D.sim n)
 | _, .exc _ => false
theorem QdB : ∀ {ds : List D}, (∀ d ∈ ds, d.py.canLay0 = true) -> PyData.canLayAll0 (pys ds) = true
 | [], _ => rfl
 | d :: ds, h => by
  simp only [pys, PyData.canLayAll0, Zf]
  exact ⟨h d Zh, QdB λ e he => h e (Zc _ he)⟩
theorem QdN {n : Nat} : ∀ {ds : List D}, (∀ d ∈ ds, d.py.depth <= n) -> PyData.depthAll (pys ds) <= n
 | [], _ => ZL _
 | d :: ds, h => by
  simp only [pys, PyData.depthAll]
  exact Nat.max_le.mpr ⟨h d Zh, QdN λ e he => h e (Zc _ he)⟩
theorem Qbp : ∀ (n : Nat) (d : D), d.sim n = true -> d.py.canLay0 = true /\ d.py.depth <= n + 1
 | n, .exc _, h => by cases n <;> cases h
 | n, .non, _ => by simp [D.py, PyData.canLay0, PyData.depth]
 | n, .bl _, _ => by simp [D.py, PyData.canLay0, PyData.depth]
 | n, .int _, _ => by simp [D.py, PyData.canLay0, PyData.depth]
 | n, .str x, h => by
  simp only [D.py, PyData.depth]
  refine ⟨?_, ZL _⟩
  cases n <;> exact h
 | 0, .tup xs, h => by
  have : xs = [] := by simpa [D.sim] using h
  subst this
  simp [D.py, pys, PyData.canLay0, PyData.canLayAll0, PyData.depth, PyData.depthAll]
 | 0, .lst xs, h => by
  have : xs = [] := by simpa [D.sim] using h
  subst this
  simp [D.py, pys, PyData.canLay0, PyData.canLayAll0, PyData.depth, PyData.depthAll]
 | n + 1, .tup xs, h => by
  simp only [D.sim, ZW] at h
  simp only [D.py, PyData.canLay0, PyData.depth]
  exact ⟨QdB λ d hd => (Qbp n d (h d hd)).1, ZaN (QdN λ d hd => (Qbp n d (h d hd)).2) 1⟩
 | n + 1, .lst xs, h => by
  simp only [D.sim, ZW] at h
  simp only [D.py, PyData.canLay0, PyData.depth]
  exact ⟨QdB λ d hd => (Qbp n d (h d hd)).1, ZaN (QdN λ d hd => (Qbp n d (h d hd)).2) 1⟩
noncomputable def deq (a b : D) : Bool := PyData.eqv a.py b.py
mutual
noncomputable def D.noX : D -> Bool
 | .exc _ => false
 | .tup xs => Qf8 xs
 | .lst xs => Qf8 xs
 | .non => true
 | .bl _ => true
 | .int _ => true
 | .str _ => true
noncomputable def Qf8 : List D -> Bool
 | [] => true
 | d :: ds => d.noX && Qf8 ds
end
theorem QhB : ∀ {ds : List D}, (∀ d ∈ ds, d.noX = true) -> Qf8 ds = true
 | [], _ => rfl
 | d :: ds, h => by
  simp only [Qf8, Zf]
  exact ⟨h d Zh, QhB λ e he => h e (Zc _ he)⟩
theorem Qbw : ∀ (n : Nat) (d : D), d.sim n = true -> d.noX = true
 | n, .exc _, h => by cases n <;> cases h
 | n, .non, _ => rfl
 | n, .bl _, _ => rfl
 | n, .int _, _ => rfl
 | n, .str x, _ => rfl
 | 0, .tup xs, h => by
  have : xs = [] := by simpa [D.sim] using h
  subst this; rfl
 | 0, .lst xs, h => by
  have : xs = [] := by simpa [D.sim] using h
  subst this; rfl
 | n + 1, .tup xs, h => by
  simp only [D.sim, ZW] at h
  simp only [D.noX]
  exact QhB λ d hd => Qbw n d (h d hd)
 | n + 1, .lst xs, h => by
  simp only [D.sim, ZW] at h
  simp only [D.noX]
  exact QhB λ d hd => Qbw n d (h d hd)
section
variable {X : Cx} {pins : List (Addr × Obj)} {σ : L2.St} {H : Hp} {s : Shared}
mutual
theorem Rp.reads (I : Inv X pins σ H s) : ∀ {d : D} {v : V} {F : List Addr} {u : Value}, d.noX = true -> Rp X.K H d v F -> RelV v u -> ∃ as, Reads s.heap u d.py as
 | .exc _, v, _, u, hx, h, r => by cases hx
 | .non, v, _, u, hx, h, r => by
  rw [h.Qhf] at r
  cases (show u = Value.none from r)
  exact ⟨_, .none⟩
 | .bl b, v, _, u, hx, h, r => by
  rw [h.Qe0] at r
  cases (show u = Value.bool b from r)
  exact ⟨_, .bool b⟩
 | .int i, v, _, u, hx, h, r => by
  rw [h.int_inv] at r
  obtain ⟨t, rfl⟩ := (show ∃ t, u = Value.int i t from r)
  exact ⟨_, .int i t⟩
 | .str i, v, _, u, hx, h, r => by
  rw [h.str_inv] at r
  obtain ⟨t, rfl⟩ := (show ∃ t, u = Value.str i t from r)
  exact ⟨_, .str i t⟩
 | .tup ds, v, _, u, hx, h, r => by
  obtain ⟨a, vs, rfl, hq, rs⟩ := h.Qap
  cases (show u = Value.ref a from r)
  obtain ⟨its, rv, ⟨o, h1, h2, n, h3⟩, _⟩ := I.tuple hq
  obtain ⟨as, ra⟩ := Rps.reads I (by simpa only [D.noX] using hx) rs rv
  exact ⟨_, .tuple h1 h2 h3 (by simpa using ra)⟩
 | .lst ds, v, _, u, hx, h, r => by
  simp only [Rp] at h
  obtain ⟨hz, a, vs, rfl, h⟩ := h
  have key : ∃ G, (H a = some (.lst vs) ∨ Fix X.K H a vs) /\ Rps X.K H ds vs G := by
   rcases h with ⟨G, _, q, rs⟩ | ⟨q, rs⟩
   ·exact ⟨G, .inl q, rs⟩
   ·exact ⟨_, .inr q, rs⟩
  obtain ⟨G, hq, rs⟩ := key
  cases (show u = Value.ref a from r)
  obtain ⟨_, its, n, rv, _, e⟩ := I.QiX hq
  obtain ⟨as, ra⟩ := Rps.reads I (by simpa only [D.noX] using hx) rs rv
  exact ⟨_, .list e rfl rfl (by simpa using ra)⟩
theorem Rps.reads (I : Inv X pins σ H s) : ∀ {ds : List D} {vs : List V} {F : List Addr} {us : List Value}, Qf8 ds = true -> Rps X.K H ds vs F -> Ql vs us -> ∃ as, ReadsAll s.heap us (pys ds) as
 | [], vs, _, us, _, h, r => by
  simp only [Rps] at h
  rw [h.1] at r
  cases r
  exact ⟨_, .nil⟩
 | d :: ds, vs, _, us, hx, h, r => by
  simp only [Qf8, Zf] at hx
  simp only [Rps] at h
  obtain ⟨v, ws, F1, F2, rfl, rfl, h1, h2⟩ := h
  cases r with
  | cons r rr =>
   obtain ⟨as, ra⟩ := Rp.reads I hx.1 h1 r
   obtain ⟨bs, rb⟩ := Rps.reads I hx.2 h2 rr
   exact ⟨_, .cons ra rb⟩
end
end
noncomputable def gEq (a b : D) : Option D := if a.sim 8 && b.sim 8 then some (.bl (deq a b)) else none
noncomputable def gNe (a b : D) : Option D := if a.sim 8 && b.sim 8 then some (.bl (!deq a b)) else none
noncomputable def gIn (neg : Bool) (a b : D) : Option D := match b with
 | .lst xs => if a.sim 8 && b.sim 8 then some (.bl (if neg then !(xs.any λ y => deq y a) else xs.any λ y => deq y a)) else none
 | .tup xs => if a.sim 8 && b.sim 8 then some (.bl (if neg then !(xs.any λ y => deq y a) else xs.any λ y => deq y a)) else none
 | _ => none
noncomputable def Qrg (K : PySem.W.Frag) : R2 := λ x y H Q => ∃ a b F G, Rp K H a x F /\ Rp K H b y G /\ a.sim 8 = true /\ b.sim 8 = true /\ Q (.bl (deq a b)) H
noncomputable def Qql (K : PySem.W.Frag) : R2 := λ x y H Q => ∃ a b F G, Rp K H a x F /\ Rp K H b y G /\ a.sim 8 = true /\ b.sim 8 = true /\ Q (.bl (!deq a b)) H
section
variable {X : Cx}
theorem Qlx (hu : X.A.units + 64 < cLine) : OpR X (compareOp .Eq) (Qrg X.K) := by
 intro pins s σ H x y v u Q I rx ry h
 obtain ⟨a, b, F, G, ha, hb, sa, sb, q⟩ := h
 obtain ⟨as, ra⟩ := Rp.reads I (Qbw 8 _ sa) ha rx
 obtain ⟨bs, rb⟩ := Rp.reads I (Qbw 8 _ sb) hb ry
 have h1 := Qbp 8 a sa
 have h2 := Qbp 8 b sb
 exact SeqAt.compareEq_reads ra rb h1.1 h2.1 (by have := Nat.min_le_left a.py.depth b.py.depth; omega) ⟨.bl _, H, I, rfl, q⟩
theorem QlZ (hu : X.A.units + 64 < cLine) : OpR X (compareOp .NotEq) (Qql X.K) := by
 intro pins s σ H x y v u Q I rx ry h
 obtain ⟨a, b, F, G, ha, hb, sa, sb, q⟩ := h
 obtain ⟨as, ra⟩ := Rp.reads I (Qbw 8 _ sa) ha rx
 obtain ⟨bs, rb⟩ := Rp.reads I (Qbw 8 _ sb) hb ry
 have h1 := Qbp 8 a sa
 have h2 := Qbp 8 b sb
 exact SeqAt.compareNe_reads ra rb h1.1 h2.1 (by have := Nat.min_le_left a.py.depth b.py.depth; omega) ⟨.bl _, H, I, rfl, q⟩
theorem Qoe {K : PySem.W.Frag} : Qby K gEq (Qrg K) := λ a b d e => by
 unfold gEq at e
 split at e
 ·rename_i h
  simp only [Zf] at h
  cases e
  exact ⟨rfl, λ H x y F G Q ha hb q => ⟨a, b, F, G, ha, hb, h.1, h.2, q _ λ _ => .Qbg⟩⟩
 ·cases e
theorem Qos {K : PySem.W.Frag} : Qby K gNe (Qql K) := λ a b d e => by
 unfold gNe at e
 split at e
 ·rename_i h
  simp only [Zf] at h
  cases e
  exact ⟨rfl, λ H x y F G Q ha hb q => ⟨a, b, F, G, ha, hb, h.1, h.2, q _ λ _ => .Qbg⟩⟩
 ·cases e
noncomputable def QnQ (K : PySem.W.Frag) (neg : Bool) : R2 := λ x y H Q => ∃ a b F G xs, Rp K H a x F /\ Rp K H b y G /\ a.sim 8 = true /\ b.sim 8 = true /\ (b = .lst xs ∨ b = .tup xs) /\ Q (.bl (if neg then !(xs.any λ y => deq y a) else xs.any λ y => deq y a)) H
theorem Ql7 (xs : List D) (a : D) : ((pys xs).any λ y => PyData.eqv y a.py) = xs.any λ y => deq y a := by
 rw [Qkl, List.any_map]; rfl
theorem Qrb (hu : X.A.units + 64 < cLine) : OpR X (compareOp .In) (QnQ X.K false) := by
 intro pins s σ H x y v u Q I rx ry h
 obtain ⟨a, b, F, G, xs, ha, hb, sa, sb, hk, q⟩ := h
 obtain ⟨as, ra⟩ := Rp.reads I (Qbw 8 _ sa) ha rx
 obtain ⟨bs, rb⟩ := Rp.reads I (Qbw 8 _ sb) hb ry
 have h1 := Qbp 8 a sa
 have h2 := Qbp 8 b sb
 have q' : Q (.bl ((pys xs).any λ y => PyData.eqv y a.py)) H := by rw [Ql7]; exact q
 rcases hk with rfl | rfl
 ·exact SeqAt.in_list_reads rb ra h2.1 h1.1 (by have := ZaL (PyData.depthAll (pys xs)) a.py.depth; omega) ⟨.bl _, H, I, rfl, q'⟩
 ·exact SeqAt.in_tuple_reads rb ra h2.1 h1.1 (by have := ZaL (PyData.depthAll (pys xs)) a.py.depth; omega) ⟨.bl _, H, I, rfl, q'⟩
theorem Qmp (hu : X.A.units + 64 < cLine) : OpR X (compareOp .NotIn) (QnQ X.K true) := by
 intro pins s σ H x y v u Q I rx ry h
 obtain ⟨a, b, F, G, xs, ha, hb, sa, sb, hk, q⟩ := h
 obtain ⟨as, ra⟩ := Rp.reads I (Qbw 8 _ sa) ha rx
 obtain ⟨bs, rb⟩ := Rp.reads I (Qbw 8 _ sb) hb ry
 have h1 := Qbp 8 a sa
 have h2 := Qbp 8 b sb
 have q' : Q (.bl (!(pys xs).any λ y => PyData.eqv y a.py)) H := by rw [Ql7]; exact q
 rcases hk with rfl | rfl
 ·exact SeqAt.notIn_list_reads rb ra h2.1 h1.1 (by have := ZaL (PyData.depthAll (pys xs)) a.py.depth; omega) ⟨.bl _, H, I, rfl, q'⟩
 ·exact SeqAt.notIn_tuple_reads rb ra h2.1 h1.1 (by have := ZaL (PyData.depthAll (pys xs)) a.py.depth; omega) ⟨.bl _, H, I, rfl, q'⟩
theorem Qok {K : PySem.W.Frag} {neg : Bool} : Qby K (gIn neg) (QnQ K neg) := λ a b d e => by
 unfold gIn at e
 split at e
 ·split at e
  ·rename_i h
   simp only [Zf] at h
   cases e
   exact ⟨rfl, λ H x y F G Q ha hb q => ⟨a, _, F, G, _, ha, hb, h.1, h.2, .inl rfl, q _ λ _ => .Qbg⟩⟩
  ·cases e
 ·split at e
  ·rename_i h
   simp only [Zf] at h
   cases e
   exact ⟨rfl, λ H x y F G Q ha hb q => ⟨a, _, F, G, _, ha, hb, h.1, h.2, .inr rfl, q _ λ _ => .Qbg⟩⟩
  ·cases e
 ·cases e
noncomputable def D.tyN : D -> String
 | .non => "NoneType" | .bl _ => "bool" | .int _ => "int" | .str _ => "str" | .tup _ => "tuple" | .lst _ => "list" | .exc _ => "?"
noncomputable def D.isE : D -> Bool
 | .exc _ => true
 | _ => false
noncomputable def D.isa (T : String) (d : D) : Option Bool := if (T == "int" || T == "bool" || T == "list" || T == "tuple" || T == "str") && !d.isE then some (d.tyN == T || (d.tyN == "bool" && T == "int")) else none
theorem Qq3 {pins : List (Addr × Obj)} {σ : L2.St} {H : Hp} {s : Shared} {A : Around} {E Q : Value -> Shared -> Prop} {d : D} {v : V} {F : List Addr} {u : Value} {T : String} {b : Bool} (I : Inv X pins σ H s) (rp : Rp X.K H d v F) (rx : RelV v u) (e : d.isa T = some b) (h : ∀ tk, Q (.bool b) { s with toks := tk }) :
  wpAny (model X.prog X.w) A (call (.builtin "isinstance") [u, .type T]) Q E s := by
 have kit : PySem.W.kitOne X.K (.type d.tyN) (.type T) = some b := by
  unfold D.isa at e
  split at e
  ·rename_i hT
   cases e
   simp only [Zf, Bool.or_eq_true, beq_iff_eq] at hT
   obtain ⟨hT, hE⟩ := hT
   rcases hT with (((rfl | rfl) | rfl) | rfl) | rfl <;> cases d <;> first | rfl | (cases hE)
  ·cases e
 cases d with
 | exc x => unfold D.isa at e; split at e; (rename_i hT; exfalso; simp only [Zf] at hT; exact nomatch hT.2); cases e
 | non => rw [rp.Qhf] at rx; cases (show u = Value.none from rx); exact Zao PySem.W.kitx_none I.kIn True.intro kit (λ z => nomatch z) h
 | bl y => rw [rp.Qe0] at rx; cases (show u = Value.bool y from rx); exact Zao PySem.W.kitx_bool I.kIn True.intro kit (λ z => nomatch z) h
 | int i => rw [rp.int_inv] at rx; obtain ⟨t, q⟩ := (show ∃ t, u = Value.int i t from rx); cases q; exact Zao PySem.W.kitx_int I.kIn True.intro kit (λ z => nomatch z) h
 | str y => rw [rp.str_inv] at rx; obtain ⟨t, q⟩ := (show ∃ t, u = Value.str y t from rx); cases q; exact Zao PySem.W.kitx_str I.kIn True.intro kit (λ z => nomatch z) h
 | tup ds =>
  obtain ⟨a, vs, rfl, hq, _⟩ := rp.Qap
  cases (show u = Value.ref a from rx)
  obtain ⟨its, rv, ⟨o, h1, h2, n, h3⟩, _⟩ := I.tuple hq
  exact Zao PySem.W.kitx_tuple I.kIn ⟨o, h1, h2⟩ kit (λ z => nomatch z) h
 | lst ds =>
  obtain ⟨a, vs, G, rfl, hq, _⟩ := rp.lst_inv
  cases (show u = Value.ref a from rx)
  obtain ⟨_, its, n, rv, _, e1⟩ := I.QiX hq
  exact Zao PySem.W.kitx_list I.kIn ⟨_, e1, rfl⟩ kit (λ z => nomatch z) h
noncomputable def QsF (K : PySem.W.Frag) : List V -> Hp -> VK -> Prop := λ xs H Q => ∃ x T d F b, xs = [x, .ty T] /\ Rp K H d x F /\ d.isa T = some b /\ Q (.bl b) H
theorem QmF : Qbj X (.builtin "isinstance") (QsF X.K) := by
 intro pins s σ H xs us Q I r h
 obtain ⟨x, T, d, F, b, rfl, rp, e, q⟩ := h
 obtain ⟨u, w, rfl, ru, rw'⟩ := vals2 r
 cases (show w = Value.type T from rw')
 exact Qq3 I rp ru e λ tk => ⟨.bl b, H, I.tok _, rfl, q⟩
noncomputable def Qgc (T : String) (fa : DE) : DE := λ ρ => (fa ρ).bind λ r => (r.d.isa T).map λ b => ⟨.bl b, true, []⟩
theorem Qrf {a : Expr} {fa : DE} {T : String} {x : Str} {p p2 pos : Pos} (hg : Gl X "isinstance") (hm : X.mg "isinstance" = none) (ha : SE X a fa) (hT : PE X (.Name x p2) (tC (.ty T)))
  (he : starEach [a, .Name x p2] X.env = (false, eval a X.env) :: starEach [.Name x p2] X.env) : SE X (.Call (.Name "isinstance" p) [a, .Name x p2] [] pos) (Qgc T fa) := λ H0 A0 =>
 (Qen QmF hg hm Zav (Qag (ha H0 A0) (Qag hT QbQ) he) (by decide) (by decide) he (by rfl)).mono λ σ H Q ⟨ρ, hs, F, r', rel, e, q⟩ => by
  obtain ⟨r, e1, e⟩ := bind1 e
  obtain ⟨b, eb, e⟩ := Zb.mp e
  subst e
  exact ⟨ρ, hs, F, r, rel, e1, λ v H1 G p => ⟨v, T, r.d, G, b, rfl, p.rp, eb, q _ H1 [] (.flat p.same .Qbg)⟩⟩
noncomputable def D.tru : D -> Option Bool
 | .non => some false
 | .bl b => some b
 | .int i => some (i != 0)
 | .lst xs => some (!xs.isEmpty)
 | .tup xs => some (!xs.isEmpty)
 | .str _ => none
 | .exc _ => none
theorem Qij {K : PySem.W.Frag} {H : Hp} {d : D} {v : V} {F : List Addr} {b : Bool} (h : Rp K H d v F) (e : d.tru = some b) : Qn5 K v H b := by
 have emp : ∀ {ds : List D} {vs : List V} {G : List Addr}, Rps K H ds vs G -> (!ds.isEmpty) = !vs.isEmpty := λ {ds vs G} r => by
  have := r.length
  cases ds <;> cases vs <;> simp_all
 cases d with
 | non => rw [h.Qhf]; cases e; exact rfl
 | bl c => rw [h.Qe0]; cases e; exact rfl
 | int i => rw [h.int_inv]; cases e; exact rfl
 | str i => cases e
 | exc i => cases e
 | tup ds => cases e; obtain ⟨a, vs, rfl, hq, r⟩ := h.Qap; exact .inr (.inl ⟨vs, hq, emp r⟩)
 | lst ds => cases e; obtain ⟨a, vs, G, rfl, hq, r, _⟩ := h.lst_inv; exact .inl ⟨vs, QI hq, emp r⟩
noncomputable def Qt (fa : DE) : DT := λ ρ => (fa ρ).bind λ r => r.d.tru
noncomputable def QhD (f g : DT) : DT := λ ρ => (f ρ).bind λ b => if b = true then g ρ else some false
noncomputable def bOr (f g : DT) : DT := λ ρ => (f ρ).bind λ b => if b = true then some true else g ρ
noncomputable def Qdp (f : DT) : DT := λ ρ => (f ρ).bind λ b => some (!b)
def SW (X : Cx) (e : Expr) (f : DT) : Prop := ∀ H0 A0, PW X e (tVT X.K H0 A0 f)
theorem _root_.L2.PW.mono {X : Cx} {e : Expr} {t t' : TT} (h : PW X e t) (m : ∀ σ H Q, t' σ H Q -> t σ H Q) : PW X e t' := λ wh pins s σ H Q I q => h wh pins s σ H Q I (m σ H Q q)
variable {a b e : Expr} {fa fb : DE} {ga gb gc : DT} {pos : Pos} {rest : List Expr}
theorem Qrz (ha : SE X a fa) (he : ∀ whole, isTrue a X.env whole = (do let v ← whole; standAt a.pos; holding [v] (truthy v))) : ST X a (Qt fa) := λ H0 A0 =>
 (QmZ (ha H0 A0) he).mono λ σ H Q ⟨ρ, hs, F, b, rel, e, q⟩ => by
  obtain ⟨r, e1, e⟩ := bind1 e
  exact ⟨ρ, hs, F, r, rel, e1, λ v H1 G p => ⟨b, Qij p.rp e, q H1 p.same⟩⟩
theorem QrG {op : CmpOp} {g : D -> D -> Option D} {r : R2} (ho : OpR X (compareOp op) r) (hg : Qby X.K g r) (hbl : ∀ a b d, g a b = some d -> ∃ k, d = .bl k) (ha : SE X a fa) (hb : SE X b fb) (hm : behindInMarks op b = false) : ST X (.Compare a [op] [b] pos) (Qt (dOp g fa fb)) := λ H0 A0 =>
 (QoN ho (ha H0 A0) (hb H0 A0) hm).mono λ σ H Q ⟨ρ, hs, F, k, rel, e, q⟩ => by
  obtain ⟨r', e0, e⟩ := bind1 e
  obtain ⟨ra, rb, d, ea, eb, eg, rfl⟩ := Qg7 e0
  obtain ⟨k', rfl⟩ := hbl _ _ _ eg
  cases e
  refine two rel ea eb λ x y H1 H2 G1 G2 p1 p2 => (hg _ _ _ eg).2 H2 x y G1 G2 _ (p1.rp.same p2.same) p2.rp λ v hv => ?_
  exact ⟨_, (hv H2).Qe0, q H2 (p1.same.trans p2.same)⟩
theorem QqD (ha : ST X a ga) : ST X (.UnaryOp .Not a pos) (Qdp ga) := λ H0 A0 =>
 (Qqv (ha H0 A0)).mono λ σ H Q ⟨ρ, hs, F, b, rel, e, q⟩ => by
  obtain ⟨c, e1, e⟩ := bind1 e
  cases e
  exact ⟨ρ, hs, F, c, rel, e1, λ H1 s1 => q H1 s1⟩
theorem QoD (ha : ST X a ga) : SW X (.BoolOp .And [a] pos) ga := λ H0 A0 => QpU (ha H0 A0)
theorem Qq8 (ha : ST X a ga) : SW X (.BoolOp .Or [a] pos) ga := λ H0 A0 => QrF (ha H0 A0)
theorem QqY (ha : ST X a ga) (hb : SW X (.BoolOp .And (b :: rest) pos) gb) : SW X (.BoolOp .And (a :: b :: rest) pos) (QhD ga gb) := λ H0 A0 =>
 (Qrk (ha H0 A0) (hb H0 A0)).mono λ σ H Q ⟨ρ, hs, F, c, rel, e, q⟩ => by
  obtain ⟨d, e1, e⟩ := bind1 e
  refine ⟨ρ, hs, F, d, rel, e1, λ H1 s1 => ?_⟩
  cases d with
  | true => exact ⟨ρ, hs, F, c, rel.ext s1, e, λ H2 s2 => q H2 (s1.trans s2)⟩
  | false => cases e; exact q H1 s1
theorem Qso (ha : ST X a ga) (hb : SW X (.BoolOp .Or (b :: rest) pos) gb) : SW X (.BoolOp .Or (a :: b :: rest) pos) (bOr ga gb) := λ H0 A0 =>
 (QrW (ha H0 A0) (hb H0 A0)).mono λ σ H Q ⟨ρ, hs, F, c, rel, e, q⟩ => by
  obtain ⟨d, e1, e⟩ := bind1 e
  refine ⟨ρ, hs, F, d, rel, e1, λ H1 s1 => ?_⟩
  cases d with
  | true => cases e; exact q H1 s1
  | false => exact ⟨ρ, hs, F, c, rel.ext s1, e, λ H2 s2 => q H2 (s1.trans s2)⟩
theorem SW.st (h : SW X e ga) : ST X e ga := λ H0 A0 => (h H0 A0).pt
noncomputable def QdE (fa fb : DE) : DE := λ ρ => (fa ρ).bind λ ra => (ra.d.tru).bind λ b => if b = true then fb ρ else some ra
noncomputable def dOr (fa fb : DE) : DE := λ ρ => (fa ρ).bind λ ra => (ra.d.tru).bind λ b => if b = true then some ra else fb ρ
noncomputable def Qnr (fa : DE) : DE := λ ρ => (fa ρ).bind λ ra => (ra.d.tru).bind λ b => some ⟨.bl (!b), true, []⟩
theorem Qgy {op} (h : SE X a fa) : SE X (.BoolOp op [a] pos) fa := λ H0 A0 => Qqo (h H0 A0)
theorem QH.ext {K : PySem.W.Frag} {ρ : En} {F : Nat -> List Addr} {H H1 H2 : Hp} {r : R} {v : V} {G : List Addr} (s : Qq H H1) (p : QH K ρ F H1 H2 r v G) {H0 : Hp} {A0 : List Addr} {hs : List (V × D × List Addr)} {σ : L2.St} (rel : Rel K H0 A0 hs ρ F σ H) : QH K ρ F H H2 r v G where
 same := s.trans p.same
 rp := p.rp
 src := λ a ha => (p.src a ha).elim (λ z => .inl (s.free z)) .inr
 cnt := λ h => ⟨λ a => Zv ((p.cnt h).1 a) (ZaN (by
  cases q : H1 a with
  | none => rw [QaF q, QaF (s.free q)]; exact Zj _
  | some o => rw [Qcx q]; exact ZL _) _), (p.cnt h).2⟩
 own := p.own
theorem Qlq (ha : SE X a fa) (hb : SE X (.BoolOp .And (b :: rest) pos) fb) : SE X (.BoolOp .And (a :: b :: rest) pos) (QdE fa fb) := λ H0 A0 => by
 intro pins s σ H Q I ⟨ρ, hs, F, r, rel, e, q⟩
 obtain ⟨ra, e1, e⟩ := bind1 e
 obtain ⟨c, e2, e⟩ := bind1 e
 refine PyProof.Rows.BoolOp_and (thn (ha H0 A0 pins s σ H _ I ⟨ρ, hs, F, ra, rel, e1, λ v H' G p => (⟨G, p⟩ : ∃ G, QH X.K ρ F H H' ra v G)⟩) λ v s1 ⟨x, H1, I1, r1, G, p⟩ => ?_)
 refine thn (Qgs pins s1 σ H1 x v (λ k H2 => k = c /\ H2 = H1) I1 r1 ⟨c, Qij p.rp e2, rfl, rfl⟩) λ k s2 ⟨H2, I2, e3, e4⟩ => ?_
 subst e3 e4
 cases k with
 | true => exact hb H0 A0 pins s2 σ _ Q I2 ⟨ρ, hs, F, r, rel.ext p.same, e, λ w H3 G3 p3 => q w H3 G3 (p3.ext p.same rel)⟩
 | false => cases e; exact ⟨x, _, I2, r1, q x _ G p⟩
theorem Qoc (ha : SE X a fa) (hb : SE X (.BoolOp .Or (b :: rest) pos) fb) : SE X (.BoolOp .Or (a :: b :: rest) pos) (dOr fa fb) := λ H0 A0 => by
 intro pins s σ H Q I ⟨ρ, hs, F, r, rel, e, q⟩
 obtain ⟨ra, e1, e⟩ := bind1 e
 obtain ⟨c, e2, e⟩ := bind1 e
 refine PyProof.Rows.BoolOp_or (thn (ha H0 A0 pins s σ H _ I ⟨ρ, hs, F, ra, rel, e1, λ v H' G p => (⟨G, p⟩ : ∃ G, QH X.K ρ F H H' ra v G)⟩) λ v s1 ⟨x, H1, I1, r1, G, p⟩ => ?_)
 refine thn (Qgs pins s1 σ H1 x v (λ k H2 => k = c /\ H2 = H1) I1 r1 ⟨c, Qij p.rp e2, rfl, rfl⟩) λ k s2 ⟨H2, I2, e3, e4⟩ => ?_
 subst e3 e4
 cases k with
 | false => exact hb H0 A0 pins s2 σ _ Q I2 ⟨ρ, hs, F, r, rel.ext p.same, e, λ w H3 G3 p3 => q w H3 G3 (p3.ext p.same rel)⟩
 | true => cases e; exact ⟨x, _, I2, r1, q x _ G p⟩
theorem Qmx (ha : SE X a fa) : SE X (.UnaryOp .Not a pos) (Qnr fa) := λ H0 A0 => by
 intro pins s σ H Q I ⟨ρ, hs, F, r, rel, e, q⟩
 obtain ⟨ra, e1, e⟩ := bind1 e
 obtain ⟨c, e2, e⟩ := bind1 e
 cases e
 refine PyProof.Rows.UnaryOp_ (thn (ha H0 A0 pins s σ H _ I ⟨ρ, hs, F, ra, rel, e1, λ v H' G p => (⟨G, p⟩ : ∃ G, QH X.K ρ F H H' ra v G)⟩) λ v s1 ⟨x, H1, I1, r1, G, p⟩ => ?_)
 refine PyProof.Rows.not_of (thn (Qgs pins s1 σ H1 x v (λ k H2 => k = c /\ H2 = H1) I1 r1 ⟨c, Qij p.rp e2, rfl, rfl⟩) λ k s2 ⟨H2, I2, e3, e4⟩ => ?_)
 subst e3 e4
 exact ⟨.bl (!k), _, I2, rfl, q _ _ [] (.flat p.same .Qbg)⟩
noncomputable def Qi1 (fa : DE) : DE := λ ρ => (fa ρ).bind λ ra => match ra.d with
 | .int i => some ⟨.int (-i), true, []⟩
 | _ => none
theorem Qqh (ha : SE X a fa) : SE X (.UnaryOp .USub a pos) (Qi1 fa) := λ H0 A0 =>
 (Qsb Qqu (ha H0 A0)).mono λ σ H Q ⟨ρ, hs, F, r, rel, e, q⟩ => by
  obtain ⟨ra, e1, e⟩ := bind1 e
  refine ⟨ρ, hs, F, ra, rel, e1, λ v H1 G p => ?_⟩
  have rp := p.rp
  cases hr : ra.d with
  | int i =>
   rw [hr] at e rp
   cases e
   exact ⟨i, rp.int_inv, q _ H1 [] (.flat p.same .int_mk)⟩
  | _ => rw [hr] at e; cases e
end
end HS
namespace HS
open PySem PySem.Spec L2
section
variable {K : PySem.W.Frag} {H0 H H' : Hp} {A0 : List Addr} {hs : List (V × D × List Addr)} {ρ ρ' : En} {F : Nat -> List Addr} {σ : L2.St}
def QbG (ρ ρ' : En) : Prop := ρ'.length = ρ.length /\ ∀ (i : Nat) d b, ρ'[i]? = some (some (d, b)) -> ∃ b', ρ[i]? = some (some (d, b')) /\ (b = true -> b' = true)
theorem QbG.refl : QbG ρ ρ := ⟨rfl, λ i d b h => ⟨b, h, id⟩⟩
theorem QbG.trans {ρ'' : En} (a : QbG ρ ρ') (b : QbG ρ' ρ'') : QbG ρ ρ'' := ⟨b.1.trans a.1, λ i d c h => by
 obtain ⟨c', h1, h2⟩ := b.2 i d c h
 obtain ⟨c'', h3, h4⟩ := a.2 i d c' h1
 exact ⟨c'', h3, λ z => h4 (h2 z)⟩⟩
theorem Rel.weak (r : Rel K H0 A0 hs ρ F σ H) (w : QbG ρ ρ') : Rel K H0 A0 hs ρ' F σ H where
 len := w.1.trans r.len
 val := λ i d b e => let ⟨b', h, _⟩ := w.2 i d b e; r.val i d b' h
 own := λ i d e => by
  obtain ⟨b', h, hb⟩ := w.2 i d true e
  have : b' = true := hb rfl
  subst this
  obtain ⟨h1, h2, h3, h4, h5⟩ := r.own i d h
  exact ⟨h1, h2, h3, λ j d' b' hj e' => let ⟨b'', h', _⟩ := w.2 j d' b' e'; h4 j d' b'' hj h', h5⟩
 src := λ i d b e => let ⟨b', h, _⟩ := w.2 i d b e; r.src i d b' h
 held := r.held
 same := r.same
noncomputable def kill : List Nat -> En -> En
 | [], ρ => ρ
 | i :: M, ρ => kill M (ρ.set i none)
noncomputable def QaL : List Nat -> En -> En
 | [], ρ => ρ
 | i :: M, ρ => QaL M (match ρ[i]? with
  | some (some (d, _)) => ρ.set i (some (d, false))
  | _ => ρ)
theorem QhZ (i : Nat) : QbG ρ (ρ.set i none) := ⟨by simp, λ j d b h => by
 by_cases hj : i = j
 ·subst hj
  by_cases hl : i < ρ.length
  ·rw [Zr hl] at h; cases h
  ·rw [Zz (by simp; omega)] at h; cases h
 ·rw [Zg hj] at h
  exact ⟨b, h, id⟩⟩
theorem QbH : ∀ (M : List Nat) (ρ : En), QbG ρ (kill M ρ)
 | [], ρ => .refl
 | i :: M, ρ => (QhZ i).trans (QbH M _)
theorem QeU : ∀ (M : List Nat) (ρ : En) (i : Nat) (d : D) (b : Bool), i ∈ M -> (kill M ρ)[i]? = some (some (d, b)) -> False
 | [], ρ, i, d, b, h, _ => by simp at h
 | j :: M, ρ, i, d, b, h, e => by
  rcases Zm.mp h with rfl | h
  ·obtain ⟨b', e', _⟩ := (QbH M (ρ.set i none)).2 i d b e
   by_cases hl : i < ρ.length
   ·rw [Zr hl] at e'; cases e'
   ·rw [Zz (by simp; omega)] at e'; cases e'
  ·exact QeU M _ i d b h e
theorem Qn4 (i : Nat) : QbG ρ (match ρ[i]? with
  | some (some (d, _)) => ρ.set i (some (d, false))
  | _ => ρ) := by
 split
 ·rename_i d b e
  refine ⟨by simp, λ j d' b' h => ?_⟩
  by_cases hj : i = j
  ·subst hj
   have hl : i < ρ.length := (Zi.mp e).1
   rw [Zr hl] at h
   cases h
   exact ⟨b, e, λ z => by cases z⟩
  ·rw [Zg hj] at h
   exact ⟨b', h, id⟩
 ·exact .refl
theorem Qa3 : ∀ (M : List Nat) (ρ : En), QbG ρ (QaL M ρ)
 | [], ρ => .refl
 | i :: M, ρ => (Qn4 i).trans (Qa3 M _)
theorem QgU : ∀ (M : List Nat) (ρ : En) (i : Nat) (d : D), i ∈ M -> (QaL M ρ)[i]? = some (some (d, true)) -> False
 | [], ρ, i, d, h, _ => by simp at h
 | j :: M, ρ, i, d, h, e => by
  rcases Zm.mp h with rfl | h
  ·obtain ⟨b', e', hb⟩ := (Qa3 M _).2 i d true e
   have : b' = true := hb rfl
   subst this
   split at e'
   ·rename_i d' b e1
    have hl : i < ρ.length := (Zi.mp e1).1
    rw [Zr hl] at e'
    cases e'
   ·rename_i h1
    exact h1 d true e'
  ·exact QgU M _ i d h e
def Shr (H0 : Hp) (A0 : List Addr) (ρ : En) (F : Nat -> List Addr) (G : List Addr) : Prop :=
 ∀ a ∈ G, (H0 a = none ∨ a ∈ A0) /\ ∀ (i : Nat) d, ρ[i]? = some (some (d, true)) -> a ∉ F i
theorem Shr.of (r : Rel K H0 A0 hs ρ F σ H) {M : List Nat} {G : List Addr} (s : Src ρ F H M G) : Shr H0 A0 (QaL M ρ) F G := λ a ha => by
 have w := Qa3 M ρ
 rcases s a ha with h | ⟨i, d, b, e, m, hm⟩
 ·refine ⟨.inl (r.same.free h), λ j d' e' hj => ?_⟩
  obtain ⟨b', e2, _⟩ := w.2 j d' true e'
  obtain ⟨vs, q⟩ := r.mem e2 hj
  rw [h] at q; cases q
 ·refine ⟨r.src i d b e a m, λ j d' e' hj => ?_⟩
  obtain ⟨b', e2, hb⟩ := w.2 j d' true e'
  have : b' = true := hb rfl
  subst this
  by_cases hij : i = j
  ·subst hij
   rw [e] at e2
   cases e2
   exact QgU M ρ i _ (hm rfl) e'
  ·exact (r.own j d' e2).2.2.2.1 i d b hij e a hj m
theorem Rel.QkM (r : Rel K H0 A0 hs ρ F σ H) {i : Nat} {d : D} {v : V} {G : List Addr} (rp : Rp K H d v G) (sh : Shr H0 A0 ρ F G) :
  Rel K H0 A0 hs (ρ.set i (some (d, d.flat))) (λ j => if j = i then G else F j) (σ.set i (some v)) H where
 len := by simp [r.len]
 val := λ j d' b e => by
  by_cases hj : j = i
  ·subst hj
   have hl : j < ρ.length := by
    by_cases hl : j < ρ.length
    ·exact hl
    ·rw [Zz (by simp; omega)] at e; cases e
   rw [Zr hl] at e
   cases e
   exact ⟨v, by rw [Zr (by rw [← r.len]; exact hl)], by rw [if_pos rfl]; exact rp⟩
  ·rw [Zg (Ne.symm hj)] at e
   obtain ⟨w, h1, h2⟩ := r.val j d' b e
   exact ⟨w, by rw [Zg (Ne.symm hj)]; exact h1, by rw [if_neg hj]; exact h2⟩
 own := λ j d' e => by
  by_cases hj : j = i
  ·subst hj
   have hl : j < ρ.length := by
    by_cases hl : j < ρ.length
    ·exact hl
    ·rw [Zz (by simp; omega)] at e; cases e
   rw [Zr hl] at e
   have e1 := Option.some.inj (Option.some.inj e)
   have ed : d = d' := congrArg Prod.fst e1
   have ef : d.flat = true := congrArg Prod.snd e1
   subst ed
   have := rp.QbC ef
   subst this
   rw [if_pos rfl]
   exact ⟨(QcK d ef).symm, Zaf, λ a ha => by simp at ha, λ _ _ _ _ _ a ha => by simp at ha, λ _ _ a ha => by simp at ha⟩
  ·rw [Zg (Ne.symm hj)] at e
   obtain ⟨h1, h2, h3, h4, h5⟩ := r.own j d' e
   rw [if_neg hj]
   refine ⟨h1, h2, h3, λ k d'' b hk ek a ha => ?_, h5⟩
   by_cases hki : k = i
   ·subst hki
    rw [if_pos rfl]
    exact λ hG => (sh a hG).2 j d' e ha
   ·rw [Zg (Ne.symm hki)] at ek
    rw [if_neg hki]
    exact h4 k d'' b hk ek a ha
 src := λ j d' b e a ha => by
  by_cases hj : j = i
  ·subst hj
   rw [if_pos rfl] at ha
   exact (sh a ha).1
  ·rw [Zg (Ne.symm hj)] at e
   rw [if_neg hj] at ha
   exact r.src j d' b e a ha
 held := r.held
 same := r.same
theorem Qsi (r : Rel K H0 A0 hs ρ F σ H) {M : List Nat} (ow : QaN ρ M) (nd : M.Nodup) (a : Addr) : ((M.map F).flatten).count a <= 1 := by
 induction M with
 | nil => simp
 | cons i M ih =>
  rw [Zt, ZS, ZT]
  obtain ⟨h1, h2⟩ := Zam.mp nd
  have ih' := ih (λ j hj => ow j (Zc _ hj)) h2
  obtain ⟨d, e⟩ := ow i Zh
  obtain ⟨_, nd1, _, apart, _⟩ := r.own i d e
  by_cases ha : a ∈ F i
  ·have c1 : (F i).count a <= 1 := Zag.mp nd1 a
   have c2 : ((M.map F).flatten).count a = 0 := ZG.mpr λ hm => by
    obtain ⟨l, hl, hal⟩ := ZaK.mp hm
    obtain ⟨j, hj, rfl⟩ := ZH.mp hl
    obtain ⟨d', e'⟩ := ow j (Zc _ hj)
    exact apart j d' true (λ z => h1 (z ▸ hj)) e' a ha hal
   omega
  ·have : (F i).count a = 0 := ZG.mpr ha
   omega
theorem QH.fresh (r : Rel K H0 A0 hs ρ F σ H) {rr : R} {v : V} {G : List Addr} (p : QH K ρ F H H' rr v G) (hf : rr.fr = true) (nd : rr.M.Nodup) :
  G.Nodup /\ ∀ a ∈ G, H0 a = none /\ (H a = none ∨ ∃ i d, i ∈ rr.M /\ ρ[i]? = some (some (d, true)) /\ a ∈ F i) := by
 obtain ⟨c, _⟩ := p.cnt hf
 refine ⟨Zag.mpr λ a => ?_, λ a ha => ?_⟩
 ·have h1 := c a
  have h2 := Qsi r p.own nd a
  cases q : H a with
  | none => rw [QaF q, r.fl0 p.own q] at h1; omega
  | some o => rw [Qcx q] at h1; omega
 ·cases q : H a with
  | none => exact ⟨r.same.free q, .inl rfl⟩
  | some o =>
   have h1 := c a
   rw [Qcx q] at h1
   have h2 : 0 < G.count a := Zac.mpr ha
   obtain ⟨l, hl, hal⟩ := ZaK.mp (Zac.mp (by omega : 0 < ((rr.M.map F).flatten).count a))
   obtain ⟨i, hi, rfl⟩ := ZH.mp hl
   obtain ⟨d, e⟩ := p.own i hi
   exact ⟨(r.own i d e).2.2.1 a hal, .inr ⟨i, d, hi, e, hal⟩⟩
theorem Rel.Qth (r : Rel K H0 A0 hs ρ F σ H) {i : Nat} {rr : R} {v : V} {G : List Addr} (p : QH K ρ F H H' rr v G) (hf : rr.fr = true) (nd : rr.M.Nodup) :
  Rel K H0 A0 hs ((kill rr.M ρ).set i (some (rr.d, true))) (λ j => if j = i then G else F j) (σ.set i (some v)) H' := by
 have r1 := (r.ext p.same).weak (QbH rr.M ρ)
 obtain ⟨gn, gs⟩ := p.fresh r hf nd
 have gl := (p.cnt hf).2
 have apart : ∀ (j : Nat) d b, (kill rr.M ρ)[j]? = some (some (d, b)) -> ∀ a ∈ G, a ∉ F j := λ j d b e a ha hj => by
  obtain ⟨b', e', _⟩ := (QbH rr.M ρ).2 j d b e
  rcases (gs a ha).2 with q | ⟨k, d', hk, ek, hak⟩
  ·obtain ⟨vs, w⟩ := r.mem e' hj
   rw [q] at w; cases w
  ·have hjk : j ≠ k := λ z => by subst z; exact QeU rr.M ρ j d b hk e
   exact (r.own k d' ek).2.2.2.1 j d b' hjk e' a hak hj
 have apartH : ∀ t ∈ hs, ∀ a ∈ G, a ∉ t.2.2 := λ t ht a ha hj => by
  rcases (gs a ha).2 with q | ⟨k, d', hk, ek, hak⟩
  ·obtain ⟨vs, w⟩ := (r.held t ht).1.mem a hj
   rw [q] at w; cases w
  ·exact (r.own k d' ek).2.2.2.2 t ht a hak hj
 have lt : ∀ {j : Nat} {x : Option (D × Bool)} {y : D × Bool}, ((kill rr.M ρ).set j x)[j]? = some (some y) -> j < (kill rr.M ρ).length := λ {j x y} e => by
  by_cases hl : j < (kill rr.M ρ).length
  ·exact hl
  ·rw [Zz (by simp; omega)] at e; cases e
 refine ⟨by simp [r1.len], λ j d b e => ?_, λ j d e => ?_, λ j d b e a ha => ?_, r1.held, r1.same⟩
 ·by_cases hj : j = i
  ·subst hj
   have hl := lt e
   rw [Zr hl] at e
   cases e
   exact ⟨v, by rw [Zr (by rw [← r1.len]; exact hl)], by rw [if_pos rfl]; exact p.rp⟩
  ·rw [Zg (Ne.symm hj)] at e
   obtain ⟨w, h1, h2⟩ := r1.val j d b e
   exact ⟨w, by rw [Zg (Ne.symm hj)]; exact h1, by rw [if_neg hj]; exact h2⟩
 ·by_cases hj : j = i
  ·subst hj
   have hl := lt e
   rw [Zr hl] at e
   cases e
   rw [if_pos rfl]
   refine ⟨gl, gn, λ a ha => (gs a ha).1, λ k d' b hk ek a ha => ?_, apartH⟩
   rw [Zg (Ne.symm hk)] at ek
   rw [if_neg hk]
   exact apart k d' b ek a ha
  ·rw [Zg (Ne.symm hj)] at e
   obtain ⟨h1, h2, h3, h4, h5⟩ := r1.own j d e
   rw [if_neg hj]
   refine ⟨h1, h2, h3, λ k d' b hk ek a ha => ?_, h5⟩
   by_cases hki : k = i
   ·subst hki
    rw [if_pos rfl]
    exact λ hG => apart j d true e a hG ha
   ·rw [Zg (Ne.symm hki)] at ek
    rw [if_neg hki]
    exact h4 k d' b hk ek a ha
 ·by_cases hj : j = i
  ·subst hj
   rw [if_pos rfl] at ha
   exact .inl (gs a ha).1
  ·rw [Zg (Ne.symm hj)] at e
   rw [if_neg hj] at ha
   exact r1.src j d b e a ha
noncomputable def asg (i : Nat) (r : R) (ρ : En) : En :=
 if r.norm.fr && decide r.norm.M.Nodup then (kill r.norm.M ρ).set i (some (r.d, true)) else (QaL r.norm.M ρ).set i (some (r.d, r.d.flat))
theorem Rel.asg (r : Rel K H0 A0 hs ρ F σ H) {i : Nat} {rr : R} {v : V} {G : List Addr} (p : QH K ρ F H H' rr v G) : ∃ F', Rel K H0 A0 hs (asg i rr ρ) F' (σ.set i (some v)) H' := by
 have p' := p.norm
 unfold HS.asg
 split
 ·rename_i h
  simp only [Zf, decide_eq_true_eq] at h
  have := r.Qth (i := i) p' h.1 h.2
  rw [rr.Qcv] at this
  exact ⟨_, this⟩
 ·have r1 := (r.ext p'.same).weak (Qa3 rr.norm.M ρ)
  have rp := p'.rp
  rw [rr.Qcv] at rp
  have sh := Shr.of r p'.src
  exact ⟨_, r1.QkM rp sh⟩
theorem Rel.hold (r : Rel K H0 A0 hs ρ F σ H) {ts : List (V × D × List Addr)} (h : ∀ t ∈ ts, Rp K H t.2.1 t.1 t.2.2 /\ Shr H0 A0 ρ F t.2.2) : Rel K H0 A0 (ts ++ hs) ρ F σ H where
 len := r.len
 val := r.val
 own := λ i d e => by
  obtain ⟨h1, h2, h3, h4, h5⟩ := r.own i d e
  refine ⟨h1, h2, h3, h4, λ t ht a ha hm => ?_⟩
  rcases ZD.mp ht with z | z
  ·exact ((h t z).2 a hm).2 i d e ha
  ·exact h5 t z a ha hm
 src := r.src
 held := λ t ht => by
  rcases ZD.mp ht with z | z
  ·exact ⟨(h t z).1, λ a ha => ((h t z).2 a ha).1⟩
  ·exact r.held t z
 same := r.same
theorem Rel.Qjh {ts : List (V × D × List Addr)} (r : Rel K H0 A0 (ts ++ hs) ρ F σ H) : Rel K H0 A0 hs ρ F σ H where
 len := r.len
 val := r.val
 own := λ i d e => let ⟨h1, h2, h3, h4, h5⟩ := r.own i d e; ⟨h1, h2, h3, h4, λ t ht => h5 t (Ze _ ht)⟩
 src := r.src
 held := λ t ht => r.held t (Ze _ ht)
 same := r.same
end
end HS
namespace HS
open PySem PySem.Spec L2
structure Ret (K : PySem.W.Frag) (H0 : Hp) (A0 : List Addr) (d : D) (fr : Bool) (v : V) (H' : Hp) (G : List Addr) : Prop where
 same : Qq H0 H'
 rp : Rp K H' d v G
 src : ∀ a ∈ G, H0 a = none ∨ a ∈ A0
 cnt : fr = true -> G.Nodup /\ G.length = d.nl /\ ∀ a ∈ G, H0 a = none
noncomputable abbrev Den := List D -> Option (D × Bool)
noncomputable def spV (K : PySem.W.Frag) (n : Nat) (den : Den) : Sp := λ vs H Q _ => ∃ ds F d fr, Rps K H ds vs F /\ ds.length = n /\ den ds = some (d, fr) /\ ∀ v H' G, Ret K H F d fr v H' G -> Q v H'
theorem Qg6 {K : PySem.W.Frag} {n : Nat} {den : Den} {ps : List Str} (hn : ps.length = n) : ∀ vs H Q E, spV K n den vs H Q E -> vs.length = ps.length := λ vs H Q E ⟨ds, F, d, fr, r, hl, _⟩ => by rw [hn, ← hl, r.length]
noncomputable def Qi (n : Nat) (den : Den) (dfl : List D) (fs : DA) : DE := λ ρ => (fs ρ).bind λ r => if r.ds.length + dfl.length = n then (den (r.ds ++ dfl)).map λ q => if q.2 = true then ⟨q.1, true, []⟩ else R.norm ⟨q.1, false, r.M⟩ else none
section
variable {X : Cx} {e : Expr} {es : List Expr} {fs : DA} {pos p : Pos} {x : Str} {n k : Nat} {f : Addr} {fd : FuncData} {ps : List Str} {den : Den} {dfl : List D} {dvs : List V} {ds : List Value}
theorem Qe9 {σ : L2.St} {H H0 : Hp} {A0 : List Addr} {Q : VK} (hdf : ∀ H, Rps X.K H dfl dvs []) : tV X.K H0 A0 (Qi n den dfl fs) σ H Q -> QkF (spV X.K n den) dvs E0 (tVA X.K H0 A0 fs) σ H Q := λ ⟨ρ, hs, F, r, rel, e, q⟩ => by
 obtain ⟨ra, e1, e⟩ := bind1 e
 split at e
 ·rename_i hl
  obtain ⟨⟨d, fr⟩, e2, e⟩ := Zb.mp e
  refine ⟨ρ, hs, F, ra, rel, e1, λ vs H1 G p1 => ⟨ra.ds ++ dfl, G ++ [], d, fr, p1.rp.append (hdf H1), by rw [Zp]; exact hl, e2, λ v H2 G2 rt => ?_⟩⟩
  subst e
  have src : Src ρ F H ra.M G2 := λ a ha => by
   rcases rt.src a ha with z | z
   ·exact .inl (p1.same.free z)
   ·rw [Zah] at z
    exact p1.src a z
  split at q
  ·rename_i hf
   have hf : fr = true := hf
   obtain ⟨nd, hn, fresh⟩ := rt.cnt hf
   have hH : ∀ a ∈ G2, H a = none := λ a ha => p1.same.free (fresh a ha)
   refine q v H2 G2 ⟨p1.same.trans rt.same, rt.rp, λ a ha => .inl (hH a ha), λ _ => ⟨λ a => ?_, hn⟩, QaN.nil⟩
   by_cases ha : a ∈ G2
   ·rw [QaF (hH a ha)]; have := Zag.mp nd a; omega
   ·rw [ZG.mpr ha]; exact ZL _
  ·refine q v H2 G2 (QH.norm ⟨p1.same.trans rt.same, rt.rp, src, λ z => (by cases z), p1.own⟩)
 ·cases e
theorem QpX (Fk : Qbe X.prog X.w X.K X.mg X.base CX0 k f fd ps (spV X.K n den)) (hr : QW k X.A) (hg : Gl X x) (hm : X.mg x = some (.ref f)) (hk : PySem.W.keepIn X.K (.ref f) = true) (hb : Binds X.K fd ps ds) (hd : Ql dvs ds) (hdf : ∀ H, Rps X.K H dfl dvs [])
  (ha : SA X (e :: es) fs) (hdb : (x == ("__debug__" : Str)) = false) (he : starEach (e :: es) X.env = (false, eval e X.env) :: starEach es X.env) (hpl : (backTo pos (starEach es X.env)).any (·.1) = false) :
  SE X (.Call (.Name x p) (e :: es) [] pos) (Qi n den dfl fs) := λ H0 A0 =>
 (Qpe Fk hr hg hm hk hb hd QkO (ha H0 A0) hdb he hpl).mono λ σ H Q h => Qe9 hdf h
theorem Qn1 (Fk : Qbe X.prog X.w X.K X.mg X.base CX0 k f fd ps (spV X.K n den)) (hr : QW k X.A) (hg : Gl X x) (hm : X.mg x = some (.ref f)) (hk : PySem.W.keepIn X.K (.ref f) = true) (hb : Binds X.K fd ps ds) (hd : Ql dvs ds) (hdf : ∀ H, Rps X.K H dfl dvs [])
  (hdb : (x == ("__debug__" : Str)) = false) : SE X (.Call (.Name x p) [] [] pos) (Qi n den dfl Qc) := λ H0 A0 =>
 (Qm7 Fk hr hg hm hk hb hd QkO hdb).mono λ σ H Q h => by
  have h' := Qe9 (X := X) (H0 := H0) (A0 := A0) hdf h
  obtain ⟨ρ, hs, F, r, rel, e, q⟩ := h'
  cases e
  exact q [] H [] ⟨Qq.refl _, by simp [Rps], Src.nil, λ _ => ⟨Cnt.nil, rfl⟩, QaN.nil⟩
end
structure IR where
 items : List D
 M : List Nat
noncomputable abbrev DI := En -> Option IR
def Qht (K : PySem.W.Frag) (H : Hp) (ts : List (V × D × List Addr)) : Prop := ∀ t ∈ ts, Rp K H t.2.1 t.1 t.2.2
structure Walk (K : PySem.W.Frag) (J : It) (ts : List (V × D × List Addr)) (ds : List D) : Prop where
 stop : ∀ H, Qht K H ts -> J.stop ds.length H
 go : ∀ i H, i < ds.length -> Qht K H ts -> J.go i H
 yld : ∀ (i : Nat) d H x H', ds[i]? = some d -> Qht K H ts -> J.yld i H x H' -> Qq H H' /\ ∃ G, Rp K H' d x G /\ ∀ a ∈ G, ∃ t ∈ ts, a ∈ t.2.2
noncomputable def tI (K : PySem.W.Frag) (H0 : Hp) (A0 : List Addr) (f : DI) : TI := λ σ H Rr => ∃ ρ hs F ir, Rel K H0 A0 hs ρ F σ H /\ f ρ = some ir ∧
 ∀ J H1 ts, Qq H H1 -> Walk K J ts ir.items -> (∀ t ∈ ts, Rp K H1 t.2.1 t.1 t.2.2 /\ Src ρ F H ir.M t.2.2) -> QaN ρ ir.M -> ir.items.length <= sizeLine -> Rr J H1
def SI (X : Cx) (tg e : Expr) (f : DI) : Prop := ∀ H0 A0, PI X tg e (tI X.K H0 A0 f)
theorem _root_.L2.PI.mono {X : Cx} {tg e : Expr} {t t' : TI} (h : PI X tg e t) (m : ∀ σ H Q, t' σ H Q -> t σ H Q) : PI X tg e t' := λ pins s σ H Q I q => h pins s σ H Q I (m σ H Q q)
section
variable {X : Cx} {tg a b : Expr} {fa fb : DE} {fs : DA} {pos p : Pos}
theorem Rps.nth {K : PySem.W.Frag} {H : Hp} {ds : List D} {vs : List V} {F : List Addr} {i : Nat} {d : D} (h : Rps K H ds vs F) (e : ds[i]? = some d) : ∃ v G, vs[i]? = some v /\ Rp K H d v G /\ ∀ a ∈ G, a ∈ F := by
 obtain ⟨v, F1, G, F2, h1, h2, h3, _⟩ := h.get e
 exact ⟨v, G, h1, h3, λ a ha => by rw [h2]; exact Ze _ (Zd _ ha)⟩
noncomputable def QsT (K : PySem.W.Frag) (tl : TE) : TI := λ σ H Rr => tl σ H λ x H1 => (∃ a, x = .ref a /\ (∃ xs, SqL K H1 a xs) /\ Rr (Itl K a) H1) ∨ (∃ a, x = .ref a /\ (∃ xs, SqT K H1 a xs) /\ Rr (Itt K a) H1)
theorem Qqf {l : Expr} {tl : TE} (hl : PE X l tl) : PI X tg l (QsT X.K tl) := by
 intro pins s σ H Rr I h
 refine thn (hl pins s σ H _ I h) λ v s1 ⟨x, H1, I1, r1, q1⟩ => ?_
 rcases q1 with ⟨a, e, ⟨xs, hq⟩, q⟩ | ⟨a, e, ⟨xs, hq⟩, q⟩
 ·subst e
  cases r1
  obtain ⟨its, rv, pl, hz⟩ := I1.list hq
  refine wpAny_pyIter_list pl.isList ⟨s1.heap.objs.size, [s1.heap.objs.size], _, _, H1, rfl, I1.kept (t' := s1.toks) λ b o e => Zl _ e, QlD a _, ⟨_, Zy _ rfl, rfl, rfl⟩, λ b hb => ?_, q⟩
  have e : b = s1.heap.objs.size := by simpa using hb
  subst e
  exact I1.QjC (Zj _) (I1.hok.fresh (Zj _))
 ·subst e
  cases r1
  obtain ⟨its, rv, pl, hz⟩ := I1.tuple hq
  refine wpAny_pyIter_tuple (show s1.heap.IsTuple a its.toArray from pl) ⟨s1.heap.objs.size, [s1.heap.objs.size], _, _, H1, rfl, I1.kept (t' := s1.toks) λ b o e => Zl _ e, QkH a _, ⟨_, Zy _ rfl, rfl, rfl⟩, λ b hb => ?_, q⟩
  have e : b = s1.heap.objs.size := by simpa using hb
  subst e
  exact I1.QjC (Zj _) (I1.hok.fresh (Zj _))
noncomputable def QO (fa : DE) : DI := λ ρ => (fa ρ).bind λ r => match r.d with
 | .lst xs => some ⟨xs, r.M⟩
 | .tup xs => if xs.length <= sizeLine then some ⟨xs, r.M⟩ else none
 | _ => none
theorem Qln {K : PySem.W.Frag} {c : Addr} {ds : List D} {G : List Addr} : Walk K (Itl K c) [(.ref c, .lst ds, G)] ds where
 stop := λ H h => by
  obtain ⟨l, vs, L, e, hl, rl, zl, el⟩ := (h _ (Zw.mpr rfl)).lst_inv
  cases e
  exact ⟨vs, QI hl, by rw [rl.length]; exact Zj _⟩
 go := λ i H hi h => by
  obtain ⟨l, vs, L, e, hl, rl, zl, el⟩ := (h _ (Zw.mpr rfl)).lst_inv
  cases e
  have : i < vs.length := by rw [← rl.length]; exact hi
  exact ⟨vs, vs[i], QI hl, by simp [this]⟩
 yld := λ i d H x H' e h y => by
  obtain ⟨l, vs, L, e1, hl, rl, zl, el⟩ := (h _ (Zw.mpr rfl)).lst_inv
  cases e1
  obtain ⟨rfl, y⟩ := y
  obtain ⟨v, G', h1, h2, h3⟩ := rl.nth e
  have := y vs (QI hl)
  rw [h1] at this
  cases this
  refine ⟨Qq.refl _, G', h2, λ z hz => ⟨_, Zw.mpr rfl, ?_⟩⟩
  have := h3 z hz
  rcases el with rfl | rfl
  ·exact Zc _ this
  ·exact this
theorem QmY {K : PySem.W.Frag} {c : Addr} {ds : List D} {G : List Addr} : Walk K (Itt K c) [(.ref c, .tup ds, G)] ds where
 stop := λ H h => by
  obtain ⟨l, vs, e, hl, rl⟩ := (h _ (Zw.mpr rfl)).Qap
  cases e
  exact ⟨vs, hl, by rw [rl.length]; exact Zj _⟩
 go := λ i H hi h => by
  obtain ⟨l, vs, e, hl, rl⟩ := (h _ (Zw.mpr rfl)).Qap
  cases e
  have : i < vs.length := by rw [← rl.length]; exact hi
  exact ⟨vs, vs[i], hl, by simp [this]⟩
 yld := λ i d H x H' e h y => by
  obtain ⟨l, vs, e1, hl, rl⟩ := (h _ (Zw.mpr rfl)).Qap
  cases e1
  obtain ⟨rfl, y⟩ := y
  obtain ⟨v, G', h1, h2, h3⟩ := rl.nth e
  have := y vs hl
  rw [h1] at this
  cases this
  exact ⟨Qq.refl _, G', h2, λ z hz => ⟨_, Zw.mpr rfl, h3 z hz⟩⟩
theorem Qqg (ha : SE X a fa) : SI X tg a (QO fa) := λ H0 A0 => (Qqf (ha H0 A0)).mono λ σ H Rr ⟨ρ, hs, F, ir, rel, e, q⟩ => by
 obtain ⟨r, e1, e⟩ := bind1 e
 refine ⟨ρ, hs, F, r, rel, e1, λ v H1 G p => ?_⟩
 have rp := p.rp
 cases hr : r.d with
 | lst xs =>
  rw [hr] at e rp
  cases e
  obtain ⟨c, vs, L, rfl, hl, rl, zl, el⟩ := rp.lst_inv
  refine .inl ⟨c, rfl, ⟨vs, QI hl⟩, q _ H1 [(.ref c, .lst xs, G)] p.same Qln (λ t ht => ?_) p.own zl⟩
  rw [Zw.mp ht]
  exact ⟨rp, p.src⟩
 | tup xs =>
  rw [hr] at e rp
  dsimp only at e
  split at e
  ·rename_i hz
   cases e
   obtain ⟨c, vs, rfl, hl, rl⟩ := rp.Qap
   refine .inr ⟨c, rfl, ⟨vs, hl⟩, q _ H1 [(.ref c, .tup xs, G)] p.same QmY (λ t ht => ?_) p.own hz⟩
   rw [Zw.mp ht]
   exact ⟨rp, p.src⟩
  ·cases e
 | _ => rw [hr] at e; cases e
noncomputable def Qfa (lo : Int) (n : Nat) : List D := (List.range n).map λ (k : Nat) => .int (lo + (k : Int))
theorem QeC {lo : Int} {n : Nat} : (Qfa lo n).length = n := by simp [Qfa]
theorem Qnm {lo : Int} {n i : Nat} {d : D} (h : (Qfa lo n)[i]? = some d) : i < n /\ d = .int (lo + i) := by
 unfold Qfa at h
 rw [Zx] at h
 cases q : (List.range n)[i]? with
 | none => rw [q] at h; cases h
 | some k =>
  rw [q] at h
  obtain ⟨h1, h2⟩ := Zi.mp q
  simp at h1 h2
  subst h2
  exact ⟨h1, (Option.some.inj h).symm⟩
theorem QgD {K : PySem.W.Frag} {lo : Int} {n : Nat} : Walk K (Itr lo n) [] (Qfa lo n) where
 stop := λ H _ => by rw [QeC]; exact Zj _
 go := λ i H hi _ => by rw [QeC] at hi; exact hi
 yld := λ i d H x H' e _ y => by
  obtain ⟨h1, rfl⟩ := Qnm e
  obtain ⟨rfl, rfl⟩ := y
  exact ⟨Qq.refl _, [], .int_mk, λ z hz => by simp at hz⟩
noncomputable def QbV (fa : DE) : DI := λ ρ => (fa ρ).bind λ r => match r.d with
 | .int j => if j <= 16777216 /\ -(2 ^ 62) <= j then some ⟨Qfa 0 j.toNat, []⟩ else none
 | _ => none
noncomputable def QcE (fa fb : DE) : DI := λ ρ => (fa ρ).bind λ r => (fb ρ).bind λ r' => match r.d, r'.d with
 | .int i, .int j => if j - i <= 16777216 /\ -(2 ^ 62) <= i /\ i < 2 ^ 62 /\ -(2 ^ 62) <= j /\ j < 2 ^ 62 then some ⟨Qfa i (j - i).toNat, []⟩ else none
 | _, _ => none
theorem QfA : (sizeLine : Nat) = 16777216 := sizeLine_eq
theorem Qms (hg : Gl X "range") (hm : X.mg "range" = none) (ha : SE X a fa) (hs : starEach [a] X.env = [(false, eval a X.env)]) : SI X tg (.Call (.Name "range" p) [a] [] pos) (QbV fa) := λ H0 A0 =>
 (Qld hg hm (Qag (ha H0 A0) QbQ hs) hs).mono λ σ H Rr ⟨ρ, hs, F, ir, rel, e, q⟩ => by
  obtain ⟨r, e1, e⟩ := bind1 e
  refine ⟨ρ, hs, F, r, rel, e1, λ v H1 G pp => ?_⟩
  have rp := pp.rp
  cases hr : r.d with
  | int j =>
   rw [hr] at e rp
   dsimp only at e
   split at e
   ·rename_i hz
    cases e
    rw [rp.int_inv]
    refine ⟨j, rfl, hz.2, by omega, q _ H1 [] pp.same QgD (λ t ht => by simp at ht) QaN.nil ?_⟩
    rw [QeC, QfA]; omega
   ·cases e
  | _ => rw [hr] at e; cases e
theorem Qmb (hg : Gl X "range") (hm : X.mg "range" = none) (ha : SE X a fa) (hb : SE X b fb) (hs : starEach [a, b] X.env = [(false, eval a X.env), (false, eval b X.env)]) (hs2 : starEach [b] X.env = [(false, eval b X.env)]) :
  SI X tg (.Call (.Name "range" p) [a, b] [] pos) (QcE fa fb) := λ H0 A0 =>
 (Qmo hg hm (Qag (ha H0 A0) (Qag (hb H0 A0) QbQ hs2) (by rw [hs, hs2])) hs hs2).mono λ σ H Rr ⟨ρ, hs, F, ir, rel, e, q⟩ => by
  obtain ⟨r, e1, e⟩ := bind1 e
  obtain ⟨r', e2, e⟩ := bind1 e
  refine ⟨ρ, hs, F, r, rel, e1, λ v H1 G pp => ⟨ρ, hs, F, r', rel.ext pp.same, e2, λ v' H2 G' pp' => ?_⟩⟩
  have rp := pp.rp.same pp'.same
  have rp' := pp'.rp
  cases hr : r.d with
  | int i =>
   cases hr' : r'.d with
   | int j =>
    rw [hr, hr'] at e
    rw [hr] at rp
    rw [hr'] at rp'
    dsimp only at e
    split at e
    ·rename_i hz
     cases e
     rw [rp.int_inv, rp'.int_inv]
     refine ⟨i, j, rfl, hz.2, q _ H2 [] (pp.same.trans pp'.same) QgD (λ t ht => by simp at ht) QaN.nil ?_⟩
     rw [QeC, QfA]; omega
    ·cases e
   | _ => rw [hr, hr'] at e; cases e
  | _ => rw [hr] at e; cases e
noncomputable def Qde (ds : List D) : List D := ds.zipIdx.map λ q => .tup [.int q.2, q.1]
theorem Qe1 {ds : List D} : (Qde ds).length = ds.length := by simp [Qde]
theorem QlW {ds : List D} {i : Nat} {d : D} (h : (Qde ds)[i]? = some d) : ∃ e, ds[i]? = some e /\ d = .tup [.int i, e] := by
 unfold Qde at h
 rw [Zx, List.getElem?_zipIdx] at h
 cases q : ds[i]? with
 | none => rw [q] at h; cases h
 | some e => rw [q] at h; simp at h; exact ⟨e, rfl, h.symm⟩
theorem QlE {K : PySem.W.Frag} {c : Addr} {ds : List D} {G : List Addr} : Walk K (Ite K c) [(.ref c, .lst ds, G)] (Qde ds) where
 stop := λ H h => by
  obtain ⟨l, vs, L, e, hl, rl, zl, el⟩ := (h _ (Zw.mpr rfl)).lst_inv
  cases e
  exact ⟨vs, QI hl, by rw [Qe1, rl.length]; exact Zj _⟩
 go := λ i H hi h => by
  obtain ⟨l, vs, L, e, hl, rl, zl, el⟩ := (h _ (Zw.mpr rfl)).lst_inv
  cases e
  rw [Qe1] at hi
  have : i < vs.length := by rw [← rl.length]; exact hi
  exact ⟨vs, vs[i], QI hl, by simp [this]⟩
 yld := λ i d H x H' e h y => by
  obtain ⟨l, vs, L, e1, hl, rl, zl, el⟩ := (h _ (Zw.mpr rfl)).lst_inv
  cases e1
  obtain ⟨d', e', rfl⟩ := QlW e
  obtain ⟨pp, u, rfl, hp, rfl, y⟩ := y
  obtain ⟨v, G', h1, h2, h3⟩ := rl.nth e'
  have := y vs (QI hl)
  rw [h1] at this
  cases this
  have s := QbM (o := .tup [.int i, u]) hp
  refine ⟨s, G', Rp.Qjy Q4 ?_, λ z hz => ⟨_, Zw.mpr rfl, ?_⟩⟩
  ·simp only [Rps]
   exact ⟨.int i, [u], [], G', rfl, rfl, .int_mk, u, [], G', [], rfl, by simp, h2.same s, rfl, rfl⟩
  ·have := h3 z hz
   rcases el with rfl | rfl
   ·exact Zc _ this
   ·exact this
noncomputable def Qgh (fa : DE) : DI := λ ρ => (fa ρ).bind λ r => match r.d with
 | .lst xs => some ⟨Qde xs, r.M⟩
 | _ => none
theorem Qpu {es : List Expr} {tk : Nat} {tpos : Pos} (hg : Gl X "enumerate") (hm : X.mg "enumerate" = none) (ha : SE X a fa) (hs : starEach [a] X.env = [(false, eval a X.env)]) : SI X (.Tuple es tk tpos) (.Call (.Name "enumerate" p) [a] [] pos) (Qgh fa) := λ H0 A0 =>
 (QpI hg hm (Qag (ha H0 A0) QbQ hs) hs).mono λ σ H Rr ⟨ρ, hs, F, ir, rel, e, q⟩ => by
  obtain ⟨r, e1, e⟩ := bind1 e
  refine ⟨ρ, hs, F, r, rel, e1, λ v H1 G pp => ?_⟩
  have rp := pp.rp
  cases hr : r.d with
  | lst xs =>
   rw [hr] at e rp
   cases e
   obtain ⟨c, vs, L, rfl, hl, rl, zl, el⟩ := rp.lst_inv
   refine ⟨c, rfl, ⟨vs, QI hl⟩, q _ H1 [(.ref c, .lst xs, G)] pp.same QlE (λ t ht => ?_) pp.own (by rw [Qe1]; exact zl)⟩
   rw [Zw.mp ht]
   exact ⟨rp, pp.src⟩
  | _ => rw [hr] at e; cases e
noncomputable def Qfq (xs ys : List D) : List D := (xs.zip ys).map λ q => .tup [q.1, q.2]
theorem Qgb {xs ys : List D} : (Qfq xs ys).length = min xs.length ys.length := by simp [Qfq]
theorem Qm8 {xs ys : List D} {i : Nat} {d : D} (h : (Qfq xs ys)[i]? = some d) : ∃ e f, xs[i]? = some e /\ ys[i]? = some f /\ d = .tup [e, f] := by
 unfold Qfq at h
 rw [Zx] at h
 cases q : (xs.zip ys)[i]? with
 | none => rw [q] at h; cases h
 | some e =>
  rw [q] at h
  obtain ⟨h1, h2⟩ := List.getElem?_zip_eq_some.mp q
  exact ⟨e.1, e.2, h1, h2, (Option.some.inj h).symm⟩
theorem QmJ {K : PySem.W.Frag} {c c' : Addr} {xs ys : List D} {G G' : List Addr} : Walk K (Itz K c c') [(.ref c, .lst xs, G), (.ref c', .lst ys, G')] (Qfq xs ys) where
 stop := λ H h => by
  obtain ⟨l, vs, L, e, hl, rl, zl, el⟩ := (h _ (Zh)).lst_inv
  obtain ⟨l', vs', L', e', hl', rl', zl', el'⟩ := (h _ (Zc _ Zh)).lst_inv
  cases e
  cases e'
  refine ⟨vs, vs', QI hl, QI hl', ?_⟩
  rw [Qgb, ← rl.length, ← rl'.length]; omega
 go := λ i H hi h => by
  obtain ⟨l, vs, L, e, hl, rl, zl, el⟩ := (h _ (Zh)).lst_inv
  obtain ⟨l', vs', L', e', hl', rl', zl', el'⟩ := (h _ (Zc _ Zh)).lst_inv
  cases e
  cases e'
  rw [Qgb] at hi
  have h1 : i < vs.length := by rw [← rl.length]; omega
  have h2 : i < vs'.length := by rw [← rl'.length]; omega
  exact ⟨vs, vs', vs[i], vs'[i], QI hl, QI hl', by simp [h1], by simp [h2]⟩
 yld := λ i d H x H' e h y => by
  obtain ⟨l, vs, L, e1, hl, rl, zl, el⟩ := (h _ (Zh)).lst_inv
  obtain ⟨l', vs', L', e1', hl', rl', zl', el'⟩ := (h _ (Zc _ Zh)).lst_inv
  cases e1
  cases e1'
  obtain ⟨d1, d2, ea, eb, rfl⟩ := Qm8 e
  obtain ⟨pp, u, u', rfl, hp, rfl, y, y'⟩ := y
  obtain ⟨v, G1, h1, h2, h3⟩ := rl.nth ea
  obtain ⟨v', G2, h1', h2', h3'⟩ := rl'.nth eb
  have := y vs (QI hl)
  rw [h1] at this
  cases this
  have := y' vs' (QI hl')
  rw [h1'] at this
  cases this
  have s := QbM (o := .tup [u, u']) hp
  refine ⟨s, G1 ++ G2, Rp.Qjy Q4 ?_, λ z hz => ?_⟩
  ·simp only [Rps]
   exact ⟨u, [u'], G1, G2, rfl, rfl, h2.same s, u', [], G2, [], rfl, by simp, h2'.same s, rfl, rfl⟩
  ·rcases ZD.mp hz with hz | hz
   ·refine ⟨_, Zh, ?_⟩
    have := h3 z hz
    rcases el with rfl | rfl
    ·exact Zc _ this
    ·exact this
   ·refine ⟨_, Zc _ Zh, ?_⟩
    have := h3' z hz
    rcases el' with rfl | rfl
    ·exact Zc _ this
    ·exact this
noncomputable def QeB (fa fb : DE) : DI := λ ρ => (fa ρ).bind λ r => (fb ρ).bind λ r' => match r.d, r'.d with
 | .lst xs, .lst ys => some ⟨Qfq xs ys, r.M ++ r'.M⟩
 | _, _ => none
theorem Qrm {es : List Expr} {tk : Nat} {tpos : Pos} (hg : Gl X "zip") (hm : X.mg "zip" = none) (ha : SE X a fa) (hb : SE X b fb) (hs : starEach [a, b] X.env = [(false, eval a X.env), (false, eval b X.env)]) (hs2 : starEach [b] X.env = [(false, eval b X.env)]) :
  SI X (.Tuple es tk tpos) (.Call (.Name "zip" p) [a, b] [] pos) (QeB fa fb) := λ H0 A0 =>
 (QrC hg hm (Qag (ha H0 A0) (Qag (hb H0 A0) QbQ hs2) (by rw [hs, hs2])) hs hs2).mono λ σ H Rr ⟨ρ, hs, F, ir, rel, e, q⟩ => by
  obtain ⟨r, e1, e⟩ := bind1 e
  obtain ⟨r', e2, e⟩ := bind1 e
  refine ⟨ρ, hs, F, r, rel, e1, λ v H1 G pp => ⟨ρ, hs, F, r', rel.ext pp.same, e2, λ v' H2 G' pp' => ?_⟩⟩
  have rp := pp.rp.same pp'.same
  have rp' := pp'.rp
  cases hr : r.d with
  | lst xs =>
   cases hr' : r'.d with
   | lst ys =>
    rw [hr, hr'] at e
    rw [hr] at rp
    rw [hr'] at rp'
    cases e
    obtain ⟨c, vs, L, rfl, hl, rl, zl, el⟩ := rp.lst_inv
    obtain ⟨c', vs', L', rfl, hl', rl', zl', el'⟩ := rp'.lst_inv
    refine ⟨c, c', rfl, ⟨vs, QI hl⟩, ⟨vs', QI hl'⟩, q _ H2 [(.ref c, .lst xs, G), (.ref c', .lst ys, G')] (pp.same.trans pp'.same) QmJ (λ t ht => ?_) (pp.own.append pp'.own) (by rw [Qgb]; omega)⟩
    have sa := pp.src.append pp'.src pp.same
    rcases Zm.mp ht with rfl | ht
    ·exact ⟨rp, λ z hz => sa z (Zd _ hz)⟩
    ·rw [Zw.mp ht]
     exact ⟨rp', λ z hz => sa z (Ze _ hz)⟩
   | _ => rw [hr, hr'] at e; cases e
  | _ => rw [hr] at e; cases e
end
end HS
namespace HS
open PySem L2
section
variable {X : Cx} {a b c : Expr} {fa fb fc : DE} {pos p : Pos}
end
end HS
namespace HS
open PySem PySem.Spec L2
inductive Tg where
 | nm (i : Nat)
 | tp (is : List Nat)
noncomputable def Tg.slots : Tg -> List Nat
 | .nm i => [i]
 | .tp is => is
noncomputable def Qdm : List Nat -> List D -> En -> En
 | i :: is, d :: ds, ρ => Qdm is ds (ρ.set i (some (d, d.flat)))
 | _, _, ρ => ρ
noncomputable def QaQ : Tg -> D -> En -> Option En
 | .nm i, d, ρ => some (ρ.set i (some (d, d.flat)))
 | .tp is, .tup xs, ρ => if xs.length = is.length then some (Qdm is xs ρ) else none
 | .tp _, _, _ => none
noncomputable def tG (K : PySem.W.Frag) (H0 : Hp) (A0 : List Addr) (t : Tg) : TG := λ v σ H Q => ∃ ρ hs F d G ρ', Rel K H0 A0 hs ρ F σ H /\ Rp K H d v G /\ Shr H0 A0 ρ F G /\ QaQ t d ρ = some ρ' ∧
 ∀ σ' F', Rel K H0 A0 hs ρ' F' σ' H -> (∀ j, j ∉ t.slots -> σ'[j]? = σ[j]?) -> (∀ j a, a ∈ F' j -> a ∈ F j ∨ a ∈ G) -> Q σ' H
def SG (X : Cx) (tg : Expr) (t : Tg) : Prop := ∀ H0 A0, PG X tg (tG X.K H0 A0 t)
theorem _root_.L2.PG.mono {X : Cx} {tg : Expr} {t t' : TG} (h : PG X tg t) (m : ∀ v σ H Q, t' v σ H Q -> t v σ H Q) : PG X tg t' := λ pins s σ H v u Q I r q => h pins s σ H v u Q I r (m v σ H Q q)
noncomputable def QgC : List Nat -> TGs
 | [] => QrK
 | i :: is => Qoi (Qfw i) (QgC is)
theorem Shr.set {H0 : Hp} {A0 : List Addr} {ρ : En} {F : Nat -> List Addr} {G G1 : List Addr} {i : Nat} {d : D} (h : Shr H0 A0 ρ F G) (hf : d.flat = true -> G1 = []) : Shr H0 A0 (ρ.set i (some (d, d.flat))) (λ j => if j = i then G1 else F j) G := λ a ha => by
 refine ⟨(h a ha).1, λ j d' e => ?_⟩
 by_cases hj : j = i
 ·subst hj
  show ¬ a ∈ (if j = j then G1 else F j)
  rw [if_pos rfl]
  have hl : j < ρ.length := by
   by_cases hl : j < ρ.length
   ·exact hl
   ·rw [Zz (by simp; omega)] at e; cases e
  rw [Zr hl] at e
  have e1 := Option.some.inj (Option.some.inj e)
  rw [hf (congrArg Prod.snd e1)]
  simp
 ·rw [Zg (Ne.symm hj)] at e
  show ¬ a ∈ (if j = i then G1 else F j)
  rw [if_neg hj]
  exact (h a ha).2 j d' e
theorem Qir {K : PySem.W.Frag} {H0 : Hp} {A0 : List Addr} {hs : List (V × D × List Addr)} : ∀ (is : List Nat) (ds : List D) (vs : List V) (ρ : En) (F : Nat -> List Addr) (σ : L2.St) (H : Hp) (G : List Addr) (Q : L2.St -> Hp -> Prop),
  Rel K H0 A0 hs ρ F σ H -> Rps K H ds vs G -> Shr H0 A0 ρ F G -> ds.length = is.length →
  (∀ σ' F', Rel K H0 A0 hs (Qdm is ds ρ) F' σ' H -> (∀ j, j ∉ is -> σ'[j]? = σ[j]?) -> (∀ j a, a ∈ F' j -> a ∈ F j ∨ a ∈ G) -> Q σ' H) -> QgC is vs σ H Q
 | [], ds, vs, ρ, F, σ, H, G, Q, rel, rp, sh, hl, q => by
  have : ds = [] := by simpa using hl
  subst this
  simp only [Rps] at rp
  exact ⟨rp.1, q σ F rel (λ _ _ => rfl) λ _ _ h => .inl h⟩
 | i :: is, [], vs, ρ, F, σ, H, G, Q, rel, rp, sh, hl, q => by simp at hl
 | i :: is, d :: ds, vs, ρ, F, σ, H, G, Q, rel, rp, sh, hl, q => by
  simp only [Rps] at rp
  obtain ⟨v, ws, G1, G2, rfl, rfl, r1, r2⟩ := rp
  refine ⟨v, ws, rfl, ?_⟩
  have sh1 : Shr H0 A0 ρ F G1 := λ a ha => sh a (Zd _ ha)
  have sh2 : Shr H0 A0 ρ F G2 := λ a ha => sh a (Ze _ ha)
  refine Qir is ds ws _ _ _ H G2 Q (rel.QkM (i := i) r1 sh1) r2 (sh2.set r1.QbC) (by simpa using hl) λ σ' F' rel' k m => q σ' F' rel' (λ j hj => ?_) λ j a ha => ?_
  ·have h1 : j ≠ i := λ z => hj (by rw [z]; exact Zh)
   rw [k j λ z => hj (Zc _ z), Zg (Ne.symm h1)]
  ·rcases m j a ha with z | z
   ·by_cases hj : j = i
    ·rw [if_pos hj] at z; exact .inr (Zd _ z)
    ·rw [if_neg hj] at z; exact .inl z
   ·exact .inr (Ze _ z)
section
variable {X : Cx} {tg : Expr} {pos : Pos}
theorem Qo7 {i : Nat} {x : Str} (h : PG X (.Name x pos) (Qfw i)) : SG X (.Name x pos) (.nm i) := λ H0 A0 => h.mono λ v σ H Q ⟨ρ, hs, F, d, G, ρ', rel, rp, sh, e, q⟩ => by
 cases e
 refine q _ _ (rel.QkM (i := i) rp sh) (λ j hj => ?_) λ j a ha => ?_
 ·have : j ≠ i := λ z => hj (by simp [Tg.slots, z])
  rw [Zg (Ne.symm this)]
 ·by_cases hj : j = i
  ·rw [if_pos hj] at ha; exact .inr ha
  ·rw [if_neg hj] at ha; exact .inl ha
theorem QqM {es : List Expr} {k : Nat} {is : List Nat} (hc : X.calm = true) (h : PGs X es (QgC is)) (hn : (assignEach es X.env).length = is.length) (hst : (assignEach es X.env).findIdx? (·.1) = none) : SG X (.Tuple es k pos) (.tp is) := λ H0 A0 =>
 (Qqi hc h hn hst).mono λ v σ H Q ⟨ρ, hs, F, d, G, ρ', rel, rp, sh, e, q⟩ => by
  cases d with
  | tup xs =>
   simp only [QaQ] at e
   split at e
   ·rename_i hl
    cases e
    obtain ⟨a, vs, rfl, hq, rs⟩ := rp.Qap
    exact ⟨a, vs, rfl, hq, by rw [← rs.length]; exact hl, Qir is xs vs ρ F σ H G Q rel rs sh hl q⟩
   ·cases e
  | _ => simp only [QaQ] at e; cases e
end
noncomputable def Qdd (cap : List (Option Nat)) (ρ : En) : En := cap.map λ o => o.bind λ i => match ρ[i]? with
 | some (some (d, _)) => some (d, d.flat)
 | _ => none
noncomputable def Qk2 (cap : List (Option Nat)) (ρ : En) : List Nat := cap.filterMap λ o => o.bind λ i => match ρ[i]? with
 | some (some (d, b)) => if b && !d.flat then some i else none
 | _ => none
noncomputable def QdG (t : Tg) (ft : DT) (fe : DE) (ρc : En) (acc : List D × Bool) (d : D) : Option (List D × Bool) :=
 (QaQ t d ρc).bind λ ρ1 => (ft ρ1).bind λ c => if c = true then (fe ρ1).map λ r => (acc.1 ++ [r.d], acc.2 && r.norm.fr) else some acc
noncomputable def Q2 (fi : DI) (t : Tg) (cap : List (Option Nat)) (ft : DT) (fe : DE) : DE := λ ρ => (fi ρ).bind λ ir =>
 (ir.items.foldlM (QdG t ft fe (Qdd cap ρ)) ([], true)).map λ q => if q.2 = true then ⟨.lst q.1, true, []⟩ else ⟨.lst q.1, false, ir.M ++ Qk2 cap ρ⟩
def QbT (ρ : En) : Prop := ∀ (j : Nat) d, ρ[j]? = some (some (d, true)) -> d.flat = true
theorem QbT.set {ρ : En} (h : QbT ρ) (i : Nat) (d : D) : QbT (ρ.set i (some (d, d.flat))) := λ j d' e => by
 by_cases hj : j = i
 ·subst hj
  have hl : j < ρ.length := by
   by_cases hl : j < ρ.length
   ·exact hl
   ·rw [Zz (by simp; omega)] at e; cases e
  rw [Zr hl] at e
  have e1 := Option.some.inj (Option.some.inj e)
  have h1 : d = d' := congrArg Prod.fst e1
  have h2 : d.flat = true := congrArg Prod.snd e1
  rw [← h1]; exact h2
 ·rw [Zg (Ne.symm hj)] at e
  exact h j d' e
theorem QbT.Qdm : ∀ (is : List Nat) (ds : List D) {ρ : En}, QbT ρ -> QbT (Qdm is ds ρ)
 | [], _, _, h => h
 | _ :: _, [], _, h => h
 | i :: is, d :: ds, _, h => QbT.Qdm is ds (h.set i d)
theorem QbT.bind {t : Tg} {d : D} {ρ ρ' : En} (h : QbT ρ) (e : QaQ t d ρ = some ρ') : QbT ρ' := by
 cases t with
 | nm i => cases e; exact h.set i d
 | tp is =>
  cases d with
  | tup xs =>
   simp only [QaQ] at e
   split at e
   ·cases e; exact h.Qdm is xs
   ·cases e
  | _ => simp only [QaQ] at e; cases e
theorem Qf5 (cap : List (Option Nat)) (ρ : En) : QbT (Qdd cap ρ) := λ j d e => by
 unfold Qdd at e
 rw [Zx] at e
 cases q : cap[j]? with
 | none => rw [q] at e; cases e
 | some o =>
  rw [q] at e
  cases o with
  | none => cases e
  | some i =>
   simp only [ZP, Za, Option.some.injEq] at e
   split at e
   ·have e1 := Option.some.inj e
    have h1 := congrArg Prod.fst e1
    have h2 := congrArg Prod.snd e1
    dsimp only at h1 h2
    rw [← h1]; exact h2
   ·cases e
theorem QhU {cap : List (Option Nat)} {ρ : En} {j : Nat} {d : D} {b : Bool} (e : (Qdd cap ρ)[j]? = some (some (d, b))) : ∃ i b', cap[j]? = some (some i) /\ ρ[i]? = some (some (d, b')) := by
 unfold Qdd at e
 rw [Zx] at e
 cases q : cap[j]? with
 | none => rw [q] at e; cases e
 | some o =>
  rw [q] at e
  cases o with
  | none => cases e
  | some i =>
   simp only [ZP, Za, Option.some.injEq] at e
   split at e
   ·rename_i d' b' hi
    have e1 := Option.some.inj e
    have h1 : d' = d := congrArg Prod.fst e1
    subst h1
    exact ⟨i, b', rfl, hi⟩
   ·cases e
def Qi6 (X : Cx) (ifs : List Expr) (f : DT) : Prop := ∀ H0 A0, PTs X ifs (tVT X.K H0 A0 f)
noncomputable def Qca : DT := λ _ => some true
theorem Qnt {X : Cx} : Qi6 X [] Qca := λ H0 A0 pins s σ H Q I ⟨ρ, hs, F, b, rel, e, q⟩ => by
 cases e
 exact Qpr pins s σ H Q I (q H (Qq.refl _))
theorem QnE {X : Cx} {c : Expr} {f : DT} (h : ST X c f) : Qi6 X [c] f := λ H0 A0 => Qpn (h H0 A0)
structure Qio (X : Cx) (N' : List Str) (scope : Scope) (cap : List (Option Nat)) (tgs : List Nat) : Prop where
 len : cap.length = N'.length
 get : ∀ (j i : Nat), cap[j]? = some (some i) -> ∃ x, N'[j]? = some x /\ scope.names.lookup x = some .free /\ X.N[i]? = some x /\ (X.env.kindOf x = some .cell ∨ X.env.kindOf x = some .free)
 apart : ∀ (j i : Nat), cap[j]? = some (some i) -> j ∉ tgs
theorem join_some {α : Type} {o : Option (Option α)} {v : α} (h : o.join = some v) : o = some (some v) := by
 cases o with
 | none => cases h
 | some p => cases p with
  | none => cases h
  | some x => exact h ▸ rfl
theorem QhN {X : Cx} {N' : List Str} {scope : Scope} {fi : DI} {t : Tg} {cap : List (Option Nat)} {ft : DT} {fe : DE} {H0 : Hp} {A0 : List Addr} {σ : L2.St} {H : Hp} {Q : VK} (hc : Qio X N' scope cap t.slots) :
  tV X.K H0 A0 (Q2 fi t cap ft fe) σ H Q -> Qin (tI X.K H0 A0 fi) (Qgz X N' scope) (tG X.K (λ _ => none) [] t) (tVT X.K (λ _ => none) [] ft) (tV X.K (λ _ => none) [] fe) σ H Q := λ ⟨ρ, hs, F, r, rel, e, q⟩ => by
 obtain ⟨ir, e1, e⟩ := bind1 e
 obtain ⟨⟨xs, f⟩, ef, e⟩ := Zb.mp e
 subst e
 refine ⟨ρ, hs, F, ir, rel, e1, λ J H1 ts s1 wk hts ow hz => ?_⟩
 refine ⟨cap.map λ o => o.bind λ i => σ[i]?.join, ⟨by simp [hc.len], λ j x v hN hv => ?_⟩, λ Dl hD => ?_⟩
 ·rw [Zx] at hv
  cases qc : cap[j]? with
  | none => rw [qc] at hv; cases hv
  | some o =>
   rw [qc] at hv
   cases o with
   | none => cases hv
   | some i =>
    simp only [ZP, Za, Option.some.injEq] at hv
    obtain ⟨y, h1, h2, h3, h4⟩ := hc.get j i qc
    rw [hN] at h1; cases h1
    exact ⟨h2, i, h3, join_some hv, h4⟩
 generalize hσc : (cap.map λ o => o.bind λ i => σ[i]?.join) = σc
 generalize hρc : Qdd cap ρ = ρc at ef
 have hF0 : ∃ Fc : Nat -> List Addr, Fc = λ j => match cap[j]? with
  | some (some i) => (match ρ[i]? with
   | some (some _) => F i
   | _ => [])
  | _ => [] := ⟨_, rfl⟩
 obtain ⟨Fc, hFc⟩ := hF0
 have rel1 := rel.ext s1
 have relC : ∀ H2, Qq H1 H2 -> Rel X.K (λ _ => none) [] [] ρc Fc σc H2 := λ H2 s2 => by
  refine ⟨by rw [← hρc, ← hσc]; simp [Qdd], λ j d b e => ?_, λ j d e => ?_, λ j d b e a ha => .inl rfl, λ t ht => (by simp at ht), λ b o z => (by cases z)⟩
  ·rw [← hρc] at e
   obtain ⟨i, b', h1, h2⟩ := QhU e
   obtain ⟨v, h3, h4⟩ := (rel1.ext s2).val i d b' h2
   refine ⟨v, ?_, ?_⟩
   ·rw [← hσc, Zx, h1]
    simp only [ZP, Za, h3, Option.join_some]
   ·rw [hFc]; simp only [h1, h2]; exact h4
  ·have hf : d.flat = true := Qf5 cap ρ j d (by rw [hρc]; exact e)
   have : Fc j = [] := by
    rw [← hρc] at e
    obtain ⟨i, b', h1, h2⟩ := QhU e
    obtain ⟨v, h3, h4⟩ := rel1.val i d b' h2
    rw [hFc]; simp only [h1, h2]; exact h4.QbC hf
   rw [this]
   exact ⟨(QcK d hf).symm, Zaf, λ a ha => (by simp at ha), λ _ _ _ _ _ a ha => (by simp at ha), λ t ht => (by simp at ht)⟩
 have shC : ∀ G, Shr (λ _ => none) [] ρc Fc G := λ G a ha => ⟨.inl rfl, λ j d e hj => by
  have h0 := (relC H1 (Qq.refl _)).own j d e
  have hf : d.flat = true := Qf5 cap ρ j d (by rw [hρc]; exact e)
  have : (Fc j).length = 0 := by rw [h0.1, QcK d hf]
  rw [ZU this] at hj
  simp at hj⟩
 have hSh : QbT ρc := by rw [← hρc]; exact Qf5 cap ρ
 have heldOf : ∀ H2, Qq H1 H2 -> Qht X.K H2 ts := λ H2 s2 t ht => (hts t ht).1.same s2
 have oldOf : ∀ a, ((∃ t ∈ ts, a ∈ t.2.2) ∨ ∃ j, a ∈ Fc j) -> (∃ vs, H1 a = some (.lst vs)) /\ (H a = none ∨ ∃ (i : Nat) (d : D) (b : Bool), ρ[i]? = some (some (d, b)) /\ a ∈ F i /\ (b = true -> i ∈ ir.M ++ Qk2 cap ρ)) := λ a ha => by
  rcases ha with ⟨t, ht, ha⟩ | ⟨j, ha⟩
  ·refine ⟨(hts t ht).1.mem a ha, ?_⟩
   rcases (hts t ht).2 a ha with z | ⟨i, d, b, e, m, w⟩
   ·exact .inl z
   ·exact .inr ⟨i, d, b, e, m, λ hb => Zd _ (w hb)⟩
  ·have ha0 := ha
   rw [hFc] at ha
   dsimp only at ha
   split at ha
   ·rename_i i hi
    split at ha
    ·rename_i db hdb
     obtain ⟨d, b⟩ := db
     obtain ⟨v, h3, h4⟩ := rel1.val i d b hdb
     refine ⟨h4.mem a ha, .inr ⟨i, d, b, hdb, ha, λ hb => Ze _ ?_⟩⟩
     unfold Qk2
     refine Zau.mpr ⟨some i, Zap hi, ?_⟩
     simp only [Za, hdb]
     have hnf : d.flat = false := by
      cases hf : d.flat with
      | false => rfl
      | true => rw [h4.QbC hf] at ha; simp at ha
     rw [hb, hnf]; rfl
    ·simp at ha
   ·simp at ha
 have fresh5 : ∀ H2, Qq H1 H2 -> ∀ a, H2 a = none -> H1 a = none := λ H2 s2 a h => s2.free h
 refine ⟨λ i m acc H2 => m = ir.items.length - i /\ i <= ir.items.length /\ Qq H1 H2 /\ H2 Dl = some (.lst acc) /\ ∃ (ys : List D) (g : Bool) (G : List Addr), (ir.items.drop i).foldlM (QdG t ft fe ρc) (ys, g) = some (xs, f) /\ Rps X.K H2 ys acc G /\ ys.length <= i ∧
  (∀ a ∈ G, a ≠ Dl /\ (H1 a = none ∨ (∃ t ∈ ts, a ∈ t.2.2) ∨ ∃ j, a ∈ Fc j)) /\ (g = true -> G.length = nls ys /\ ∀ a, G.count a <= nw H1 a), ⟨ir.items.length, rfl, ZL _, QbM hD, Q4, [], true, [], by simpa using ef, by simp [Rps], Zj _, λ a ha => (by simp at ha), λ _ => ⟨rfl, λ a => by simp⟩⟩, ?_⟩
 rintro i m acc H2 ⟨rfl, hi, s2, eD, ys, g, G, hfold, rps, hlen, hG, hcnt⟩
 by_cases hlt : i < ir.items.length
 ·refine .inr ⟨wk.go i H2 hlt (heldOf H2 s2), λ x H3 hy => ?_⟩
  obtain ⟨s3, G0, rp0, hG0⟩ := wk.yld i ir.items[i] H2 x H3 (by simp [hlt]) (heldOf H2 s2) hy
  rw [ZI hlt, Zbb] at hfold
  obtain ⟨acc1, hstep, hrest⟩ := bind1 hfold
  unfold QdG at hstep
  obtain ⟨ρ1, eb, hstep⟩ := bind1 hstep
  obtain ⟨c, ec, hstep⟩ := bind1 hstep
  have sh1 : QbT ρ1 := hSh.bind eb
  refine ⟨ρc, [], Fc, ir.items[i], G0, ρ1, relC H3 (s2.trans s3), rp0, shC G0, eb, λ σ2 F2 rel2 keep mem2 => ⟨λ j v hv => ?_, ρ1, [], F2, c, rel2, ec, λ H5 s5 => ?_⟩⟩
  ·have hj : j ∉ t.slots := λ hj => by
    rw [← hσc, Zx] at hv
    cases qc : cap[j]? with
    | none => rw [qc] at hv; cases hv
    | some o =>
     cases o with
     | none => rw [qc] at hv; cases hv
     | some k => exact hc.apart j k qc hj
   rw [keep j hj]; exact hv
  have s15 : Qq H1 H5 := (s2.trans s3).trans s5
  have eD5 : H5 Dl = some (.lst acc) := s5 _ _ (s3 _ _ eD)
  cases c with
  | false =>
   rw [if_neg ZO] at hstep
   refine Qm0 ?_
   cases hstep
   exact ⟨_, by omega, rfl, hlt, s15, eD5, ys, g, G, hrest, rps.same (s3.trans s5), by omega, hG, hcnt⟩
  | true =>
   rw [if_pos rfl] at hstep
   refine QnY ?_
   obtain ⟨rr, er, hstep⟩ := Zb.mp hstep
   subst hstep
   refine ⟨ρ1, [], F2, rr, rel2.ext s5, er, λ y H6 Ge pe => ?_⟩
   have eD6 : H6 Dl = some (.lst acc) := pe.same _ _ eD5
   have s16 := s15.trans pe.same
   refine ⟨eD6, ?_, _, by omega, rfl, hlt, ?_⟩
   ·rw [← rps.length]; exact Nat.lt_of_le_of_lt hlen (Zo hlt hz)
   have hGe : ∀ a ∈ Ge, a ≠ Dl /\ (H1 a = none ∨ (∃ t ∈ ts, a ∈ t.2.2) ∨ ∃ j, a ∈ Fc j) := λ a ha => by
    rcases pe.src a ha with z | ⟨j, d, b, ej, hj, _⟩
    ·exact ⟨λ w => (by rw [w, eD5] at z; cases z), .inl (s15.free z)⟩
    ·have h1 : (∃ t ∈ ts, a ∈ t.2.2) ∨ ∃ j, a ∈ Fc j := by
      rcases mem2 j a hj with w | w
      ·exact .inr ⟨j, w⟩
      ·exact .inl (hG0 a w)
     obtain ⟨⟨vs, w⟩, _⟩ := oldOf a h1
     exact ⟨λ w' => (by rw [w', hD] at w; cases w), .inr h1⟩
   have nD : Dl ∉ G := λ h => (hG _ h).1 rfl
   have nDe : Dl ∉ Ge := λ h => (hGe _ h).1 rfl
   have sU : Qq H1 (L2.upd H6 Dl (.lst (acc ++ [y]))) := λ b o hb => by rw [Qr (Qa0 hb hD)]; exact s16 b o hb
   refine ⟨sU, Q4, ys ++ [rr.d], g && rr.norm.fr, G ++ Ge, hrest, ?_, by rw [Zp, ZaH]; omega, λ a ha => ?_, λ hg => ?_⟩
   ·refine Rps.append ((rps.same ((s3.trans s5).trans pe.same)).upd eD6 nD) ?_
    simp only [Rps]
    exact ⟨y, [], Ge, [], rfl, by simp, pe.rp.upd eD6 nDe, rfl, rfl⟩
   ·rcases ZD.mp ha with h | h
    ·exact hG a h
    ·exact hGe a h
   ·simp only [Zf] at hg
    obtain ⟨l1, c1⟩ := hcnt hg.1
    have pn := pe.norm
    obtain ⟨c2, l2⟩ := pn.cnt hg.2
    rw [rr.Qcv] at l2
    have nlapp : ∀ (as bs : List D), nls (as ++ bs) = nls as + nls bs := λ as bs => by
     induction as with
     | nil => simp [nls]
     | cons a as ih => simp only [ZaJ, nls, ih]; omega
    refine ⟨by rw [Zp, l1, l2, nlapp]; simp [nls], λ a => ?_⟩
    have fl : ((rr.norm.M.map F2).flatten).count a = 0 := by
     rw [ZG]
     intro hm
     obtain ⟨l, hl, hal⟩ := ZaK.mp hm
     obtain ⟨j, hj, rfl⟩ := ZH.mp hl
     obtain ⟨d, ej⟩ := pn.own j hj
     have hf := sh1 j d ej
     obtain ⟨v, _, rv⟩ := rel2.val j d true ej
     rw [rv.QbC hf] at hal
     simp at hal
    have h1 := c1 a
    have h2 := c2 a
    rw [fl] at h2
    rw [ZT]
    cases q5 : H5 a with
    | some o => rw [Qcx q5] at h2; omega
    | none =>
     rw [QaF q5] at h2
     have h0 : G.count a = 0 := ZG.mpr λ hm => by
      obtain ⟨vs, w⟩ := rps.mem a hm
      rw [s5 _ _ (s3 _ _ w)] at q5; cases q5
     rw [QaF (s15.free q5)]
     omega
 ·have hn : i = ir.items.length := by omega
  subst hn
  refine .inl ⟨wk.stop H2 (heldOf H2 s2), ?_⟩
  rw [Zbc] at hfold
  have : (ys, g) = (xs, f) := Option.some.inj hfold
  cases this
  have rp : Rp X.K H2 (.lst xs) (.ref Dl) (Dl :: G) := Rp.Qd5 eD rps (Zv hlen hz)
  have hHD : H Dl = none := s1.free hD
  split at q
  ·rename_i hg
   have hg : f = true := hg
   obtain ⟨l1, c1⟩ := hcnt hg
   have hn : ∀ a ∈ G, H1 a = none := λ a ha => by
    have := c1 a
    have h2 : 0 < G.count a := Zac.mpr ha
    cases w : H1 a with
    | none => rfl
    | some o => rw [Qcx w] at this; omega
   refine q _ H2 (Dl :: G) ⟨s1.trans s2, rp, λ a ha => ?_, λ _ => ⟨λ a => ?_, by simp only [D.nl, ZJ, l1]⟩, QaN.nil⟩
   ·rcases Zm.mp ha with rfl | h
    ·exact .inl hHD
    ·exact .inl (s1.free (hn a h))
   ·rw [Zan]
    have h1 := c1 a
    split
    ·rename_i w
     have w : Dl = a := by simpa using w
     subst w
     have h0 : G.count Dl = 0 := ZG.mpr λ h => (hG _ h).1 rfl
     rw [QaF hHD]; omega
    ·cases w : H1 a with
     | none => rw [QaF w] at h1; rw [QaF (s1.free w)]; omega
     | some o => rw [Qcx w] at h1; omega
  ·refine q _ H2 (Dl :: G) ⟨s1.trans s2, rp, λ a ha => ?_, λ z => (by cases z), ?_⟩
   ·rcases Zm.mp ha with rfl | h
    ·exact .inl hHD
    ·rcases (hG a h).2 with z | z
     ·exact .inl (s1.free z)
     ·exact (oldOf a z).2
   ·refine ow.append λ i hi => ?_
    unfold Qk2 at hi
    obtain ⟨o, _, ho⟩ := Zau.mp hi
    cases o with
    | none => cases ho
    | some k =>
     simp only [Za] at ho
     split at ho
     ·rename_i d b hk
      split at ho
      ·rename_i hb
       cases ho
       simp only [Zf] at hb
       rw [hb.1] at hk
       exact ⟨d, hk⟩
      ·cases ho
     ·cases ho
section
variable {X : Cx} {tg iter elt : Expr} {ifs : List Expr} {scope : Scope} {N' : List Str} {pos : Pos} {fi : DI} {t : Tg} {cap : List (Option Nat)} {ft : DT} {fe : DE}
theorem QpM (hcalm : X.calm = true) (S : Qc0 X N' scope) (hi : SI X tg iter fi) (hcap : Qio X N' scope cap t.slots)
  (hin : ∀ cl C fp s3 H3, SG (cxc X N' scope cl C fp s3 H3) tg t /\ Qi6 (cxc X N' scope cl C fp s3 H3) ifs ft /\ SE (cxc X N' scope cl C fp s3 H3) elt fe) (hs : ∀ x, foldedSetIterable iter X.env x = pure x) :
  SE X (.ListComp elt [⟨tg, iter, ifs, 0⟩] scope pos) (Q2 fi t cap ft fe) := λ H0 A0 =>
 (Qki hcalm S (hi H0 A0) (λ cl C fp s3 H3 => ⟨(hin cl C fp s3 H3).1 _ _, (hin cl C fp s3 H3).2.1 _ _, (hin cl C fp s3 H3).2.2 _ _⟩) hs).mono λ σ H Q h => QhN hcap h
end
end HS
namespace HS
open PySem PySem.Spec L2
inductive Out where
 | nx (ρ : En)
 | bk (ρ : En)
 | ct (ρ : En)
 | rt (d : D) (fr : Bool)
noncomputable abbrev DS := En -> Option Out
noncomputable def Fits (K : PySem.W.Frag) (H0 : Hp) (A0 : List Addr) (hs : List (V × D × List Addr)) (E : Ends) : Out -> Prop
 | .nx ρ => ∀ σ H F, Rel K H0 A0 hs ρ F σ H -> E.nx σ H
 | .bk ρ => ∀ σ H F, Rel K H0 A0 hs ρ F σ H -> E.bk σ H
 | .ct ρ => ∀ σ H F, Rel K H0 A0 hs ρ F σ H -> E.ct σ H
 | .rt d fr => ∀ v H G, Ret K H0 A0 d fr v H G -> E.rt v H
noncomputable def tS (K : PySem.W.Frag) (H0 : Hp) (A0 : List Addr) (f : DS) : TS := λ E σ H => ∃ ρ hs F o, Rel K H0 A0 hs ρ F σ H /\ f ρ = some o /\ Fits K H0 A0 hs E o
def S1 (X : Cx) (st : Stmt) (f : DS) : Prop := ∀ H0 A0, PS X st (tS X.K H0 A0 f)
def SS (X : Cx) (sts : List Stmt) (f : DS) : Prop := ∀ H0 A0, PSs X sts (tS X.K H0 A0 f)
theorem _root_.L2.PS.mono {X : Cx} {st : Stmt} {t t' : TS} (h : PS X st t) (m : ∀ D σ H, t' D σ H -> t D σ H) : PS X st t' := λ pins s σ H D I q => h pins s σ H D I (m D σ H q)
theorem _root_.L2.PSs.mono {X : Cx} {st : List Stmt} {t t' : TS} (h : PSs X st t) (m : ∀ D σ H, t' D σ H -> t D σ H) : PSs X st t' := λ pins s σ H D I q => h pins s σ H D I (m D σ H q)
noncomputable def Qf : DS := λ ρ => some (.nx ρ)
noncomputable def Qe (f g : DS) : DS := λ ρ => (f ρ).bind λ o => match o with
 | .nx ρ' => g ρ'
 | .bk ρ' => some (.bk ρ')
 | .ct ρ' => some (.ct ρ')
 | .rt d fr => some (.rt d fr)
noncomputable def QmI : DS := λ ρ => some (.bk ρ)
noncomputable def QnC : DS := λ ρ => some (.ct ρ)
noncomputable def Qw (i : Nat) (fa : DE) : DS := λ ρ => (fa ρ).bind λ r => some (.nx (asg i r ρ))
noncomputable def Qei (fa : DE) : DE := λ ρ => (fa ρ).map λ r => ⟨r.d, false, r.M⟩
noncomputable def QS (fa : DE) : DS := λ ρ => (fa ρ).bind λ r => some (.rt r.d (r.norm.fr && decide r.norm.M.Nodup))
noncomputable def QkU : DS := λ _ => some (.rt .non true)
noncomputable def QG (fa : DE) : DS := λ ρ => (fa ρ).bind λ _ => some (.nx ρ)
noncomputable def sIf (g : DT) (f1 f2 : DS) : DS := λ ρ => (g ρ).bind λ b => if b = true then f1 ρ else f2 ρ
noncomputable def QbR (t : Tg) (fb : DS) : List D -> DS
 | [], ρ => some (.nx ρ)
 | d :: ds, ρ => (QaQ t d ρ).bind λ ρ1 => (fb ρ1).bind λ o => match o with
  | .nx ρ2 => QbR t fb ds ρ2
  | .ct ρ2 => QbR t fb ds ρ2
  | .bk ρ2 => some (.nx ρ2)
  | .rt d fr => some (.rt d fr)
noncomputable def Qa4 (fi : DI) (t : Tg) (fb : DS) : DS := λ ρ => (fi ρ).bind λ ir => QbR t fb ir.items (QaL ir.M ρ)
section
variable {X : Cx} {st : Stmt} {sts : List Stmt} {e : Expr} {fa : DE} {f g : DS} {gc : DT} {pos : Pos}
theorem QlN : SS X [] Qf := λ H0 A0 => QoS.mono λ E σ H ⟨ρ, hs, F, o, rel, e, q⟩ => by
 cases e
 exact q σ H F rel
theorem Qhq (h1 : S1 X st f) (h2 : SS X sts g) : SS X (st :: sts) (Qe f g) := λ H0 A0 => (Qjv (h1 H0 A0) (h2 H0 A0)).mono λ E σ H ⟨ρ, hs, F, o, rel, e, q⟩ => by
 obtain ⟨o1, e1, e⟩ := bind1 e
 refine ⟨ρ, hs, F, o1, rel, e1, ?_⟩
 cases o1 with
 | nx ρ' => exact λ σ' H' F' rel' => ⟨ρ', hs, F', o, rel', e, q⟩
 | bk ρ' => cases e; exact q
 | ct ρ' => cases e; exact q
 | rt d fr => cases e; exact q
theorem QoY : S1 X (.Pass pos) Qf := λ H0 A0 => Qp6.mono λ E σ H ⟨ρ, hs, F, o, rel, e, q⟩ => by
 cases e
 exact q σ H F rel
theorem QmX : S1 X (.Break pos) QmI := λ H0 A0 => Qnx.mono λ E σ H ⟨ρ, hs, F, o, rel, e, q⟩ => by
 cases e
 exact q σ H F rel
theorem Qo1 : S1 X (.Continue pos) QnC := λ H0 A0 => QjH.mono λ E σ H ⟨ρ, hs, F, o, rel, e, q⟩ => by
 cases e
 exact q σ H F rel
theorem QmN (h : SE X e fa) : SE X e (Qei fa) := λ H0 A0 => (h H0 A0).mono λ σ H Q ⟨ρ, hs, F, r, rel, e, q⟩ => by
 obtain ⟨r', e1, rfl⟩ := Zb.mp e
 exact ⟨ρ, hs, F, r', rel, e1, λ v H' G p => q v H' G ⟨p.same, p.rp, p.src, λ z => (by cases z), p.own⟩⟩
theorem QgE {i : Nat} (h : ∀ H0 A0, PS X st (QiE (tV X.K H0 A0 fa) (Qfw i))) : S1 X st (Qw i fa) := λ H0 A0 => (h H0 A0).mono λ E σ H ⟨ρ, hs, F, o, rel, e, q⟩ => by
 obtain ⟨r, e1, e⟩ := bind1 e
 cases e
 refine ⟨ρ, hs, F, r, rel, e1, λ v H' G p => ?_⟩
 obtain ⟨F', rel'⟩ := rel.asg (i := i) p
 exact q _ _ F' rel'
theorem Qpj (h : PS X st (Qik (tV X.K H0 A0 fa))) : PS X st (tS X.K H0 A0 (QG fa)) := h.mono λ E σ H ⟨ρ, hs, F, o, rel, e, q⟩ => by
 obtain ⟨r, e1, e⟩ := bind1 e
 cases e
 exact ⟨ρ, hs, F, r, rel, e1, λ v H' G p => q σ H' F (rel.ext p.same)⟩
theorem Rel.ret {K : PySem.W.Frag} {H0 H H' : Hp} {A0 : List Addr} {hs : List (V × D × List Addr)} {ρ : En} {F : Nat -> List Addr} {σ : L2.St} (rel : Rel K H0 A0 hs ρ F σ H) {r : R} {v : V} {G : List Addr} (p : QH K ρ F H H' r v G) : Ret K H0 A0 r.d (r.norm.fr && decide r.norm.M.Nodup) v H' G where
 same := rel.same.trans p.same
 rp := p.rp
 src := λ a ha => by
  rcases p.src a ha with z | ⟨i, d, b, e, m, _⟩
  ·exact .inl (rel.same.free z)
  ·exact rel.src i d b e a m
 cnt := λ h => by
  simp only [Zf, decide_eq_true_eq] at h
  have p' := p.norm
  obtain ⟨h1, h2⟩ := p'.fresh rel h.1 h.2
  have h3 := (p'.cnt h.1).2
  rw [r.Qcv] at h3
  exact ⟨h1, h3, λ a ha => (h2 a ha).1⟩
theorem Qlh (he : SE X e fa) : S1 X (.Return (some e) pos) (QS fa) := λ H0 A0 => (QlX (he H0 A0)).mono λ E σ H ⟨ρ, hs, F, o, rel, e, q⟩ => by
 obtain ⟨r, e1, e⟩ := bind1 e
 cases e
 exact ⟨ρ, hs, F, r, rel, e1, λ v H' G p => q v H' G (rel.ret p)⟩
theorem Qp7 : S1 X (.Return none pos) QkU := λ H0 A0 => Qp8.mono λ E σ H ⟨ρ, hs, F, o, rel, e, q⟩ => by
 cases e
 exact q .non H [] ⟨rel.same, .Qea, λ a ha => (by simp at ha), λ _ => ⟨Zaf, rfl, λ a ha => (by simp at ha)⟩⟩
theorem Qsk {c : Expr} {a b : List Stmt} (hc : ST X c gc) (ha : SS X a f) (hb : SS X b g) : S1 X (.If c a b pos) (sIf gc f g) := λ H0 A0 => (Qol (hc H0 A0) (ha H0 A0) (hb H0 A0)).mono λ E σ H ⟨ρ, hs, F, o, rel, e, q⟩ => by
 obtain ⟨c, e1, e⟩ := bind1 e
 refine ⟨ρ, hs, F, c, rel, e1, λ H1 s1 => ?_⟩
 cases c with
 | true => exact QnY ⟨ρ, hs, F, o, rel.ext s1, e, q⟩
 | false => exact Qm0 ⟨ρ, hs, F, o, rel.ext s1, e, q⟩
theorem QqW {tg iter : Expr} {body : List Stmt} {fi : DI} {t : Tg} (hp : PassesOwn (model X.prog X.w) X.A X.env X.xe) (hc : X.calm = true) (hi : SI X tg iter fi) (hg : SG X tg t) (hb : SS X body f) (hs : ∀ x, foldedSetIterable iter X.env x = pure x) :
  S1 X (.For tg iter body [] pos) (Qa4 fi t f) := λ H0 A0 => (Ql2 hp hc (hi H0 A0) (hg H0 A0) (hb H0 A0) hs).mono λ E σ H ⟨ρ, hs, F, o, rel, e, q⟩ => by
 obtain ⟨ir, e1, e⟩ := bind1 e
 refine ⟨ρ, hs, F, ir, rel, e1, λ J H1 ts s1 wk hts ow hz => ?_⟩
 have rel1 : Rel X.K H0 A0 (ts ++ hs) (QaL ir.M ρ) F σ H1 := ((rel.ext s1).weak (Qa3 ir.M ρ)).hold λ t ht => ⟨(hts t ht).1, Shr.of rel (hts t ht).2⟩
 refine ⟨λ i m σ' H' => m = ir.items.length - i /\ i <= ir.items.length /\ ∃ ρi Fi, Rel X.K H0 A0 (ts ++ hs) ρi Fi σ' H' /\ QbR t f (ir.items.drop i) ρi = some o, ⟨_, rfl, ZL _, _, F, rel1, by simpa using e⟩, ?_⟩
 rintro i m σ' H' ⟨rfl, hi', ρi, Fi, reli, ei⟩
 have held : Qht X.K H' ts := λ t ht => (reli.held t (Zd _ ht)).1
 by_cases hlt : i < ir.items.length
 ·rw [ZI hlt] at ei
  unfold QbR at ei
  obtain ⟨ρ1, eb, ei⟩ := bind1 ei
  obtain ⟨o1, eo, ei⟩ := bind1 ei
  refine .inr ⟨wk.go i H' hlt held, λ σ2 H2 => ∃ ρ2 F2, Rel X.K H0 A0 (ts ++ hs) ρ2 F2 σ2 H2 /\ QbR t f (ir.items.drop (i + 1)) ρ2 = some o, λ σ2 H2 ⟨ρ2, F2, rel2, e2⟩ => ⟨_, by omega, rfl, hlt, ρ2, F2, rel2, e2⟩, λ x H2 hy => ?_⟩
  obtain ⟨s2, G0, rp0, hG0⟩ := wk.yld i ir.items[i] H' x H2 (by simp [hlt]) held hy
  have shr : Shr H0 A0 ρi Fi G0 := λ a ha => by
   obtain ⟨t, ht, hat⟩ := hG0 a ha
   exact ⟨(reli.held t (Zd _ ht)).2 a hat, λ j d ej hj => (reli.own j d ej).2.2.2.2 t (Zd _ ht) a hj hat⟩
  refine ⟨ρi, ts ++ hs, Fi, ir.items[i], G0, ρ1, reli.ext s2, rp0, shr, eb, λ σ3 F3 rel3 _ _ => ⟨ρ1, ts ++ hs, F3, o1, rel3, eo, ?_⟩⟩
  cases o1 with
  | nx ρ2 => exact λ σ4 H4 F4 rel4 => ⟨ρ2, F4, rel4, ei⟩
  | ct ρ2 => exact λ σ4 H4 F4 rel4 => ⟨ρ2, F4, rel4, ei⟩
  | bk ρ2 => cases ei; exact λ σ4 H4 F4 rel4 => q σ4 H4 F4 rel4.Qjh
  | rt d fr => cases ei; exact q
 ·have hn : i = ir.items.length := by omega
  subst hn
  rw [Zbc] at ei
  cases ei
  exact .inl ⟨wk.stop H' held, q σ' H' Fi reli.Qjh⟩
theorem Rel.Qte {K : PySem.W.Frag} {H0 H : Hp} {A0 : List Addr} {hs : List (V × D × List Addr)} {ρ : En} {F : Nat -> List Addr} {σ : L2.St} (rel : Rel K H0 A0 hs ρ F σ H) {i : Nat} {d : D} {v : V} (rp : Rp K H d v []) (hf : d.flat = true) :
  ∃ F', Rel K H0 A0 hs (ρ.set i (some (d, true))) F' (σ.set i (some v)) H := by
 have := rel.QkM (i := i) rp (λ a ha => by simp at ha)
 rw [hf] at this
 exact ⟨_, this⟩
end
end HS
namespace HS
open PySem PySem.Spec L2
section
variable {K : PySem.W.Frag} {H H' : Hp}
theorem Rps.split : ∀ {ds : List D} {vs : List V} {F : List Addr} {j : Nat} {d : D}, Rps K H ds vs F -> ds[j]? = some d →
  ∃ F1 G F2 v, F = F1 ++ (G ++ F2) /\ vs[j]? = some v /\ Rps K H (ds.take j) (vs.take j) F1 /\ Rp K H d v G /\ Rps K H (ds.drop (j + 1)) (vs.drop (j + 1)) F2
 | [], _, _, _, _, _, e => by simp at e
 | d :: ds, _, _, 0, _, h, e => by
  simp only [Rps] at h
  obtain ⟨v, ws, F1, F2, rfl, rfl, r, q⟩ := h
  simp at e; subst e
  exact ⟨[], F1, F2, v, rfl, by simp, by simp [Rps], r, by simpa using q⟩
 | d :: ds, _, _, j + 1, _, h, e => by
  simp only [Rps] at h
  obtain ⟨v, ws, F1, F2, rfl, rfl, r, q⟩ := h
  obtain ⟨G1, G, G2, v', h1, h2, h3, h4, h5⟩ := Rps.split q (j := j) (by simpa using e)
  refine ⟨F1 ++ G1, G, G2, v', by rw [h1, Zax], by simpa using h2, ?_, h4, by simpa using h5⟩
  simp only [ZaA, Rps]
  exact ⟨v, _, F1, G1, rfl, rfl, r, h3⟩
theorem Rps.join {ds : List D} {vs : List V} {F1 G F2 : List Addr} {j : Nat} {d : D} {v : V} (h1 : Rps K H (ds.take j) (vs.take j) F1) (hd : Rp K H d v G) (h2 : Rps K H (ds.drop (j + 1)) (vs.drop (j + 1)) F2) (hj : j < ds.length) (hv : vs[j]? = some v) :
  Rps K H (ds.set j d) vs (F1 ++ (G ++ F2)) := by
 have e1 : ds.set j d = ds.take j ++ d :: ds.drop (j + 1) := Zal .. |>.trans (by rw [if_pos hj])
 have hjv : j < vs.length := (Zi.mp hv).1
 have hve : vs[j] = v := (Zi.mp hv).2
 have e2 : vs = vs.take j ++ v :: vs.drop (j + 1) := by
  rw [← hve, ← ZI hjv, ZaI]
 rw [e1, e2]
 refine h1.append ?_
 simp only [Rps]
 refine ⟨v, _, G, F2, rfl, rfl, hd, h2⟩
theorem Rps.Qse {ds : List D} {vs : List V} {F1 G F2 : List Addr} {j : Nat} {d : D} {v : V} (h1 : Rps K H (ds.take j) (vs.take j) F1) (hd : Rp K H d v G) (h2 : Rps K H (ds.drop (j + 1)) (vs.drop (j + 1)) F2) (hj : j < ds.length) (hv : j < vs.length) :
  Rps K H (ds.set j d) (vs.set j v) (F1 ++ (G ++ F2)) := by
 have e1 : ds.set j d = ds.take j ++ d :: ds.drop (j + 1) := Zal .. |>.trans (by rw [if_pos hj])
 have e2 : vs.set j v = vs.take j ++ v :: vs.drop (j + 1) := Zal .. |>.trans (by rw [if_pos hv])
 rw [e1, e2]
 refine h1.append ?_
 simp only [Rps]
 exact ⟨v, _, G, F2, rfl, rfl, hd, h2⟩
noncomputable def Focus (K : PySem.W.Frag) (H : Hp) : List Int -> D -> V -> List Addr -> D -> V -> List Addr -> Prop
 | [], d, v, F, dm, w, Gm => dm = d /\ w = v /\ Gm = F /\ Rp K H d v F
 | i :: is, d, v, F, dm, w, Gm => ∃ (ds : List D) (a : Addr) (vs : List V) (j : Nat) (F1 G F2 : List Addr) (d' : D) (v' : V), v = .ref a /\ ixN ds.length i = some j ∧
   ((d = .lst ds /\ ds.length <= sizeLine /\ ((F = a :: (F1 ++ (G ++ F2)) /\ H a = some (.lst vs)) ∨ (F = F1 ++ (G ++ F2) /\ Fix K H a vs))) ∨ (d = .tup ds /\ F = F1 ++ (G ++ F2) /\ SqT K H a vs)) ∧
   Rps K H (ds.take j) (vs.take j) F1 /\ Rps K H (ds.drop (j + 1)) (vs.drop (j + 1)) F2 /\ ds[j]? = some d' /\ vs[j]? = some v' /\ ds.length = vs.length /\ Focus K H is d' v' G dm w Gm
theorem Focus.same (s : Qq H H') : ∀ {is : List Int} {d : D} {v : V} {F : List Addr} {dm : D} {w : V} {Gm : List Addr}, Focus K H is d v F dm w Gm -> Focus K H' is d v F dm w Gm
 | [], _, _, _, _, _, _, h => ⟨h.1, h.2.1, h.2.2.1, h.2.2.2.same s⟩
 | i :: is, _, _, _, _, _, _, h => by
  obtain ⟨ds, a, vs, j, F1, G, F2, d', v', h1, h2, h3, h4, h5, h6, h7, h8, h9⟩ := h
  refine ⟨ds, a, vs, j, F1, G, F2, d', v', h1, h2, ?_, h4.same s, h5.same s, h6, h7, h8, h9.same s⟩
  rcases h3 with ⟨e, z, q⟩ | ⟨e, eF, q⟩
  ·refine .inl ⟨e, z, ?_⟩
   rcases q with ⟨eF, q⟩ | ⟨eF, q⟩
   ·exact .inl ⟨eF, s _ _ q⟩
   ·exact .inr ⟨eF, Qjo s q⟩
  ·exact .inr ⟨e, eF, Qjx s q⟩
theorem Focus.rp : ∀ {is : List Int} {d : D} {v : V} {F : List Addr} {dm : D} {w : V} {Gm : List Addr}, Focus K H is d v F dm w Gm -> Rp K H dm w Gm
 | [], _, _, _, _, _, _, h => by
  obtain ⟨rfl, rfl, rfl, r⟩ := h
  exact r
 | i :: is, _, _, _, _, _, _, h => by
  obtain ⟨ds, a, vs, j, F1, G, F2, d', v', h1, h2, h3, h4, h5, h6, h7, h8, h9⟩ := h
  exact h9.rp
theorem Focus.Qll : ∀ {is : List Int} {d : D} {v : V} {F : List Addr} {dm : D} {w : V} {Gm : List Addr}, Focus K H is d v F dm w Gm -> Rp K H d v F
 | [], _, _, _, _, _, _, h => h.2.2.2
 | i :: is, _, _, _, _, _, _, h => by
  obtain ⟨ds, a, vs, j, F1, G, F2, d', v', rfl, h2, h3, h4, h5, h6, h7, h8, h9⟩ := h
  have hjl : j < ds.length := (Zi.mp h6).1
  have hdj : ds[j] = d' := (Zi.mp h6).2
  have j1 := Rps.join h4 h9.Qll h5 hjl h7
  rw [show ds.set j d' = ds by rw [← hdj]; exact List.set_getElem_self hjl] at j1
  rcases h3 with ⟨rfl, hz, ⟨rfl, q⟩ | ⟨rfl, q⟩⟩ | ⟨rfl, rfl, q⟩
  ·exact Rp.Qd5 q j1 hz
  ·simp only [Rp]
   exact ⟨hz, a, vs, rfl, .inr ⟨q, j1⟩⟩
  ·simp only [Rp]
   exact ⟨a, vs, rfl, q, j1⟩
theorem Focus.one {d : D} {v : V} {F : List Addr} {ds : List D} {i : Int} {d' : D} (r : Rp K H d v F) (hd : d.items = some ds) (hi : atI ds i = some d') :
  ∃ a vs v' G, v = .ref a /\ ((d = .lst ds /\ SqL K H a vs) ∨ (d = .tup ds /\ SqT K H a vs)) /\ atI vs i = some v' /\ Focus K H [i] d v F d' v' G := by
 unfold atI at hi
 cases hj : ixN ds.length i with
 | none => rw [hj] at hi; cases hi
 | some j =>
  rw [hj] at hi
  have hdj : ds[j]? = some d' := hi
  have fin : ∀ (vs : List V) (L : List Addr), Rps K H ds vs L -> ∃ v' G F1 F2, L = F1 ++ (G ++ F2) /\ vs[j]? = some v' /\ atI vs i = some v' /\ Rps K H (ds.take j) (vs.take j) F1 /\ Rp K H d' v' G /\ Rps K H (ds.drop (j + 1)) (vs.drop (j + 1)) F2 /\ ds.length = vs.length := λ vs L rl => by
   obtain ⟨F1, G, F2, v', h1, h2, h3, h4, h5⟩ := rl.split hdj
   refine ⟨v', G, F1, F2, h1, h2, ?_, h3, h4, h5, rl.length⟩
   unfold atI
   rw [← rl.length, hj]
   exact h2
  cases d with
  | lst xs =>
   cases hd
   simp only [Rp] at r
   obtain ⟨hz, a, vs, rfl, ⟨L, rfl, q, rl⟩ | ⟨q, rl⟩⟩ := r
   ·obtain ⟨v', G, F1, F2, h1, h2, h3, h4, h5, h6, h7⟩ := fin vs L rl
    exact ⟨a, vs, v', G, rfl, .inl ⟨rfl, SqL.of q⟩, h3, ds, a, vs, j, F1, G, F2, d', v', rfl, hj, .inl ⟨rfl, hz, .inl ⟨by rw [h1], q⟩⟩, h4, h6, hdj, h2, h7, rfl, rfl, rfl, h5⟩
   ·obtain ⟨v', G, F1, F2, h1, h2, h3, h4, h5, h6, h7⟩ := fin vs _ rl
    exact ⟨a, vs, v', G, rfl, .inl ⟨rfl, q.sq⟩, h3, ds, a, vs, j, F1, G, F2, d', v', rfl, hj, .inl ⟨rfl, hz, .inr ⟨h1, q⟩⟩, h4, h6, hdj, h2, h7, rfl, rfl, rfl, h5⟩
  | tup xs =>
   cases hd
   obtain ⟨a, vs, rfl, q, rl⟩ := r.Qap
   obtain ⟨v', G, F1, F2, h1, h2, h3, h4, h5, h6, h7⟩ := fin vs _ rl
   exact ⟨a, vs, v', G, rfl, .inr ⟨rfl, q⟩, h3, ds, a, vs, j, F1, G, F2, d', v', rfl, hj, .inr ⟨rfl, h1, q⟩, h4, h6, hdj, h2, h7, rfl, rfl, rfl, h5⟩
  | _ => cases hd
theorem Focus.snoc : ∀ {is : List Int} {d : D} {v : V} {F : List Addr} {dm : D} {w : V} {Gm : List Addr} {i : Int} {d' : D} {v' : V} {G : List Addr}, Focus K H is d v F dm w Gm -> Focus K H [i] dm w Gm d' v' G -> Focus K H (is ++ [i]) d v F d' v' G
 | [], _, _, _, _, _, _, _, _, _, _, h, g => by
  obtain ⟨rfl, rfl, rfl, r⟩ := h
  exact g
 | k :: is, _, _, _, _, _, _, _, _, _, _, h, g => by
  obtain ⟨ds, a, vs, j, F1, G, F2, d', v', h1, h2, h3, h4, h5, h6, h7, h8, h9⟩ := h
  exact ⟨ds, a, vs, j, F1, G, F2, d', v', h1, h2, h3, h4, h5, h6, h7, h8, h9.snoc g⟩
noncomputable def QbB : D -> List Int -> Option D
 | d, [] => some d
 | d, i :: is => (d.items).bind λ ds => (atI ds i).bind λ d' => QbB d' is
theorem QgZ : ∀ {is : List Int} {d : D} {i : Int} {d' : D}, QbB d (is ++ [i]) = some d' -> ∃ dm ds, QbB d is = some dm /\ dm.items = some ds /\ atI ds i = some d'
 | [], d, i, d', h => by
  obtain ⟨ds, h1, h⟩ := bind1 h
  obtain ⟨d'', h2, h⟩ := bind1 h
  cases h
  exact ⟨d, ds, rfl, h1, h2⟩
 | k :: is, d, i, d', h => by
  obtain ⟨ds, h1, h⟩ := bind1 h
  obtain ⟨d'', h2, h⟩ := bind1 h
  obtain ⟨dm, es, h3, h4, h5⟩ := QgZ h
  refine ⟨dm, es, ?_, h4, h5⟩
  simp only [QbB, h1, h2, Za, h3]
noncomputable def QaP : List Int -> D -> D -> D
 | [], _, new => new
 | i :: is, .lst ds, new => match ixN ds.length i with
  | some j => .lst (ds.set j (QaP is (ds.getD j .non) new))
  | none => .lst ds
 | i :: is, .tup ds, new => match ixN ds.length i with
  | some j => .tup (ds.set j (QaP is (ds.getD j .non) new))
  | none => .tup ds
 | _ :: _, d, _ => d
theorem Qfz : ∀ {ds : List D} {j : Nat} {d e : D}, ds[j]? = some d -> nls (ds.set j e) + d.nl = nls ds + e.nl
 | [], _, _, _, h => by simp at h
 | x :: ds, 0, d, e, h => by simp at h; subst h; simp only [List.set_cons_zero, nls]; omega
 | x :: ds, j + 1, d, e, h => by
  have := Qfz (ds := ds) (j := j) (e := e) (by simpa using h)
  simp only [List.set_cons_succ, nls]; omega
theorem Qdf : ∀ (as bs : List D), nls (as ++ bs) = nls as + nls bs
 | [], bs => by simp [nls]
 | a :: as, bs => by simp only [ZaJ, nls, Qdf as bs]; omega
theorem Focus.mut {p : Addr} {dsm ds' : List D} {vs' : List V} {G' : List Addr} : ∀ {is : List Int} {d : D} {v : V} {F : List Addr} {Gm : List Addr}, Focus K H is d v F (.lst dsm) (.ref p) Gm -> F.Nodup -> F.length = d.nl →
  ∃ vsm Gp, H p = some (.lst vsm) /\ Gm = p :: Gp /\ Rps K H dsm vsm Gp /\ Gp.length = nls dsm /\ p ∈ F /\ (∀ a ∈ Gp, a ∈ F) /\ p ∉ Gp ∧
   (Rps K (upd H p (.lst vs')) ds' vs' G' -> ds'.length <= sizeLine -> G'.length = nls ds' →
    ∃ F', Rp K (upd H p (.lst vs')) (QaP is d (.lst ds')) v F' /\ F'.length = (QaP is d (.lst ds')).nl /\ ∀ a, F'.count a + Gp.count a = F.count a + G'.count a)
 | [], d, v, F, Gm, h, nd, hl => by
  obtain ⟨rfl, rfl, rfl, r⟩ := h
  simp only [Rp] at r
  obtain ⟨hz, a, vs, e, h⟩ := r
  cases e
  rcases h with ⟨L, rfl, q, rl⟩ | ⟨q, rl⟩
  ·obtain ⟨n1, n2⟩ := Zam.mp nd
   have hl' : L.length = nls dsm := by simp only [D.nl, ZJ] at hl; omega
   refine ⟨vs, L, q, rfl, rl, hl', Zh, λ a ha => Zc _ ha, n1, λ r' hz' hl2 => ⟨p :: G', Rp.Qd5 Q4 r' hz', ?_, λ a => ?_⟩⟩
   ·simp only [QaP, D.nl, ZJ, hl2]
   ·rw [Zan, Zan]; omega
  ·have := rl.Qai
   simp only [D.nl] at hl
   omega
 | i :: is, d, v, F, Gm, h, nd, hl => by
  obtain ⟨ds, a, vs, j, F1, G, F2, d', v', rfl, hj, h3, h4, h5, h6, h7, h8, h9⟩ := h
  have hjl : j < ds.length := (Zi.mp h6).1
  have gd : ds.getD j .non = d' := by rw [ZY, h6]; rfl
  have l1 := h4.Qai
  have l2 := h5.Qai
  have l3 := h9.Qll.Qai
  have nlsplit : nls (ds.take j) + (d'.nl + nls (ds.drop (j + 1))) = nls ds := by
   have e1 : ds = ds.take j ++ d' :: ds.drop (j + 1) := by
    have : ds[j] = d' := (Zi.mp h6).2
    rw [← this, ← ZI hjl, ZaI]
   have e2 := congrArg nls e1
   rw [Qdf] at e2
   simp only [nls] at e2
   exact e2.symm
  have core : (F1 ++ (G ++ F2)).Nodup -> (F1 ++ (G ++ F2)).length = nls ds -> _ := λ nd' hl' => by
   simp only [Zp] at hl'
   have hG : G.length = d'.nl := by omega
   have ndG : G.Nodup := (ZaG.mp (ZaG.mp nd').2.1).1
   exact (h9.mut (vs' := vs') (ds' := ds') (G' := G') ndG hG)
  have apart : (F1 ++ (G ++ F2)).Nodup -> p ∈ G -> p ∉ F1 /\ p ∉ F2 := λ nd' hp => by
   have n1 := ZaG.mp nd'
   have n2 := ZaG.mp n1.2.1
   exact ⟨λ h => n1.2.2 p h p (Zd _ hp) rfl, λ h => n2.2.2 p hp p h rfl⟩
  have cnt : ∀ (G'' Gp : List Addr), (∀ a, G''.count a + Gp.count a = G.count a + G'.count a) -> ∀ a, (F1 ++ (G'' ++ F2)).count a + Gp.count a = (F1 ++ (G ++ F2)).count a + G'.count a := λ G'' Gp hc a => by
   have := hc a
   simp only [ZT]; omega
  rcases h3 with ⟨rfl, hz, ⟨rfl, q⟩ | ⟨rfl, q⟩⟩ | ⟨rfl, rfl, q⟩
  ·
   obtain ⟨n1, n2⟩ := Zam.mp nd
   have hl' : (F1 ++ (G ++ F2)).length = nls ds := by simp only [D.nl, ZJ] at hl; omega
   obtain ⟨vsm, Gp, e1, e2, e3, e4, e5, e6, e7, e8⟩ := core n2 hl'
   have ap := apart n2 e5
   have hap : a ≠ p := λ z => n1 (by rw [z]; exact Ze _ (Zd _ e5))
   refine ⟨vsm, Gp, e1, e2, e3, e4, Zc _ (Ze _ (Zd _ e5)), λ b hb => Zc _ (Ze _ (Zd _ (e6 b hb))), e7, λ r' hz' hl2 => ?_⟩
   obtain ⟨G'', f1, f2, f3⟩ := e8 r' hz' hl2
   have j1 := Rps.join (h4.upd (ys := vs') e1 ap.1) f1 (h5.upd (ys := vs') e1 ap.2) hjl h7
   refine ⟨a :: (F1 ++ (G'' ++ F2)), ?_, ?_, λ b => ?_⟩
   ·simp only [QaP, hj, gd]
    exact Rp.Qd5 (by rw [Qr hap]; exact q) j1 (by rw [ZaR]; exact hz)
   ·have := Qfz (ds := ds) (j := j) (e := QaP is d' (.lst ds')) h6
    simp only [QaP, hj, gd, D.nl, ZJ, Zp, f2] at hl' ⊢
    omega
   ·have := cnt G'' Gp f3 b
    rw [Zan, Zan]; omega
  ·have : (F1 ++ (G ++ F2)).length <= nls ds := by simp only [Zp]; omega
   simp only [D.nl] at hl
   omega
  ·
   have hl' : (F1 ++ (G ++ F2)).length = nls ds := by simpa only [D.nl] using hl
   obtain ⟨vsm, Gp, e1, e2, e3, e4, e5, e6, e7, e8⟩ := core nd hl'
   have ap := apart nd e5
   refine ⟨vsm, Gp, e1, e2, e3, e4, Ze _ (Zd _ e5), λ b hb => Ze _ (Zd _ (e6 b hb)), e7, λ r' hz' hl2 => ?_⟩
   obtain ⟨G'', f1, f2, f3⟩ := e8 r' hz' hl2
   have j1 := Rps.join (h4.upd (ys := vs') e1 ap.1) f1 (h5.upd (ys := vs') e1 ap.2) hjl h7
   refine ⟨F1 ++ (G'' ++ F2), ?_, ?_, cnt G'' Gp f3⟩
   ·simp only [QaP, hj, gd, Rp]
    exact ⟨a, vs, rfl, Qkj e1 q, j1⟩
   ·have := Qfz (ds := ds) (j := j) (e := QaP is d' (.lst ds')) h6
    simp only [QaP, hj, gd, D.nl, Zp, f2] at hl' ⊢
    omega
end
end HS
namespace HS
open PySem PySem.Spec L2
section
variable {K : PySem.W.Frag} {H0 H H1 H2 : Hp} {A0 : List Addr} {hs : List (V × D × List Addr)} {ρ : En} {F : Nat -> List Addr} {σ : L2.St}
theorem Rel.mut (rel : Rel K H0 A0 hs ρ F σ H) {r : R} {vn : V} {Gn : List Addr} (p : QH K ρ F H H1 r vn Gn) (hf : r.fr = true) (nd : r.M.Nodup) (s12 : Qq H1 H2) {x : Nat} {d : D} (hx : ρ[x]? = some (some (d, true))) (hxM : x ∉ r.M) {v0 : V} (hv0 : σ[x]? = some (some v0))
  {dnew : D} {q : Addr} {F' : List Addr} {vsm vs' : List V} (e1 : H2 q = some (.lst vsm)) (e5 : q ∈ F x) (f1 : Rp K (upd H2 q (.lst vs')) dnew v0 F') (f2 : F'.length = dnew.nl) (cF : ∀ a, F'.count a <= (F x).count a + Gn.count a) :
  ∃ F', Rel K H0 A0 hs ((kill r.M ρ).set x (some (dnew, true))) F' σ (upd H2 q (.lst vs')) := by
 obtain ⟨ol, on, o0, oap, oh⟩ := rel.own x d hx
 obtain ⟨gn, gs⟩ := p.fresh rel hf nd
 have rel2 := (rel.ext p.same).ext s12
 have relk := rel2.weak (QbH r.M ρ)
 have apn : ∀ a ∈ Gn, a ∉ F x := λ a ha hax => by
  rcases (gs a ha).2 with z | ⟨k, d', hk, ek, hak⟩
  ·obtain ⟨vs, w⟩ := rel.mem hx hax
   rw [z] at w; cases w
  ·have : k ≠ x := λ z => hxM (z ▸ hk)
   exact oap k d' true this ek a hax hak
 have memF : ∀ a ∈ F', a ∈ F x ∨ a ∈ Gn := λ a ha => by
  have h1 := cF a
  have h2 : 0 < F'.count a := Zac.mpr ha
  by_cases h : a ∈ F x
  ·exact .inl h
  ·rw [ZG.mpr h] at h1
   exact .inr (Zac.mp (by omega))
 have apart : ∀ (j : Nat) d' b, j ≠ x -> (kill r.M ρ)[j]? = some (some (d', b)) -> ∀ a ∈ F', a ∉ F j := λ j d' b hj e a ha haj => by
  obtain ⟨b', e', _⟩ := (QbH r.M ρ).2 j d' b e
  rcases memF a ha with h | h
  ·exact oap j d' b' hj e' a h haj
  ·rcases (gs a h).2 with z | ⟨k, d'', hk, ek, hak⟩
   ·obtain ⟨vs, w⟩ := rel.mem e' haj
    rw [z] at w; cases w
   ·have hjk : j ≠ k := λ z => by subst z; exact QeU r.M ρ j d' b hk e
    exact (rel.own k d'' ek).2.2.2.1 j d' b' hjk e' a hak haj
 have apartH : ∀ t ∈ hs, ∀ a ∈ F', a ∉ t.2.2 := λ t ht a ha hat => by
  rcases memF a ha with h | h
  ·exact oh t ht a h hat
  ·rcases (gs a h).2 with z | ⟨k, d'', hk, ek, hak⟩
   ·obtain ⟨vs, w⟩ := (rel.held t ht).1.mem a hat
    rw [z] at w; cases w
   ·exact (rel.own k d'' ek).2.2.2.2 t ht a hak hat
 have nqj : ∀ (j : Nat) d' b, j ≠ x -> ρ[j]? = some (some (d', b)) -> q ∉ F j := λ j d' b hj e h => oap j d' b hj e q e5 h
 have nF' : F'.Nodup := Zag.mpr λ a => by
  have h1 := cF a
  have h2 := Zag.mp on a
  have h3 := Zag.mp gn a
  by_cases h : a ∈ Gn
  ·rw [ZG.mpr (apn a h)] at h1; omega
  ·rw [ZG.mpr h] at h1; omega
 have lt : ∀ {j : Nat} {z : Option (D × Bool)} {y : D × Bool}, ((kill r.M ρ).set j z)[j]? = some (some y) -> j < (kill r.M ρ).length := λ {j z y} e => by
  by_cases hl : j < (kill r.M ρ).length
  ·exact hl
  ·rw [Zz (by simp; omega)] at e; cases e
 refine ⟨λ j => if j = x then F' else F j, by simp [relk.len], λ j d' b e => ?_, λ j d' e => ?_, λ j d' b e a ha => ?_, λ t ht => ⟨(relk.held t ht).1.upd e1 λ h => oh t ht q e5 h, (relk.held t ht).2⟩, λ b o hb => ?_⟩
 ·by_cases hj : j = x
  ·subst hj
   have hl := lt e
   rw [Zr hl] at e
   cases e
   exact ⟨v0, hv0, by rw [if_pos rfl]; exact f1⟩
  ·rw [Zg (Ne.symm hj)] at e
   obtain ⟨w, h1, h2⟩ := relk.val j d' b e
   obtain ⟨b', e', _⟩ := (QbH r.M ρ).2 j d' b e
   exact ⟨w, h1, by rw [if_neg hj]; exact h2.upd e1 (nqj j d' b' hj e')⟩
 ·by_cases hj : j = x
  ·subst hj
   have hl := lt e
   rw [Zr hl] at e
   cases e
   rw [if_pos rfl]
   refine ⟨f2, nF', λ a ha => ?_, λ k d'' b hk ek a ha => ?_, apartH⟩
   ·rcases memF a ha with h | h
    ·exact o0 a h
    ·exact (gs a h).1
   ·rw [Zg (Ne.symm hk)] at ek
    rw [if_neg hk]
    exact apart k d'' b hk ek a ha
  ·rw [Zg (Ne.symm hj)] at e
   obtain ⟨h1, h2, h3, h4, h5⟩ := relk.own j d' e
   rw [if_neg hj]
   refine ⟨h1, h2, h3, λ k d'' b hk ek a ha => ?_, h5⟩
   by_cases hki : k = x
   ·subst hki
    rw [if_pos rfl]
    exact λ hG => apart j d' true hj e a hG ha
   ·rw [Zg (Ne.symm hki)] at ek
    rw [if_neg hki]
    exact h4 k d'' b hk ek a ha
 ·by_cases hj : j = x
  ·subst hj
   rw [if_pos rfl] at ha
   rcases memF a ha with h | h
   ·exact .inl (o0 a h)
   ·exact .inl (gs a h).1
  ·rw [Zg (Ne.symm hj)] at e
   rw [if_neg hj] at ha
   exact relk.src j d' b e a ha
 ·have hbq : b ≠ q := λ z => by rw [z, o0 q e5] at hb; cases hb
  rw [Qr hbq]
  exact relk.same b o hb
end
noncomputable abbrev DP := En -> Option (List Int)
noncomputable def QaE : DP := λ _ => some []
noncomputable def Qfv (p : DP) (fb : DE) : DP := λ ρ => (p ρ).bind λ is => (fb ρ).bind λ r => match r.d with
 | .int i => some (is ++ [i])
 | _ => none
noncomputable def tP (K : PySem.W.Frag) (H0 : Hp) (A0 : List Addr) (x : Nat) (pf : DP) : TE := λ σ H Q => ∃ ρ hs F d b is dm, Rel K H0 A0 hs ρ F σ H /\ ρ[x]? = some (some (d, b)) /\ pf ρ = some is /\ QbB d is = some dm ∧
 ∀ v0 v H' Gm, Qq H H' -> σ[x]? = some (some v0) -> Focus K H' is d v0 (F x) dm v Gm -> Q v H'
def SPa (X : Cx) (e : Expr) (x : Nat) (pf : DP) : Prop := ∀ H0 A0, PE X e (tP X.K H0 A0 x pf)
section
variable {X : Cx} {a b e : Expr} {fa fb : DE} {pf : DP} {x : Nat} {pos : Pos}
theorem QmK {y : Str} (h : PE X (.Name y pos) (QkV x)) : SPa X (.Name y pos) x QaE := λ H0 A0 => h.mono λ σ H Q ⟨ρ, hs, F, d, b, is, dm, rel, hx, hp, hd, q⟩ => by
 cases hp
 cases hd
 obtain ⟨v, h1, h2⟩ := rel.val x d b hx
 exact ⟨v, h1, q v v H (F x) (Qq.refl _) h1 ⟨rfl, rfl, rfl, h2⟩⟩
theorem QoC (ha : SPa X a x pf) (hb : SE X b fb) (hs : QfF b) : SPa X (.Subscript a b pos) x (Qfv pf fb) := λ H0 A0 =>
 (Qox (Qj7.or QlT) (ha H0 A0) (hb H0 A0) hs).mono λ σ H Q ⟨ρ, hs, F, d, b', is, dm, rel, hx, hp, hd, q⟩ => by
  obtain ⟨is', e1, hp⟩ := bind1 hp
  obtain ⟨r, e2, hp⟩ := bind1 hp
  cases hr : r.d with
  | int i =>
   rw [hr] at hp
   cases hp
   obtain ⟨dn, ds, g1, g2, g3⟩ := QgZ hd
   refine ⟨ρ, hs, F, d, b', is', dn, rel, hx, e1, g1, λ v0 w H1 Gm s1 hv fo => ⟨ρ, hs, F, r, rel.ext s1, e2, λ u H2 G p2 => ?_⟩⟩
   have rp := p2.rp
   rw [hr] at rp
   rw [rp.int_inv]
   have fo2 := fo.same p2.same
   obtain ⟨c, vs, v', G', rfl, hc, h3, h4⟩ := Focus.one fo2.rp g2 g3
   have fin := q v0 v' H2 G' (s1.trans p2.same) hv (fo2.snoc h4)
   rcases hc with ⟨_, hc⟩ | ⟨_, hc⟩
   ·exact .inl ⟨c, vs, i, v', rfl, rfl, hc, h3, fin⟩
   ·exact .inr ⟨c, vs, i, v', rfl, rfl, hc, h3, fin⟩
  | _ => rw [hr] at hp; cases hp
noncomputable def Qck (x : Nat) (pf : DP) (fi fa : DE) : DS := λ ρ => (fa ρ).bind λ r0 => match ρ[x]? with
 | some (some (d, true)) => (pf ρ).bind λ is => (fi ρ).bind λ ri => match ri.d, QbB d is with
  | .int k, some (.lst ds) => (ixN ds.length k).bind λ j => if r0.norm.fr && decide r0.norm.M.Nodup && !r0.norm.M.contains x then some (.nx ((kill r0.norm.M ρ).set x (some (QaP is d (.lst (ds.set j r0.d)), true)))) else
   none
  | _, _ => none
 | _ => none
theorem set_mk {K : PySem.W.Frag} {H2 : Hp} {q : Addr} {dsm : List D} {vsm : List V} {Gp Gn : List Addr} {j : Nat} {dn : D} {vn : V} (hq : H2 q = some (.lst vsm)) (rs : Rps K H2 dsm vsm Gp) (hl : Gp.length = nls dsm) (nq : q ∉ Gp) (nqn : q ∉ Gn) (hn : Rp K H2 dn vn Gn) (hnl : Gn.length = dn.nl) (hj : j < dsm.length) :
  ∃ G', Rps K (upd H2 q (.lst (vsm.set j vn))) (dsm.set j dn) (vsm.set j vn) G' /\ G'.length = nls (dsm.set j dn) /\ ∀ a, G'.count a <= Gp.count a + Gn.count a := by
 obtain ⟨F1, G, F2, v, e1, e2, h1, h2, h3⟩ := rs.split (j := j) (d := dsm[j]) (by simp [hj])
 subst e1
 have hjv : j < vsm.length := by rw [← rs.length]; exact hj
 have n1 : q ∉ F1 := λ h => nq (Zd _ h)
 have n2 : q ∉ F2 := λ h => nq (Ze _ (Ze _ h))
 refine ⟨F1 ++ (Gn ++ F2), Rps.Qse (h1.upd hq n1) (hn.upd hq nqn) (h3.upd hq n2) hj hjv, ?_, λ a => ?_⟩
 ·have := Qfz (ds := dsm) (j := j) (d := dsm[j]) (e := dn) (by simp [hj])
  have l1 := h1.Qai
  have l2 := h2.Qai
  have l3 := h3.Qai
  have e1 : nls (dsm.take j) + ((dsm[j]).nl + nls (dsm.drop (j + 1))) = nls dsm := by
   have e2 := congrArg nls (ZaI j dsm)
   rw [Qdf, ZI hj] at e2
   simpa only [nls] using e2
  simp only [Zp] at hl ⊢
  omega
 ·simp only [ZT]; omega
theorem QH.Qop {K : PySem.W.Frag} {ρ : En} {F : Nat -> List Addr} {H H1 H2 : Hp} {r : R} {v : V} {G : List Addr} (p : QH K ρ F H H1 r v G) (s : Qq H1 H2) : QH K ρ F H H2 r v G := ⟨p.same.trans s, p.rp.same s, p.src, p.cnt, p.own⟩
theorem Qrv {i : Expr} {pos' : Pos} {fi : DE} (hv : SE X e fa) (ho : SPa X a x pf) (hi : SE X i fi)
  (h : ∀ te to ti, PE X e te -> PE X a to -> PE X i ti -> PS X (.Assign [.Subscript a i pos'] e pos) (QiE te (L2.Qet to ti Qoh))) : S1 X (.Assign [.Subscript a i pos'] e pos) (Qck x pf fi fa) := λ H0 A0 =>
 (h _ _ _ (hv H0 A0) (ho H0 A0) (hi H0 A0)).mono λ E σ H ⟨ρ, hs, F, o, rel, e, q⟩ => by
  obtain ⟨r0, e1, e⟩ := bind1 e
  split at e
  ·rename_i d hx
   obtain ⟨is, e2, e⟩ := bind1 e
   obtain ⟨ri, e3, e⟩ := bind1 e
   split at e
   ·rename_i k ds hk hp
    obtain ⟨j, e4, e⟩ := bind1 e
    split at e
    ·rename_i hc
     cases e
     simp only [Zf, decide_eq_true_eq, Zar] at hc
     obtain ⟨⟨c1, c2⟩, c3⟩ := hc
     have c3 : x ∉ r0.norm.M := λ h => by rw [List.contains_iff_mem.mpr h] at c3; cases c3
     refine ⟨ρ, hs, F, r0, rel, e1, λ vn H1 Gn p => ⟨ρ, hs, F, d, true, is, .lst ds, rel.ext p.same, hx, e2, hp, λ v0 w H2 Gm s2 hv0 fo => ⟨ρ, hs, F, ri, (rel.ext p.same).ext s2, e3, λ u H3 Gi pi => ?_⟩⟩⟩
     have p' := (p.norm.Qop s2).Qop pi.same
     have fo3 := fo.same pi.same
     have rpi := pi.rp
     rw [hk] at rpi
     rw [rpi.int_inv]
     obtain ⟨l, ws, L, rfl, _⟩ := fo3.rp.lst_inv
     obtain ⟨ol, on, _, oap, _⟩ := rel.own x d hx
     have hjl := (QfB e4).2.1
     obtain ⟨gn, gs⟩ := p'.fresh rel c1 c2
     have rn := p'.rp
     rw [r0.Qcv] at rn
     have hnl := (p'.cnt c1).2
     rw [r0.Qcv] at hnl
     obtain ⟨vsm, _, f1, _⟩ := fo3.mut (vs' := []) (ds' := []) (G' := []) on ol
     obtain ⟨_, _, _, _, _, _, zl, _⟩ := fo3.rp.lst_inv
     have key : ∃ F', Rp X.K (upd H3 l (.lst (vsm.set j vn))) (QaP is d (.lst (ds.set j r0.d))) v0 F' /\ F'.length = (QaP is d (.lst (ds.set j r0.d))).nl /\ l ∈ F x /\ ds.length = vsm.length /\ ∀ a, F'.count a <= (F x).count a + Gn.count a := by
      have own5 : ∀ G', _ := λ G' => fo3.mut (vs' := vsm.set j vn) (ds' := ds.set j r0.d) (G' := G') on ol
      obtain ⟨vs1, Gp, g1, g2, g3, g4, g5, g6, g7, _⟩ := own5 []
      rw [f1] at g1; cases g1
      have hq : l ∉ Gn := λ h => by
       rcases (gs l h).2 with z | ⟨k', d', hk', ek, hak⟩
       ·obtain ⟨vs, w⟩ := rel.mem hx g5
        rw [z] at w; cases w
       ·exact oap k' d' true (λ z => c3 (z ▸ hk')) ek l g5 hak
      obtain ⟨G', m1, m2, m3⟩ := set_mk f1 g3 g4 g7 hq rn hnl hjl
      obtain ⟨vs2, Gp2, k1, k2, k3, k4, k5, k6, k7, k8⟩ := own5 G'
      have eG : Gp2 = Gp := by rw [g2] at k2; exact (List.cons.inj k2).2.symm
      subst eG
      obtain ⟨F', h1, h2, h3⟩ := k8 m1 (by rw [ZaR]; exact zl) m2
      exact ⟨F', h1, h2, g5, g3.length, λ a => by have := h3 a; have := m3 a; omega⟩
     obtain ⟨F', k1, k2, k3, k4, k5⟩ := key
     refine ⟨l, vsm, k, j, rfl, rfl, f1, by rw [← k4]; exact e4, ?_⟩
     obtain ⟨F'', rel'⟩ := rel.mut p' c1 c2 (Qq.refl _) hx c3 hv0 f1 k3 k1 k2 k5
     exact q _ _ F'' rel'
    ·
      cases e
   ·cases e
  ·cases e
end
end HS
namespace HS
open PySem PySem.Spec L2
section
variable {K : PySem.W.Frag} {H0 H H1 H2 H3 : Hp} {A0 : List Addr} {hs : List (V × D × List Addr)} {ρ : En} {F : Nat -> List Addr} {σ : L2.St}
theorem Rel.write (rel : Rel K H0 A0 hs ρ F σ H) {r : R} {vn : V} {Gn : List Addr} (p : QH K ρ F H H3 r vn Gn) (hf : r.fr = true) (nd : r.M.Nodup) {x : Nat} {d : D} (hx : ρ[x]? = some (some (d, true))) (hxM : x ∉ r.M) {v0 w : V} (hv0 : σ[x]? = some (some v0))
  {is : List Int} {ds : List D} {Gm : List Addr} (fo : Focus K H3 is d v0 (F x) (.lst ds) w Gm) :
  ∃ l vsm Gp, w = .ref l /\ H3 l = some (.lst vsm) /\ Rps K H3 ds vsm Gp /\ Gp.length = nls ds /\ l ∉ Gp /\ l ∉ Gn /\ ds.length <= sizeLine ∧
   ∀ ds' vs' G', Rps K (upd H3 l (.lst vs')) ds' vs' G' -> ds'.length <= sizeLine -> G'.length = nls ds' -> (∀ a, G'.count a <= Gp.count a + Gn.count a) →
    ∃ F', Rel K H0 A0 hs ((kill r.M ρ).set x (some (QaP is d (.lst ds'), true))) F' σ (upd H3 l (.lst vs')) := by
 obtain ⟨l, ws, L, rfl, _, _, zl, _⟩ := fo.rp.lst_inv
 obtain ⟨ol, on, _, oap, _⟩ := rel.own x d hx
 obtain ⟨gn, gs⟩ := p.fresh rel hf nd
 obtain ⟨vsm, Gp, g1, g2, g3, g4, g5, g6, g7, _⟩ := fo.mut (vs' := []) (ds' := []) (G' := []) on ol
 have hq : l ∉ Gn := λ h => by
  rcases (gs l h).2 with z | ⟨k', d', hk', ek, hak⟩
  ·obtain ⟨vs, w⟩ := rel.mem hx g5
   rw [z] at w; cases w
  ·exact oap k' d' true (λ z => hxM (z ▸ hk')) ek l g5 hak
 refine ⟨l, vsm, Gp, rfl, g1, g3, g4, g7, hq, zl, λ ds' vs' G' m1 m2 m3 m4 => ?_⟩
 obtain ⟨vs2, Gp2, k1, k2, k3, k4, k5, k6, k7, k8⟩ := fo.mut (vs' := vs') (ds' := ds') (G' := G') on ol
 have eG : Gp2 = Gp := by rw [g2] at k2; exact (List.cons.inj k2).2.symm
 subst eG
 obtain ⟨F', h1, h2, h3⟩ := k8 m1 m2 m3
 exact rel.mut p hf nd (Qq.refl _) hx hxM hv0 g1 g5 h1 h2 λ a => by have := h3 a; have := m4 a; omega
end
section
variable {X : Cx} {a b e : Expr} {fa fb : DE} {pf : DP} {x : Nat} {pos apos : Pos}
noncomputable def Qil (r : R) (x : Nat) : Bool := r.norm.fr && decide r.norm.M.Nodup && !r.norm.M.contains x
theorem Qmt {r : R} {x : Nat} (h : Qil r x = true) : r.norm.fr = true /\ r.norm.M.Nodup /\ x ∉ r.norm.M := by
 unfold Qil at h
 simp only [Zf, decide_eq_true_eq, Zar] at h
 exact ⟨h.1.1, h.1.2, λ z => by rw [List.contains_iff_mem.mpr z] at h; cases h.2⟩
noncomputable def Qdq (x : Nat) (pf : DP) (fa : DE) : DS := λ ρ => match ρ[x]? with
 | some (some (d, true)) => (pf ρ).bind λ is => (fa ρ).bind λ r0 => match QbB d is with
  | some (.lst ds) => if Qil r0 x && decide (ds.length < sizeLine) then some (.nx ((kill r0.norm.M ρ).set x (some (QaP is d (.lst (ds ++ [r0.d])), true)))) else none
  | _ => none
 | _ => none
theorem QmQ {H0 : Hp} {A0 : List Addr} {E : Ends} {σ : L2.St} {H : Hp} : tS X.K H0 A0 (Qdq x pf fa) E σ H -> Qik (tBM X.K "list" Qkr (tP X.K H0 A0 x pf) (QkQ (tV X.K H0 A0 fa) QkD)) E σ H := λ ⟨ρ, hs, F, o, rel, e, q⟩ => by
 unfold Qdq at e
 split at e
 ·rename_i d hx
  obtain ⟨is, e2, e⟩ := bind1 e
  obtain ⟨r0, e1, e⟩ := bind1 e
  split at e
  ·rename_i ds hp
   split at e
   ·rename_i hc
    simp only [Zf, decide_eq_true_eq] at hc
    obtain ⟨c1, c2, c3⟩ := Qmt hc.1
    cases e
    refine ⟨ρ, hs, F, d, true, is, .lst ds, rel, hx, e2, hp, λ v0 w H2 Gm s2 hv0 fo => ?_⟩
    have ty : tyV X.K "list" w H2 := by
     obtain ⟨l, ws, L, rfl, hl, _⟩ := fo.rp.lst_inv
     exact .inl ⟨rfl, ws, QI hl⟩
    refine ⟨ty, ρ, hs, F, r0, rel.ext s2, e1, λ vn H3 Gn p => ?_⟩
    have p' := p.norm
    obtain ⟨l, vsm, Gp, rfl, g1, g2, g3, g4, g5, g6, g7⟩ := (rel.ext s2).write p' c1 c2 hx c3 hv0 (fo.same p.same)
    refine ⟨l, vsm, vn, rfl, rfl, g1, by rw [← g2.length]; exact hc.2, ?_⟩
    have rn := p'.rp
    rw [r0.Qcv] at rn
    have hnl := (p'.cnt c1).2
    rw [r0.Qcv] at hnl
    have rw1 : Rps X.K (upd H3 l (.lst (vsm ++ [vn]))) [r0.d] [vn] Gn := by
     simp only [Rps]
     exact ⟨vn, [], Gn, [], rfl, by simp, rn.upd g1 g5, rfl, rfl⟩
    obtain ⟨F', rel'⟩ := g7 (ds ++ [r0.d]) (vsm ++ [vn]) (Gp ++ Gn) ((g2.upd g1 g4).append rw1) (by rw [Zp, ZaH]; omega) (by rw [Zp, Qdf, g3, hnl]; simp [nls]) (λ a => by rw [ZT]; omega)
    exact q _ _ F' rel'
   ·cases e
  ·cases e
 ·cases e
open PyProof.Rows in
theorem QlJ : QqH X (QqG X.K) := by
 intro pins s σ H o i ov iv Q I ro ri h
 obtain ⟨p, xs, k, v, rfl, rfl, hq, ha, q⟩ := h
 cases ro
 obtain ⟨t, rfl⟩ := ri
 obtain ⟨its, r, pl, hz⟩ := I.list hq
 obtain ⟨j, h1, h2, h3, h4, h5⟩ := Qhy ha
 obtain ⟨w, ew, rw'⟩ := r.get h2
 have hl := r.length
 have hn := Qel
 by_cases h0 : 0 <= k
 ·refine wpAny_getItem_list pl.isList h0 (by omega) (x := w) ?_ ⟨v, H, I, rw', q⟩
  have : k.toNat = j := by
   rw [seqIndex_of h0 h5] at h1
   exact Option.some.inj h1
  rw [this]; simpa using ew
 ·refine wpAny_getItem_list_neg pl.isList (by omega) (by rw [Zn] <;> omega) (by omega) (x := w) ?_ ⟨v, H, I, rw', q⟩
  have hj : (k + (its.toArray.size : Int)).toNat = j := by
   rw [seqIndex_neg (by omega) h4] at h1
   rw [Zn, ← hl]
   exact Option.some.inj h1
  rw [hj]; simpa using ew
noncomputable def QdH (g : D -> D -> Option D) (x : Nat) (pf : DP) (fi fa : DE) : DS := λ ρ => match ρ[x]? with
 | some (some (d, true)) => (pf ρ).bind λ is => (fi ρ).bind λ ri => match ri.d, QbB d is with
  | .int k, some (.lst ds) => (ixN ds.length k).bind λ j => (ds[j]?).bind λ old => (fa ρ).bind λ r => (g old r.d).map λ new => .nx (ρ.set x (some (QaP is d (.lst (ds.set j new)), true)))
  | _, _ => none
 | _ => none
theorem QoG {op : Operator} {i : Expr} {pos' : Pos} {fi : DE} {g : D -> D -> Option D} {r : R2} (ho : OpR X (inplaceOp op) r) (hg : Qby X.K g r) (hv : SE X e fa) (hp : SPa X a x pf) (hi : SE X i fi)
  (ha : ∀ ov iv new, augStore i ov iv new = (do holding [new, ov, iv] (setItem ov iv new); release [new, ov, iv] []; pure .next)) : S1 X (.AugAssign (.Subscript a i pos') op e pos) (QdH g x pf fi fa) := λ H0 A0 =>
 (Qpa (hp H0 A0) (hi H0 A0) QlJ (hv H0 A0) (λ pins s σ H x y v u Q I rx ry q => Qs0 ho I rx ry q) set_list ha).mono λ E σ H ⟨ρ, hs, F, o, rel, e, q⟩ => by
  unfold QdH at e
  split at e
  ·rename_i d hx
   obtain ⟨is, e2, e⟩ := bind1 e
   obtain ⟨ri, e3, e⟩ := bind1 e
   split at e
   ·rename_i k ds hk hp'
    obtain ⟨j, e4, e⟩ := bind1 e
    obtain ⟨old, e5, e⟩ := bind1 e
    obtain ⟨rv, e6, e⟩ := bind1 e
    obtain ⟨new, e7, e⟩ := Zb.mp e
    subst e
    have hjl := (QfB e4).2.1
    refine ⟨ρ, hs, F, d, true, is, .lst ds, rel, hx, e2, hp', λ v0 w H2 Gm s2 hv0 fo => ⟨ρ, hs, F, ri, rel.ext s2, e3, λ u H3 Gi pi => ?_⟩⟩
    have fo3 := fo.same pi.same
    have rpi := pi.rp
    rw [hk] at rpi
    rw [rpi.int_inv]
    have at3 : atI ds k = some old := by unfold atI; rw [e4]; exact e5
    obtain ⟨l, vs, v', Go, rfl, hc, h3, h4⟩ := Focus.one fo3.rp rfl at3
    have hc : SqL X.K H3 l vs := by
     rcases hc with ⟨_, hc⟩ | ⟨hc, _⟩
     ·exact hc
     ·cases hc
    refine ⟨l, vs, k, v', rfl, rfl, hc, h3, ρ, hs, F, rv, (rel.ext s2).ext pi.same, e6, λ y H4 G4 p4 => ?_⟩
    have fo4 := fo3.same p4.same
    have ro := h4.rp.same p4.same
    refine (hg _ _ _ e7).2 H4 v' y Go G4 _ ro p4.rp λ z hz => ?_
    have rel4 := ((rel.ext s2).ext pi.same).ext p4.same
    have pz : QH X.K ρ F H4 H4 ⟨new, true, []⟩ z [] := .flat (Qq.refl _) (hz H4) (hg _ _ _ e7).1
    obtain ⟨l', vsm, Gp, el, g1, g2, g3, g4, g5, g6, g7⟩ := rel4.write pz rfl Zaf hx (by simp) hv0 fo4
    cases el
    refine ⟨l, vsm, k, j, rfl, rfl, g1, by rw [← g2.length]; exact e4, ?_⟩
    obtain ⟨G', m1, m2, m3⟩ := set_mk g1 g2 g3 g4 g5 (hz H4) (QcK new (hg _ _ _ e7).1).symm hjl
    obtain ⟨F', rel'⟩ := g7 _ _ G' m1 (by rw [ZaR]; exact g6) m2 m3
    exact q _ _ F' rel'
   ·cases e
  ·cases e
end
end HS
namespace HS
open PySem PySem.Spec L2 PyProof.Rows
noncomputable def D.Qom : D -> Option Int
 | .int i => some i
 | _ => none
noncomputable def Qcs : List D -> Option (List Int)
 | [] => some []
 | d :: ds => (d.Qom).bind λ i => (Qcs ds).map λ r => i :: r
theorem QbP : ∀ {ds : List D} {ns : List Int}, Qcs ds = some ns -> ds = ns.map .int
 | [], _, h => by cases h; rfl
 | d :: ds, ns, h => by
  unfold Qcs at h
  obtain ⟨i, h1, h⟩ := bind1 h
  obtain ⟨r, h2, rfl⟩ := Zb.mp h
  cases d with
  | int j => cases h1; rw [QbP h2]; rfl
  | _ => cases h1
theorem Qf9 : ∀ (ns : List Int), Qcs (ns.map D.int) = some ns
 | [] => rfl
 | n :: ns => by simp [Qcs, Qf9 ns, D.Qom]
theorem Rps.ints {K : PySem.W.Frag} {H : Hp} : ∀ {ns : List Int} {vs : List V} {F : List Addr}, Rps K H (ns.map .int) vs F -> vs = ns.map .int
 | [], _, _, h => by simp only [ZaE, Rps] at h; rw [h.1]; rfl
 | n :: ns, _, _, h => by
  simp only [Zt, Rps] at h
  obtain ⟨v, ws, F1, F2, rfl, rfl, r, q⟩ := h
  rw [r.int_inv, Rps.ints q]; rfl
theorem QaW {ns : List Int} {us : List Value} (h : Ql (ns.map V.int) us) : IntsAre us ns := intsAre_of h
noncomputable def Qhn : List D -> Option (List Bool)
 | [] => some []
 | d :: ds => (match d with | .bl b => some b | _ => none).bind λ i => (Qhn ds).map λ r => i :: r
theorem Qjt : ∀ {ds : List D} {ns : List Bool}, Qhn ds = some ns -> ds = ns.map .bl
 | [], _, h => by cases h; rfl
 | d :: ds, ns, h => by
  unfold Qhn at h
  obtain ⟨i, h1, h⟩ := bind1 h
  obtain ⟨r, h2, rfl⟩ := Zb.mp h
  cases d with
  | bl j => cases h1; rw [Qjt h2]; rfl
  | _ => cases h1
theorem Rps.bls {K : PySem.W.Frag} {H : Hp} : ∀ {ns : List Bool} {vs : List V} {F : List Addr}, Rps K H (ns.map .bl) vs F -> vs = ns.map .bl
 | [], _, _, h => by simp only [ZaE, Rps] at h; rw [h.1]; rfl
 | n :: ns, _, _, h => by
  simp only [Zt, Rps] at h
  obtain ⟨v, ws, F1, F2, rfl, rfl, r, q⟩ := h
  rw [Rps.bls q]
  simp only [Rp] at r
  rw [r.1]; rfl
theorem QiW : ∀ {ns : List Bool} {us : List Value}, Ql (ns.map V.bl) us -> LSm.BoolsAre us ns
 | [], _, .nil => .nil
 | n :: ns, _, .cons r h => by cases r; exact .cons n (QiW h)
section
variable {X : Cx} {a b e : Expr} {es : List Expr} {fa fb : DE} {fs : DA} {pos p2 : Pos}
theorem QqK {k : Expr} {te tk : TE} (he : PE X e te) (hk : PE X k tk) : PE X (.Subscript e (.Slice none none (some k) p2) pos)
  (λ σ H Q => te σ H λ x H1 => tk σ H1 λ y H2 => ∃ a xs, x = .ref a /\ y = .int (-1) /\ SqL X.K H2 a xs /\ ∀ p, H2 p = none -> Q (.ref p) (upd H2 p (.lst xs.reverse))) := by
 intro pins s σ H Q I h
 refine PyProof.Rows.Subscript_ (thn (he pins s σ H _ I h) λ v s1 ⟨x, H1, I1, r1, q1⟩ => ?_)
 refine wpAny_Slice ?_
 rw [evalPart_none]
 refine wpAny_pure (wpAny_pure ?_)
 rw [evalPart_some]
 refine thn (hk pins s1 σ H1 _ I1 q1) λ vk s3 ⟨y, H3, I3, r3, q3⟩ => ?_
 obtain ⟨c, xs, rfl, rfl, hq, q⟩ := q3
 cases r1
 obtain ⟨t, rfl⟩ := r3
 have I4 : Inv X pins σ H3 { s3 with heap := s3.heap.push { cls := .type "slice", data := .fields #[.none, .none, .int (-1) t] } } := I3.kept (t' := s3.toks) λ b ob q => Zl _ q
 obtain ⟨its, r, ht, hz⟩ := I4.list hq
 have hlen := r.length
 refine tail_any (ops := [.ref c, .ref s3.heap.objs.size]) ht.isList.typeIs slot_list_getitem.lookup ?_ (by with_unfolding_all rfl)
 refine wpAny_getItem_list_slice ht.isList (Heap.IsSliceOf.new ..) .none .none (.int (-1) t) (by simp) ?_ (by rw [Zn] <;> omega)
 rw [PySem.W.krv_pick]
 refine ⟨.ref _, _, I4.laid (t' := s3.toks) (o := .lst xs.reverse) (λ b ob q => Zl _ q) (Zj _) ?_, rfl, q _ (I4.hok.fresh (Zj _))⟩
 exact ⟨by rw [ZaT]; exact hz, its.reverse, 0, r.reverse, Zy _ rfl⟩
theorem Rps.rev {K : PySem.W.Frag} {H : Hp} : ∀ {ds : List D} {vs : List V} {F : List Addr}, Rps K H ds vs F -> ∃ G, Rps K H ds.reverse vs.reverse G /\ ∀ a ∈ G, a ∈ F
 | [], _, _, h => by simp only [Rps] at h; rw [h.1, h.2]; exact ⟨[], by simp [Rps], λ _ h => h⟩
 | d :: ds, _, _, h => by
  simp only [Rps] at h
  obtain ⟨v, ws, F1, F2, rfl, rfl, r, q⟩ := h
  obtain ⟨G, h1, h2⟩ := Rps.rev q
  refine ⟨G ++ F1, ?_, λ a ha => ?_⟩
  ·rw [ZaF, ZaF]
   refine h1.append ?_
   simp only [Rps]
   exact ⟨v, [], F1, [], rfl, by simp, r, rfl, rfl⟩
  ·rcases ZD.mp ha with z | z
   ·exact Ze _ (h2 a z)
   ·exact Zd _ z
noncomputable def QiU (fa fk : DE) : DE := λ ρ => (fa ρ).bind λ ra => (fk ρ).bind λ rk => match ra.d, rk.d with
 | .lst xs, .int (-1) => some (Qav xs.reverse ra.M)
 | _, _ => none
theorem Qqx {k : Expr} {fk : DE} (ha : SE X a fa) (hk : SE X k fk) : SE X (.Subscript a (.Slice none none (some k) p2) pos) (QiU fa fk) := λ H0 A0 =>
 (QqK (ha H0 A0) (hk H0 A0)).mono λ σ H Q ⟨ρ, hs, F, r', rel, e, q⟩ => by
  obtain ⟨ra, e1, e⟩ := bind1 e
  obtain ⟨rk, e2, e⟩ := bind1 e
  refine two rel e1 e2 λ x y H1 H2 G1 G2 p1 p2 => ?_
  split at e
  ·rename_i xs hra hrk
   cases e
   have rp := p1.rp.same p2.same
   have rk' := p2.rp
   rw [hra] at rp
   rw [hrk] at rk'
   obtain ⟨c, vs, L, rfl, hc, rl, zl, el⟩ := rp.lst_inv
   refine ⟨c, vs, rfl, rk'.int_inv, QI hc, λ p hp => ?_⟩
   obtain ⟨G, h1, h2⟩ := rl.rev
   refine q _ _ (p :: G) (QH.Qav (p1.same.trans p2.same) hp h1 (by rw [ZaT]; exact zl) (λ z hz => p1.src z ?_) p1.own)
   rcases el with rfl | rfl
   ·exact Zc _ (h2 z hz)
   ·exact h2 z hz
  ·cases e
noncomputable def Qkz (K : PySem.W.Frag) (C : List Int -> Int -> Prop) : List V -> Hp -> VK -> Prop := λ xs H Q => ∃ (p : Addr) (ns : List Int), xs = [.ref p] /\ (SqL K H p (ns.map V.int) ∨ SqT K H p (ns.map V.int)) /\ ns ≠ [] /\ ∀ M, C ns M -> Q (.int M) H
def QgX (ns : List Int) (M : Int) : Prop := M ∈ ns /\ ∀ a ∈ ns, M <= a
def isMax (ns : List Int) (M : Int) : Prop := M ∈ ns /\ ∀ a ∈ ns, a <= M
theorem QbY {us : List Value} {ns : List Int} (hi : IntsAre us ns) : ∃ xs : Array (Int × Tok), us.toArray = intItems xs /\ ns = xs.toList.map (·.1) := by
 obtain ⟨xs, e⟩ := hi.allInts.items
 exact ⟨xs, e, by rw [← hi.numsOf, ← nums_intItems, ← e]⟩
theorem Qi7 {prog : Program} {w : World} {A : Around} {E : Value -> Shared -> Prop} {s : Shared} {l : Addr} {xs : Array (Int × Tok)} {Q : Value -> Shared -> Prop} (hh : A.handled = none) (hl : s.heap.IsTuple l (intItems xs)) (hne : 0 < xs.size)
  (h : ∀ v h' tk, (intItems xs)[argBest (λ i j => decide (numAt xs i < numAt xs j)) (xs.size - 1)]? = some v -> (∀ b o, s.heap.get? b = some o -> h'.get? b = some o) -> Q v { s with heap := h', toks := tk }) :
  wpAny (model prog w) A (call (.builtin "min") [.ref l]) Q E s := by
 have hlt : l < s.heap.objs.size := by obtain ⟨_, e, _⟩ := hl; exact Zk e
 refine call_min_walk (wpAny_pyIter_tuple hl ?_)
 refine ⟨_, [_, l], [_], _, _, _, _, rfl, Walks.tuple (A := A.in1) hh _ l (ZA hlt) (intItems xs), ⟨⟨_, Zy _ rfl, rfl, rfl⟩, hl.push _⟩, λ b hb => ?_, by simpa [intItems] using hne, CmpOf.ints_lt (numAt xs) (λ _ _ => intItems_at), λ v h' tk hP hk => ?_⟩
 ·show b < (s.heap.push _).objs.size
  rw [Zak]
  rcases Zm.mp hb with rfl | hb
  ·exact Zay _
  ·rcases Zm.mp hb with rfl | hb
   ·exact Zaq hlt
   ·cases hb
 ·refine h v h' tk (by simpa [intItems] using hP) λ b o e => ?_
  refine hk b o (λ hm => ?_) (Zl _ e)
  rcases Zm.mp hm with e1 | hm
  ·exact absurd (e1 ▸ Zk e) (ZF _)
  ·cases hm
theorem Qlu (hc : X.calm = true) : Qbj X (.builtin "min") (Qkz X.K QgX) := by
 intro pins s σ H xs us Q I r h
 obtain ⟨p, ns, rfl, hq, hne, q⟩ := h
 obtain ⟨u, rfl, rx⟩ := vals1 r
 cases rx
 rcases hq with hq | hq
 ·obtain ⟨its, r', pl, hz⟩ := I.list hq
  obtain ⟨ys, e, hns⟩ := QbY (QaW r')
  have hl := pl.isList
  rw [e] at hl
  have hsz : 0 < ys.size := by
   rcases ZaC ys.size with z | z
   ·exact absurd (by rw [hns, ZaB]; exact ZU (by simpa using z)) hne
   ·exact z
  refine min_intList (I.ok.hd hc) hl hsz λ v h' tk hv hk => ?_
  obtain ⟨t, rfl⟩ := intItems_at hv
  obtain ⟨h1, h2⟩ := argBest_lt (numAt ys) (ys.size - 1)
  refine ⟨.int _, H, I.kept hk, ⟨t, rfl⟩, q _ ⟨?_, λ a ha => ?_⟩⟩
  ·rw [hns, numAt_eq]; exact getD_mem (by rw [Zs, ZM]; omega)
  ·rw [hns] at ha
   obtain ⟨j, hj, rfl⟩ := mem_getD ha
   rw [Zs, ZM] at hj
   rw [← numAt_eq]; exact h2 j (by omega)
 ·obtain ⟨its, r', pl, hz⟩ := I.tuple hq
  obtain ⟨ys, e, hns⟩ := QbY (QaW r')
  have hl := pl
  rw [e] at hl
  have hsz : 0 < ys.size := by
   rcases ZaC ys.size with z | z
   ·exact absurd (by rw [hns, ZaB]; exact ZU (by simpa using z)) hne
   ·exact z
  refine Qi7 (I.ok.hd hc) hl hsz λ v h' tk hv hk => ?_
  obtain ⟨t, rfl⟩ := intItems_at hv
  obtain ⟨h1, h2⟩ := argBest_lt (numAt ys) (ys.size - 1)
  refine ⟨.int _, H, I.kept hk, ⟨t, rfl⟩, q _ ⟨?_, λ a ha => ?_⟩⟩
  ·rw [hns, numAt_eq]; exact getD_mem (by rw [Zs, ZM]; omega)
  ·rw [hns] at ha
   obtain ⟨j, hj, rfl⟩ := mem_getD ha
   rw [Zs, ZM] at hj
   rw [← numAt_eq]; exact h2 j (by omega)
theorem Qit {prog : Program} {w : World} {A : Around} {E : Value -> Shared -> Prop} {s : Shared} {l : Addr} {xs : Array (Int × Tok)} {Q : Value -> Shared -> Prop} (hh : A.handled = none) (hl : s.heap.IsTuple l (intItems xs)) (hne : 0 < xs.size)
  (h : ∀ v h' tk, (intItems xs)[argBest (λ i j => decide (numAt xs i > numAt xs j)) (xs.size - 1)]? = some v -> (∀ b o, s.heap.get? b = some o -> h'.get? b = some o) -> Q v { s with heap := h', toks := tk }) :
  wpAny (model prog w) A (call (.builtin "max") [.ref l]) Q E s := by
 have hlt : l < s.heap.objs.size := by obtain ⟨_, e, _⟩ := hl; exact Zk e
 refine call_max_walk (wpAny_pyIter_tuple hl ?_)
 refine ⟨_, [_, l], [_], _, _, _, _, rfl, Walks.tuple (A := A.in1) hh _ l (ZA hlt) (intItems xs), ⟨⟨_, Zy _ rfl, rfl, rfl⟩, hl.push _⟩, λ b hb => ?_, by simpa [intItems] using hne, CmpOf.ints_gt (numAt xs) (λ _ _ => intItems_at), λ v h' tk hP hk => ?_⟩
 ·show b < (s.heap.push _).objs.size
  rw [Zak]
  rcases Zm.mp hb with rfl | hb
  ·exact Zay _
  ·rcases Zm.mp hb with rfl | hb
   ·exact Zaq hlt
   ·cases hb
 ·refine h v h' tk (by simpa [intItems] using hP) λ b o e => ?_
  refine hk b o (λ hm => ?_) (Zl _ e)
  rcases Zm.mp hm with e1 | hm
  ·exact absurd (e1 ▸ Zk e) (ZF _)
  ·cases hm
theorem QlP (hc : X.calm = true) : Qbj X (.builtin "max") (Qkz X.K isMax) := by
 intro pins s σ H xs us Q I r h
 obtain ⟨p, ns, rfl, hq, hne, q⟩ := h
 obtain ⟨u, rfl, rx⟩ := vals1 r
 cases rx
 rcases hq with hq | hq
 ·obtain ⟨its, r', pl, hz⟩ := I.list hq
  obtain ⟨ys, e, hns⟩ := QbY (QaW r')
  have hl := pl.isList
  rw [e] at hl
  have hsz : 0 < ys.size := by
   rcases ZaC ys.size with z | z
   ·exact absurd (by rw [hns, ZaB]; exact ZU (by simpa using z)) hne
   ·exact z
  refine max_intList (I.ok.hd hc) hl hsz λ v h' tk hv hk => ?_
  obtain ⟨t, rfl⟩ := intItems_at hv
  obtain ⟨h1, h2⟩ := argBest_gt (numAt ys) (ys.size - 1)
  refine ⟨.int _, H, I.kept hk, ⟨t, rfl⟩, q _ ⟨?_, λ a ha => ?_⟩⟩
  ·rw [hns, numAt_eq]; exact getD_mem (by rw [Zs, ZM]; omega)
  ·rw [hns] at ha
   obtain ⟨j, hj, rfl⟩ := mem_getD ha
   rw [Zs, ZM] at hj
   rw [← numAt_eq]; exact h2 j (by omega)
 ·obtain ⟨its, r', pl, hz⟩ := I.tuple hq
  obtain ⟨ys, e, hns⟩ := QbY (QaW r')
  have hl := pl
  rw [e] at hl
  have hsz : 0 < ys.size := by
   rcases ZaC ys.size with z | z
   ·exact absurd (by rw [hns, ZaB]; exact ZU (by simpa using z)) hne
   ·exact z
  refine Qit (I.ok.hd hc) hl hsz λ v h' tk hv hk => ?_
  obtain ⟨t, rfl⟩ := intItems_at hv
  obtain ⟨h1, h2⟩ := argBest_gt (numAt ys) (ys.size - 1)
  refine ⟨.int _, H, I.kept hk, ⟨t, rfl⟩, q _ ⟨?_, λ a ha => ?_⟩⟩
  ·rw [hns, numAt_eq]; exact getD_mem (by rw [Zs, ZM]; omega)
  ·rw [hns] at ha
   obtain ⟨j, hj, rfl⟩ := mem_getD ha
   rw [Zs, ZM] at hj
   rw [← numAt_eq]; exact h2 j (by omega)
theorem Qjw {prog : Program} {w : World} {A : Around} {E : Value -> Shared -> Prop} {s : Shared} {l : Addr} {xs : Array (Int × Tok)} {Q : Value -> Shared -> Prop} (hh : A.handled = none) (hl : s.heap.IsTuple l (intItems xs))
  (h : ∀ h' tk t', (∀ b o, s.heap.get? b = some o -> h'.get? b = some o) -> Q (.int (preSum (numAt xs) xs.size) t') { s with heap := h', toks := tk }) :
  wpAny (model prog w) A (call (.builtin "sum") [.ref l]) Q E s := by
 have hlt : l < s.heap.objs.size := by obtain ⟨_, e, _⟩ := hl; exact Zk e
 refine call_sum_walkG (wpAny_pyIter_tuple hl ?_)
 refine ⟨_, [_, l], [_], _, _, _, numAt xs, rfl, Walks.tuple (A := A.in1) hh _ l (ZA hlt) (intItems xs), ⟨⟨_, Zy _ rfl, rfl, rfl⟩, hl.push _⟩, λ b hb => ?_, (λ _ _ => intItems_at), λ h' tk t' hk => ?_⟩
 ·show b < (s.heap.push _).objs.size
  rw [Zak]
  rcases Zm.mp hb with rfl | hb
  ·exact Zay _
  ·rcases Zm.mp hb with rfl | hb
   ·exact Zaq hlt
   ·cases hb
 ·have := h h' tk t' λ b o e => by
   refine hk b o (λ hm => ?_) (Zl _ e)
   rcases Zm.mp hm with e1 | hm
   ·exact absurd (e1 ▸ Zk e) (ZF _)
   ·cases hm
  simpa [intItems] using this
noncomputable def QqQ (K : PySem.W.Frag) : List V -> Hp -> VK -> Prop := λ xs H Q => ∃ (p : Addr) (ns : List Int), xs = [.ref p] /\ (SqL K H p (ns.map V.int) ∨ SqT K H p (ns.map V.int)) /\ Q (.int ns.sum) H
theorem QlU (hc : X.calm = true) : Qbj X (.builtin "sum") (QqQ X.K) := by
 intro pins s σ H xs us Q I r h
 obtain ⟨p, ns, rfl, hq, q⟩ := h
 obtain ⟨u, rfl, rx⟩ := vals1 r
 cases rx
 rcases hq with hq | hq
 ·obtain ⟨its, r', pl, hz⟩ := I.list hq
  obtain ⟨ys, e, hns⟩ := QbY (QaW r')
  have hl := pl.isList
  rw [e] at hl
  refine sum_intListG (I.ok.hd hc) hl λ h' tk t' hk => ?_
  refine ⟨.int ns.sum, H, I.kept hk, ⟨t', ?_⟩, q⟩
  rw [preSum_eq, Zbg (by simp), hns]
 ·obtain ⟨its, r', pl, hz⟩ := I.tuple hq
  obtain ⟨ys, e, hns⟩ := QbY (QaW r')
  have hl := pl
  rw [e] at hl
  refine Qjw (I.ok.hd hc) hl λ h' tk t' hk => ?_
  refine ⟨.int ns.sum, H, I.kept hk, ⟨t', ?_⟩, q⟩
  rw [preSum_eq, Zbg (by simp), hns]
theorem Qlj (hc : X.calm = true) : Qbj X (.builtin "all") (λ xs H Q => ∃ (p : Addr) (ns : List Bool), xs = [.ref p] /\ SqL X.K H p (ns.map V.bl) /\ Q (.bl (ns.all id)) H) := by
 intro pins s σ H xs us Q I r h
 obtain ⟨p, ns, rfl, hq, q⟩ := h
 obtain ⟨u, rfl, rx⟩ := vals1 r
 cases rx
 obtain ⟨its, r', pl, hz⟩ := I.list hq
 have hb := QiW r'
 have hl := pl.isList
 have hlt : p < s.heap.objs.size := by obtain ⟨_, e, _⟩ := hl; exact Zk e
 refine call_all_walk (wpAny_pyIter_list hl ?_)
 refine ⟨s.heap.objs.size, [s.heap.objs.size, p], [s.heap.objs.size], its.toArray.size, _, _, λ i => (ns[i]?).getD true, rfl, Walks.list (A := X.A.in1) (I.ok.hd hc) _ p (ZA hlt) its.toArray,
  ⟨⟨_, Zy _ rfl, rfl, rfl⟩, hl.push _⟩, λ i v s' Q' E' hP hQ => ?_, λ h' tk hk => ?_⟩
 ·obtain ⟨b, e, rfl⟩ := hb.get i v (by simpa using hP)
  simp only [e, Option.getD_some] at hQ
  exact wpAny_truthy_bool hQ
 ·have e : ((List.range its.toArray.size).all λ i => (ns[i]?).getD true) = ns.all id := by
   rw [Zn, hb.length]; exact LSm.range_all ns
  rw [e]
  exact ⟨.bl (ns.all id), H, I.kept (LSm.kept_iter hk), rfl, q⟩
noncomputable def QfY : List Int -> Option Int
 | [] => none
 | [n] => some n
 | n :: r => (QfY r).map λ m => if m < n then m else n
noncomputable def Qis : List Int -> Option Int
 | [] => none
 | [n] => some n
 | n :: r => (Qis r).map λ m => if n < m then m else n
theorem Qft : ∀ {ns : List Int} {m : Int}, QfY ns = some m -> QgX ns m
 | [], _, h => by cases h
 | [n], _, h => by cases h; exact ⟨by simp, λ a ha => by simp at ha; omega⟩
 | n :: k :: r, m, h => by
  simp only [QfY] at h
  obtain ⟨m', h1, rfl⟩ := Zb.mp h
  obtain ⟨h2, h3⟩ := Qft h1
  constructor
  ·split
   ·exact Zc _ h2
   ·exact Zh
  ·intro a ha
   rcases Zm.mp ha with rfl | ha
   ·split <;> omega
   ·have := h3 a ha; split <;> omega
theorem Qg4 : ∀ {ns : List Int} {m : Int}, Qis ns = some m -> isMax ns m
 | [], _, h => by cases h
 | [n], _, h => by cases h; exact ⟨by simp, λ a ha => by simp at ha; omega⟩
 | n :: k :: r, m, h => by
  simp only [Qis] at h
  obtain ⟨m', h1, rfl⟩ := Zb.mp h
  obtain ⟨h2, h3⟩ := Qg4 h1
  constructor
  ·split
   ·exact Zc _ h2
   ·exact Zh
  ·intro a ha
   rcases Zm.mp ha with rfl | ha
   ·split <;> omega
   ·have := h3 a ha; split <;> omega
theorem QhX {ns : List Int} {a b : Int} (h : QgX ns a) (g : QgX ns b) : a = b := by have := h.2 b g.1; have := g.2 a h.1; omega
theorem Qh6 {ns : List Int} {a b : Int} (h : isMax ns a) (g : isMax ns b) : a = b := by have := h.2 b g.1; have := g.2 a h.1; omega
noncomputable def QbE : List D -> Option D
 | [.lst xs] => (Qcs xs).bind λ ns => (QfY ns).map .int
 | [.tup xs] => (Qcs xs).bind λ ns => (QfY ns).map .int
 | _ => none
noncomputable def Qes : List D -> Option D
 | [.lst xs] => (Qcs xs).bind λ ns => (Qis ns).map .int
 | [.tup xs] => (Qcs xs).bind λ ns => (Qis ns).map .int
 | _ => none
noncomputable def Qfs : List D -> Option D
 | [.lst xs] => (Qcs xs).map λ ns => .int ns.sum
 | [.tup xs] => (Qcs xs).map λ ns => .int ns.sum
 | _ => none
theorem Qpo {K : PySem.W.Frag} : QdZ K QbE (Qkz K QgX) := λ ds d e => by
 unfold QbE at e
 split at e
 ·obtain ⟨ns, h1, e⟩ := bind1 e
  obtain ⟨m, h2, rfl⟩ := Zb.mp e
  refine ⟨rfl, λ H vs F Q r q => ?_⟩
  obtain ⟨v, rfl, rp⟩ := r.one
  obtain ⟨l, ws, L, rfl, hl, rl, zl, el⟩ := rp.lst_inv
  rw [QbP h1] at rl
  rw [rl.ints] at hl
  exact ⟨l, ns, rfl, .inl (QI hl), λ z => (by rw [z] at h2; cases h2), λ M hM => by rw [QhX hM (Qft h2)]; exact q _ λ _ => .int_mk⟩
 ·obtain ⟨ns, h1, e⟩ := bind1 e
  obtain ⟨m, h2, rfl⟩ := Zb.mp e
  refine ⟨rfl, λ H vs F Q r q => ?_⟩
  obtain ⟨v, rfl, rp⟩ := r.one
  obtain ⟨l, ws, rfl, hl, rl⟩ := rp.Qap
  rw [QbP h1] at rl
  rw [rl.ints] at hl
  exact ⟨l, ns, rfl, .inr hl, λ z => (by rw [z] at h2; cases h2), λ M hM => by rw [QhX hM (Qft h2)]; exact q _ λ _ => .int_mk⟩
 ·cases e
theorem QoX {K : PySem.W.Frag} : QdZ K Qes (Qkz K isMax) := λ ds d e => by
 unfold Qes at e
 split at e
 ·obtain ⟨ns, h1, e⟩ := bind1 e
  obtain ⟨m, h2, rfl⟩ := Zb.mp e
  refine ⟨rfl, λ H vs F Q r q => ?_⟩
  obtain ⟨v, rfl, rp⟩ := r.one
  obtain ⟨l, ws, L, rfl, hl, rl, zl, el⟩ := rp.lst_inv
  rw [QbP h1] at rl
  rw [rl.ints] at hl
  exact ⟨l, ns, rfl, .inl (QI hl), λ z => (by rw [z] at h2; cases h2), λ M hM => by rw [Qh6 hM (Qg4 h2)]; exact q _ λ _ => .int_mk⟩
 ·obtain ⟨ns, h1, e⟩ := bind1 e
  obtain ⟨m, h2, rfl⟩ := Zb.mp e
  refine ⟨rfl, λ H vs F Q r q => ?_⟩
  obtain ⟨v, rfl, rp⟩ := r.one
  obtain ⟨l, ws, rfl, hl, rl⟩ := rp.Qap
  rw [QbP h1] at rl
  rw [rl.ints] at hl
  exact ⟨l, ns, rfl, .inr hl, λ z => (by rw [z] at h2; cases h2), λ M hM => by rw [Qh6 hM (Qg4 h2)]; exact q _ λ _ => .int_mk⟩
 ·cases e
theorem QpR {K : PySem.W.Frag} : QdZ K Qfs (QqQ K) := λ ds d e => by
 unfold Qfs at e
 split at e
 ·obtain ⟨ns, h1, rfl⟩ := Zb.mp e
  refine ⟨rfl, λ H vs F Q r q => ?_⟩
  obtain ⟨v, rfl, rp⟩ := r.one
  obtain ⟨l, ws, L, rfl, hl, rl, zl, el⟩ := rp.lst_inv
  rw [QbP h1] at rl
  rw [rl.ints] at hl
  exact ⟨l, ns, rfl, .inl (QI hl), q _ λ _ => .int_mk⟩
 ·obtain ⟨ns, h1, rfl⟩ := Zb.mp e
  refine ⟨rfl, λ H vs F Q r q => ?_⟩
  obtain ⟨v, rfl, rp⟩ := r.one
  obtain ⟨l, ws, rfl, hl, rl⟩ := rp.Qap
  rw [QbP h1] at rl
  rw [rl.ints] at hl
  exact ⟨l, ns, rfl, .inr hl, q _ λ _ => .int_mk⟩
 ·cases e
noncomputable def Qep : List D -> Option D
 | [.lst xs] => (Qhn xs).map λ ns => .bl (ns.all id)
 | _ => none
theorem Qp5 {K : PySem.W.Frag} : QdZ K Qep (λ xs H Q => ∃ (p : Addr) (ns : List Bool), xs = [.ref p] /\ SqL K H p (ns.map V.bl) /\ Q (.bl (ns.all id)) H) := λ ds d e => by
 unfold Qep at e
 split at e
 ·obtain ⟨ns, h1, rfl⟩ := Zb.mp e
  refine ⟨rfl, λ H vs F Q r q => ?_⟩
  obtain ⟨v, rfl, rp⟩ := r.one
  obtain ⟨l, ws, L, rfl, hl, rl, zl, el⟩ := rp.lst_inv
  rw [Qjt h1] at rl
  rw [rl.bls] at hl
  exact ⟨l, ns, rfl, QI hl, q _ λ _ => .Qbg⟩
 ·cases e
end
end HS
namespace HS
open PySem PySem.Spec L2 PyProof.Rows
theorem QfR : ∀ {vs : List V} {us : List Value}, us.length = vs.length -> (∀ (k : Nat) (v : V), vs[k]? = some v -> ∃ u, us[k]? = some u /\ RelV v u) -> Ql vs us
 | [], [], _, _ => .nil
 | [], _ :: _, h, _ => by simp at h
 | _ :: _, [], h, _ => by simp at h
 | v :: vs, u :: us, h, g => by
  obtain ⟨u', e, r⟩ := g 0 v rfl
  cases e
  exact .cons r (QfR (by simpa using h) λ k v hk => g (k + 1) v hk)
section
variable {X : Cx} {a b c e tg : Expr} {es : List Expr} {fa fb fc : DE} {fs : DA} {pos p2 : Pos}
theorem Qlt {pins : List (Addr × Obj)} {σ : L2.St} {H : Hp} {s : Shared} {Q : VK} {E : Value -> Shared -> Prop} {j : Int} {t u v : Tok} {tk : Nat} (I : Inv X pins σ H s) (hc : X.calm = true) (h0 : 0 <= j) (h1 : j <= 1000000)
  (q : ∀ l, H l = none -> Q (.ref l) (upd H l (.lst ((List.range j.toNat).map λ (k : Nat) => V.int (k : Int))))) :
  wpAny (model X.prog X.w) X.A (call (.type "list") [.ref s.heap.objs.size]) (EP X pins σ Q) E { s with heap := s.heap.push { cls := .type "range", data := .fields #[.int 0 t, .int j u, .int 1 v] }, toks := tk } := by
 have I2 : Inv X pins σ H { s with heap := s.heap.push { cls := .type "range", data := .fields #[.int 0 t, .int j u, .int 1 v] }, toks := tk } := I.kept λ b o e => Zl _ e
 refine call_list_range (n := j.toNat) (I.ok.hd hc) (IsRange.new ..) (small_one (by omega) (by omega) (by omega) (by omega)) (by rw [rangeSize_one]; split <;> omega) (by omega) λ h' tk' acc' c' hk hS hacc => ?_
 have hv : Ql ((List.range j.toNat).map λ (k : Nat) => V.int (k : Int)) acc'.toList := by
  have hl := hacc.1
  refine QfR (by simp [hl]) λ k v hk => ?_
  rw [Zx] at hk
  have hkl : k < j.toNat := by
   by_cases z : k < j.toNat
   ·exact z
   ·rw [Zz (by simp; omega)] at hk; cases hk
  rw [Zai hkl] at hk
  cases hk
  obtain ⟨w, hw⟩ : ∃ w, acc'[k]? = some w := ⟨acc'[k]'(by omega), by rw [Array.getElem?_eq_getElem (by omega)]⟩
  obtain ⟨t', rfl⟩ := hacc.2 k w hw
  exact ⟨_, by rw [Array.getElem?_toList]; exact hw, ⟨t', by simp⟩⟩
 refine ⟨.ref _, _, I2.laid hk (Zj _) (show QaY X.prog X.w _ h' _ (.lst _) from ⟨by simp [QfA]; omega, acc'.toList, c', hv, by simpa using hS⟩), rfl, q _ (I2.hok.fresh (Zj _))⟩
theorem QlY {p p' pos' : Pos} {ta : TA} (hg : Gl X "list") (hm : X.mg "list" = none) (hg' : Gl X "range") (hm' : X.mg "range" = none) (hc : X.calm = true) (ha : PA X [a] ta) (hs : starEach [a] X.env = [(false, eval a X.env)]) :
  PE X (.Call (.Name "list" p) [.Call (.Name "range" p') [a] [] pos'] [] pos) (λ σ H Q => ta σ H λ vs H1 => ∃ j : Int, vs = [.int j] /\ 0 <= j /\ j <= 1000000 /\ ∀ l, H1 l = none -> Q (.ref l) (upd H1 l (.lst ((List.range j.toNat).map λ (k : Nat) => V.int (k : Int))))) := by
 intro pins s σ H Q I h
 refine wpAny_Call_Name_kw (Qb5 I hg hm boot_list ?_ (by decide) (by decide))
 refine ZK (Calls.spliced_cons ?_) rfl rfl
 refine Call_ (Qb5 I hg' hm' boot_range (ZK (thn (ha pos' pins s σ H _ I h) λ us s1 ⟨vs, H1, I1, r1, q1⟩ => ?_) hs rfl))
 obtain ⟨j, e, q1, q2, q⟩ := q1
 subst e
 cases r1 with
 | cons r rr =>
  cases rr
  obtain ⟨t, rfl⟩ := r
  exact call_range_1 (Calls.spliced_nil (Qlt I1 hc q1 q2 q))
noncomputable def QeG (fa : DE) : DE := λ ρ => (fa ρ).bind λ r => match r.d with
 | .int j => if 0 <= j /\ j <= 1000000 then some ⟨.lst ((List.range j.toNat).map λ (k : Nat) => .int (k : Int)), true, []⟩ else none
 | _ => none
theorem Rps.ofInts {K : PySem.W.Frag} {H : Hp} : ∀ ns : List Int, Rps K H (ns.map .int) (ns.map .int) []
 | [] => by simp [Rps]
 | n :: ns => by simp only [Zt, Rps]; exact ⟨_, _, [], [], rfl, rfl, .int_mk, Rps.ofInts ns⟩
theorem QlO : ∀ ns : List Int, Qo (ns.map .int) = true
 | [] => rfl
 | n :: ns => by simp [Qo, D.flat, QlO ns]
theorem QpA {p p' pos' : Pos} (hg : Gl X "list") (hm : X.mg "list" = none) (hg' : Gl X "range") (hm' : X.mg "range" = none) (hc : X.calm = true) (ha : SE X a fa) (hs : starEach [a] X.env = [(false, eval a X.env)]) :
  SE X (.Call (.Name "list" p) [.Call (.Name "range" p') [a] [] pos'] [] pos) (QeG fa) := λ H0 A0 =>
 (QlY hg hm hg' hm' hc (Qag (ha H0 A0) QbQ hs) hs).mono λ σ H Q ⟨ρ, hs, F, r', rel, e, q⟩ => by
  obtain ⟨ra, e1, e⟩ := bind1 e
  refine ⟨ρ, hs, F, ra, rel, e1, λ v H1 G p1 => ?_⟩
  cases hd : ra.d with
  | int j =>
   rw [hd] at e
   dsimp only at e
   split at e
   ·rename_i hj
    cases e
    have rp := p1.rp
    rw [hd] at rp
    refine ⟨j, by rw [rp.int_inv], hj.1, hj.2, λ l hl => ?_⟩
    have e2 : ((List.range j.toNat).map λ (k : Nat) => D.int (k : Int)) = ((List.range j.toNat).map λ (k : Nat) => (k : Int)).map D.int := by rw [Zad]; rfl
    have e3 : ((List.range j.toNat).map λ (k : Nat) => V.int (k : Int)) = ((List.range j.toNat).map λ (k : Nat) => (k : Int)).map V.int := by rw [Zad]; rfl
    have := QH.Qav (M := []) (ρ := ρ) (F := F) p1.same hl (Rps.ofInts (K := X.K) (H := H1) ((List.range j.toNat).map λ (k : Nat) => (k : Int))) (by simp [QfA]; omega) Src.nil QaN.nil
    rw [← e2, ← e3] at this
    unfold Qav at this
    rw [if_pos (by rw [e2]; exact QlO _)] at this
    exact q _ _ _ this
   ·cases e
  | _ => rw [hd] at e; cases e
end
end HS
namespace HS
open PySem PySem.Spec PyProof.Rows L2
section
variable {X : Cx} {a b c : Expr} {fa fb fc : DE} {pos : Pos}
end
end HS
namespace HS
open PySem PySem.Spec L2
structure FnR where
 n : Nat
 dfl : List D
 den : Den
structure Th where
 N : List Str
 sc : List (Str × NameKind)
 Γ : List (Str × FnR)
 cs : List (Str × Int)
 tr : Stmt -> Option DS := λ _ => none
noncomputable def posOf (x : Str) : List Str -> Option Nat
 | [] => none
 | y :: ys => if x = y then some 0 else (posOf x ys).map (· + 1)
theorem QdJ : ∀ {x : Str} {ys : List Str} {i : Nat}, posOf x ys = some i -> ys[i]? = some x
 | x, [], i, h => by cases h
 | x, y :: ys, i, h => by
  unfold posOf at h
  split at h
  ·rename_i e; cases h; subst e; rfl
  ·obtain ⟨j, hj, rfl⟩ := Zb.mp h
   simpa using QdJ hj
noncomputable def look {α : Type} (x : Str) : List (Str × α) -> Option α
 | [] => none
 | (y, a) :: r => if x = y then some a else look x r
theorem Qaf {α : Type} : ∀ {x : Str} {l : List (Str × α)}, look x l = l.lookup x
 | x, [] => rfl
 | x, (y, a) :: r => by
  unfold look
  rw [Zq]
  by_cases h : x = y
  ·subst h; simp
  ·rw [if_neg h, Qaf]
   have : (x == y) = false := by simpa using h
   rw [this]
noncomputable def Qog : NameKind -> Bool
 | .local => true | .cell => true | .free => true | _ => false
noncomputable def Qor : NameKind -> Bool
 | .local => true | .cell => true | _ => false
noncomputable def QsM : NameKind -> Bool
 | .globalImplicit => true | _ => false
noncomputable def isFree : NameKind -> Bool
 | .free => true | _ => false
noncomputable def odd (x : Str) : Bool := decide (x = "__debug__") || decide (x = "__classdict__") || decide (x = "__name__")
noncomputable def Th.slot (Θ : Th) (x : Str) : Option Nat := if ((look x Θ.sc).map Qog).getD false && !odd x then posOf x Θ.N else none
noncomputable def Th.Qcb (Θ : Th) (x : Str) : Option Nat := if ((look x Θ.sc).map Qor).getD false && !odd x then posOf x Θ.N else none
noncomputable def Th.gl (Θ : Th) (x : Str) : Bool := ((look x Θ.sc).map QsM).getD false && !odd x
def QpO (X : Cx) (x : Str) (r : FnR) : Prop := ∃ k f fd ps, Qbe X.prog X.w X.K X.mg X.base CX0 k f fd ps (spV X.K r.n r.den) /\ QW k X.A /\ X.mg x = some (.ref f) /\ PySem.W.keepIn X.K (.ref f) = true ∧
 ∀ m, m <= r.dfl.length -> ∃ ds dvs, Binds X.K fd ps ds /\ Ql dvs ds /\ ∀ H, Rps X.K H (r.dfl.drop (r.dfl.length - m)) dvs []
noncomputable def QiM : List Str := ["range", "enumerate", "zip", "len", "list", "min", "max", "sum", "abs", "isinstance", "int", "bool", "tuple", "str", "divmod", "sorted", "any", "all"]
structure CtxB (X : Cx) (Θ : Th) : Prop where
 N : X.N = Θ.N
 nd : Θ.N.Nodup
 lc : ∀ x, look x Θ.sc = some .local -> X.env.scope.names.lookup x = some .local
 ce : ∀ x, look x Θ.sc = some .cell -> X.env.scope.names.lookup x = some .cell /\ X.fn x = true
 fe : ∀ x, look x Θ.sc = some .free -> X.env.scope.names.lookup x = some .cell ∨ X.env.scope.names.lookup x = some .free
 gl : ∀ x, look x Θ.sc = some .globalImplicit -> X.env.scope.names.lookup x = some .globalImplicit
 units : X.A.units + 64 < cLine
 mg : ∀ x ∈ QiM, X.mg x = none
 cs : ∀ x i, look x Θ.cs = some i -> ∃ t, X.mg x = some (.int i t)
structure QF (X : Cx) (Θ : Th) : Prop extends CtxB X Θ where
 calm : X.calm = true
 pass : PassesOwn (model X.prog X.w) X.A X.env X.xe
 fns : ∀ x r, look x Θ.Γ = some r -> QpO X x r
 tr : ∀ st f, Θ.tr st = some f -> S1 X st f
section
variable {X : Cx} {Θ : Th}
theorem Qj4 {x : Str} (h : odd x = false) : (x == ("__debug__" : Str)) = false /\ (x == ("__classdict__" : Str)) = false /\ x ≠ "__name__" := by
 unfold odd at h
 simp only [Bool.or_eq_false_iff, decide_eq_false_iff_not] at h
 exact ⟨by simpa using h.1.1, by simpa using h.1.2, h.2⟩
theorem QhM (ok : CtxB X Θ) {x : Str} {i : Nat} {pos : Pos} (h : Θ.slot x = some i) : PE X (.Name x pos) (QkV i) := by
 unfold Th.slot at h
 split at h
 ·rename_i hc
  simp only [Zf, Zar] at hc
  obtain ⟨h1, h2, _⟩ := Qj4 hc.2
  refine QqU (by rw [ok.N]; exact QdJ h) ?_ h1 h2
  cases q : look x Θ.sc with
  | none => rw [q] at hc; cases hc.1
  | some k =>
   rw [q] at hc
   cases k with
   | «local» => exact .inl (ok.lc x q)
   | cell => exact .inr (.inl (ok.ce x q).1)
   | free => exact .inr (ok.fe x q)
   | _ => cases hc.1
 ·cases h
theorem Qcc (ok : CtxB X Θ) {x : Str} {i : Nat} (h : Θ.Qcb x = some i) : X.N[i]? = some x /\ Loc X.env.scope x /\ (X.fn x = true ∨ X.env.scope.names.lookup x = some .local) := by
 unfold Th.Qcb at h
 split at h
 ·rename_i hc
  simp only [Zf, Zar] at hc
  refine ⟨by rw [ok.N]; exact QdJ h, ?_⟩
  cases q : look x Θ.sc with
  | none => rw [q] at hc; cases hc.1
  | some k =>
   rw [q] at hc
   cases k with
   | «local» => exact ⟨.inl (ok.lc x q), .inr (ok.lc x q)⟩
   | cell => exact ⟨.inr (ok.ce x q).1, .inl (ok.ce x q).2⟩
   | _ => cases hc.1
 ·cases h
theorem Qbh (ok : CtxB X Θ) {x : Str} (h : Θ.gl x = true) : Gl X x /\ (x == ("__debug__" : Str)) = false /\ x ≠ "__name__" := by
 unfold Th.gl at h
 simp only [Zf, Zar] at h
 obtain ⟨h1, h2, h3⟩ := Qj4 h.2
 refine ⟨?_, h1, h3⟩
 cases q : look x Θ.sc with
 | none => rw [q] at h; cases h.1
 | some k =>
  rw [q] at h
  cases k with
  | globalImplicit => exact ok.gl x q
  | _ => cases h.1
end
noncomputable def isTup : Expr -> Bool
 | .Tuple .. => true
 | _ => false
noncomputable def Qds : Expr -> Option Str
 | .Name x _ => some x
 | _ => none
noncomputable def Qdu (Θ : Th) : Expr -> Option Tg
 | .Name x _ => (Θ.Qcb x).map .nm
 | .Tuple es _ _ => ((es.mapM Qds).bind λ xs => xs.mapM Θ.Qcb).map .tp
 | _ => none
noncomputable def Qk7 : CmpOp -> Option (D -> D -> Option D)
 | .Eq => some gEq | .NotEq => some gNe | .Lt => some gLt | .LtE => some gLe | .Gt => some gGt | .GtE => some gGe
 | .Is => none | .IsNot => none
 | .In => some (gIn false) | .NotIn => some (gIn true)
noncomputable def Qnc (x : Str) : Option String :=
 if x = "int" then some "int" else if x = "bool" then some "bool" else if x = "list" then some "list" else if x = "tuple" then some "tuple" else if x = "str" then some "str" else none
noncomputable def inner (Θ : Th) (scope : Scope) : Th := { N := (scope.names.filter λ y => Qog y.2).map (·.1), sc := scope.names, Γ := Θ.Γ, cs := Θ.cs }
noncomputable def QfC (Θ : Th) (scope : Scope) : List (Option Nat) := (inner Θ scope).N.map λ x => if ((look x scope.names).map isFree).getD false then posOf x Θ.N else none
noncomputable def Qgw (Θ : Th) (scope : Scope) (t : Tg) : Bool := (scope.kind == .function) && decide (inner Θ scope).N.Nodup &&
 (scope.names.all λ y => match y.2 with
  | .cell => decide (look y.1 scope.names = some .cell)
  | .local => decide (look y.1 scope.names = some .local)
  | .free => match look y.1 Θ.sc with
   | some .cell => true
   | some .free => true
   | _ => false
  | _ => true) &&
 t.slots.all λ j => match (QfC Θ scope)[j]? with
  | some (some _) => false
  | _ => true
noncomputable def Qga (Θ : Th) (x : Str) (a : Expr) : Option Expr := match a with
 | .Call (.Name y _) [b] [] _ => if x = "list" /\ y = "range" /\ Θ.gl y = true /\ (look y Θ.Γ).isNone = true then some b else none
 | _ => none
noncomputable def Qsl : List Expr -> Bool
 | [] => true | [_] => true | _ => false
noncomputable def bf1 (x : Str) (fa : DE) : Option DE :=
 if x = "len" then some (dBf QcF (Qb fa Qc)) else
 if x = "list" then some (dList (Qb fa Qc)) else
 if x = "min" then some (dBf QbE (Qb fa Qc)) else
 if x = "max" then some (dBf Qes (Qb fa Qc)) else
 if x = "sum" then some (dBf Qfs (Qb fa Qc)) else
 if x = "all" then some (dBf Qep (Qb fa Qc)) else
 none
noncomputable def bf2 (x : Str) (fa fb : DE) : Option DE :=
 none
mutual
noncomputable def Qh (n : Nat) (Θ : Th) (e : Expr) : Option DE := match n with
 | 0 => none
 | n + 1 => match e with
  | .Name x _ => match Θ.slot x with
   | some i => some (Qa i)
   | none => if Θ.gl x then (look x Θ.cs).map λ i => dC (.int i) else none
  | .Constant (.int i) _ _ => some (dC (.int i))
  | .Constant (.bool b) _ _ => some (dC (.bl b))
  | .Constant .none _ _ => some (dC .non)
  | .Constant (.str x) _ _ => some (dC (.str x))
  | .BinOp a op b _ => (Qh n Θ a).bind λ fa => (Qh n Θ b).bind λ fb => match op with
   | .Add => some (QN fa fb)
   | .Mult => some (Qbf fa fb)
   | .Sub => some (dOp Qet fa fb)
   | .FloorDiv => some (dOp QcD fa fb)
   | .Mod => some (dOp Qaa fa fb)
   | .Pow => some (dOp QiH fa fb)
   | _ => none
  | .UnaryOp .USub a _ => (Qh n Θ a).map Qi1
  | .UnaryOp .Not a _ => (Qh n Θ a).map Qnr
  | .BoolOp .And [a] _ => Qh n Θ a
  | .BoolOp .And (a :: b :: r) p => (Qh n Θ a).bind λ fa => (Qh n Θ (.BoolOp .And (b :: r) p)).map λ fb => QdE fa fb
  | .BoolOp .Or [a] _ => Qh n Θ a
  | .BoolOp .Or (a :: b :: r) p => (Qh n Θ a).bind λ fa => (Qh n Θ (.BoolOp .Or (b :: r) p)).map λ fb => dOr fa fb
  | .Compare a [op] [b] _ => (Qh n Θ a).bind λ fa => (Qh n Θ b).bind λ fb => (Qk7 op).map λ g => dOp g fa fb
  | .Tuple es _ _ => (QaD n Θ es).map Qa9
  | .List es _ => (QaD n Θ es).map Qae
  | .Subscript a (.Slice lo hi none _) _ => (Qh n Θ a).bind λ fa => (QfI n Θ lo).bind λ fl => (QfI n Θ hi).map λ fh => QbA fa fl fh
  | .Subscript a (.Slice none none (some k) _) _ => (Qh n Θ a).bind λ fa => (Qh n Θ k).map λ fk => QiU fa fk
  | .Subscript a b _ => (Qh n Θ a).bind λ fa => (Qh n Θ b).map λ fb => Qs fa fb
  | .Call (.Name x _) args [] _ => if Θ.gl x then (match look x Θ.Γ with
    | some r => if r.n <= args.length + r.dfl.length /\ args.length <= r.n then (QaD n Θ args).map λ fs => Qi r.n r.den (r.dfl.drop (r.dfl.length - (r.n - args.length))) fs else none
    | none => Qgp n Θ x args) else none
  | .ListComp elt [⟨tg, iter, ifs, 0⟩] scope _ => (Qdu (inner Θ scope) tg).bind λ t => if Qgw Θ scope t && Qsl ifs then
    (Qdg n Θ tg iter).bind λ fi => (Qdr n (inner Θ scope) ifs).bind λ ft => (Qh n (inner Θ scope) elt).map λ fe => Q2 fi t (QfC Θ scope) ft fe else none
  | _ => none
noncomputable def Qgp (n : Nat) (Θ : Th) (x : Str) (args : List Expr) : Option DE := match n with
  | 0 => none
  | n + 1 => match args with
    | [a] => match Qga Θ x a with
     | some b => (Qh n Θ b).map QeG
     | none => (Qh n Θ a).bind λ fa => bf1 x fa
    | [a, b] => if x = "isinstance" then (Qh n Θ a).bind λ fa => match b with
        | .Name y _ => if Θ.gl y then (Qnc y).map λ T => Qgc T fa else none
        | _ => none
      else (Qh n Θ a).bind λ fa => (Qh n Θ b).bind λ fb => bf2 x fa fb
    | _ => none
noncomputable def QaC (n : Nat) (Θ : Th) (e : Expr) : Option DT := match n with
 | 0 => none
 | n + 1 => match e with
  | .UnaryOp .Not a _ => (QaC n Θ a).map Qdp
  | .BoolOp .And [a] _ => QaC n Θ a
  | .BoolOp .And (a :: b :: r) p => (QaC n Θ a).bind λ fa => (QaC n Θ (.BoolOp .And (b :: r) p)).map λ fb => QhD fa fb
  | .BoolOp .Or [a] _ => QaC n Θ a
  | .BoolOp .Or (a :: b :: r) p => (QaC n Θ a).bind λ fa => (QaC n Θ (.BoolOp .Or (b :: r) p)).map λ fb => bOr fa fb
  | .Compare a [op] [b] _ => (Qh n Θ a).bind λ fa => (Qh n Θ b).bind λ fb => (Qk7 op).map λ g => Qt (dOp g fa fb)
  | .BoolOp _ _ _ => none
  | .IfExp _ _ _ _ => none
  | .Compare _ _ _ _ => none
  | e => (Qh n Θ e).map Qt
noncomputable def Qdr (n : Nat) (Θ : Th) (es : List Expr) : Option DT := match n with
 | 0 => none
 | n + 1 => match es with
  | [] => some Qca
  | [c] => QaC n Θ c
  | _ => none
noncomputable def QaD (n : Nat) (Θ : Th) (es : List Expr) : Option DA := match n with
 | 0 => none
 | n + 1 => match es with
  | [] => some Qc
  | e :: es => (Qh n Θ e).bind λ fa => (QaD n Θ es).map λ fs => Qb fa fs
noncomputable def QfI (n : Nat) (Θ : Th) (e : Option Expr) : Option DO := match n with
 | 0 => none
 | n + 1 => match e with
  | none => some QbW
  | some e => (Qh n Θ e).map QaR
noncomputable def Qdg (n : Nat) (Θ : Th) (tg e : Expr) : Option DI := match n with
 | 0 => none
 | n + 1 => match e with
  | .Call (.Name x _) args [] _ => if Θ.gl x && (look x Θ.Γ).isNone then (match args with
    | [a] => if x = "range" then (Qh n Θ a).map QbV else
     if x = "enumerate" then (if isTup tg then (Qh n Θ a).map Qgh else none) else
     (Qh n Θ e).map QO
    | [a, b, c] =>
     (Qh n Θ e).map QO
    | [a, b] =>
     if x = "range" then (Qh n Θ a).bind λ fa => (Qh n Θ b).map λ fb => QcE fa fb else
     if x = "zip" then (if isTup tg then (Qh n Θ a).bind λ fa => (Qh n Θ b).map λ fb => QeB fa fb else none) else
     (Qh n Θ e).map QO
    | _ => (Qh n Θ e).map QO) else (Qh n Θ e).map QO
  | e => (Qh n Θ e).map QO
end
end HS
namespace HS
open PySem PySem.Spec L2
theorem Qz {α β γ : Type} {x : Option α} {y : α -> Option β} {k : α -> β -> γ} {r : γ} (e : (x.bind λ a => (y a).map λ b => k a b) = some r) : ∃ a b, x = some a /\ y a = some b /\ k a b = r := by
 obtain ⟨a, h1, e⟩ := bind1 e
 obtain ⟨b, h2, e⟩ := Zb.mp e
 exact ⟨a, b, h1, h2, e⟩
theorem QaB {n : Nat} {Θ : Th} {e : Expr} {f : DE} (h : Qh n Θ e = some f) (es : List Expr) (env : Env) : starEach (e :: es) env = (false, eval e env) :: starEach es env := by
 cases n with
 | zero => exact nomatch (show (none : Option DE) = some _ from h)
 | succ n => cases e <;> first | rfl | (exact nomatch (show (none : Option DE) = some _ from h))
theorem Qka : ∀ {n : Nat} {Θ : Th} {es : List Expr} {f : DA}, QaD n Θ es = some f -> ∀ (pos : Pos) (env : Env), (backTo pos (starEach es env)).any (·.1) = false
 | 0, _, _, _, h, _, _ => by simp [QaD] at h
 | n + 1, _, [], _, h, _, _ => rfl
 | n + 1, _, e :: es, _, h, pos, env => by
  simp only [QaD] at h
  obtain ⟨fa, fs, h1, h2, _⟩ := Qz h
  rw [QaB h1]
  have := Qka h2 pos env
  simpa [backTo] using this
theorem Qj8 {n : Nat} {Θ : Th} {b : Expr} {f : DE} (h : Qh n Θ b = some f) : QfF b := by
 cases n with
 | zero => exact nomatch (show (none : Option DE) = some _ from h)
 | succ n => cases b <;> first | (intro o i; rfl) | (exact nomatch (show (none : Option DE) = some _ from h))
theorem Qrt {n : Nat} {Θ : Th} {e : Expr} {f : DE} (h : Qh n Θ e = some f) (env : Env) : ∀ x, foldedSetIterable e env x = pure x := by
 cases n with
 | zero => exact nomatch (show (none : Option DE) = some _ from h)
 | succ n => cases e <;> first | (intro x; rfl) | (exact nomatch (show (none : Option DE) = some _ from h))
theorem Qlp {n : Nat} {Θ : Th} {e : Expr} {f : DE} (h : Qh n Θ e = some f) (op : CmpOp) : behindInMarks op e = false := by
 cases n with
 | zero => exact nomatch (show (none : Option DE) = some _ from h)
 | succ n => cases e <;> first | rfl | (exact nomatch (show (none : Option DE) = some _ from h))
theorem Qcw {env : Env} : ∀ {names : List (Str × NameKind)} {x : Str}, names.lookup x = some .cell →
  (names.map λ (n, k) => if (k == NameKind.free && env.scope.kind == .function && env.kindOf n == some .cell) then (n, NameKind.cell) else (n, k)).lookup x = some .cell
 | [], _, h => by simp at h
 | (n, k) :: r, x, h => by
  have ih := @Qcw env r x
  rw [Zt]
  cases hx : x == n with
  | true =>
   simp only [Zq, hx] at h
   cases h
   dsimp only
   split <;> simp [Zq, hx]
  | false =>
   simp only [Zq, hx] at h
   dsimp only
   split <;> (simp only [Zq, hx]; exact ih h)
theorem QiF {X : Cx} {Θ : Th} {scope : Scope} {t : Tg} (ok : QF X Θ) (h : Qgw Θ scope t = true) : Qc0 X (inner Θ scope).N scope /\ Qio X (inner Θ scope).N scope (QfC Θ scope) t.slots /\ ∀ cl C fp s3 H3, QF (cxc X (inner Θ scope).N scope cl C fp s3 H3) (inner Θ scope) := by
 unfold Qgw at h
 simp only [Zf, decide_eq_true_eq] at h
 obtain ⟨⟨⟨h1, h2⟩, h3⟩, h4⟩ := h
 have hk : scope.kind = .function := by simpa using h1
 have each : ∀ y ∈ scope.names, (y.2 = .cell -> scope.names.lookup y.1 = some .cell) /\ (y.2 = .local -> scope.names.lookup y.1 = some .local) /\ (y.2 = .free -> X.env.kindOf y.1 = some .cell ∨ X.env.kindOf y.1 = some .free) := λ y hy => by
  have := ZW.mp h3 y hy
  obtain ⟨y, k⟩ := y
  cases k with
  | cell => exact ⟨λ _ => (by rw [← Qaf]; simpa using this), λ z => (by cases z), λ z => (by cases z)⟩
  | «local» => exact ⟨λ z => (by cases z), λ _ => by rw [← Qaf]; simpa using this, λ z => by cases z⟩
  | free =>
   refine ⟨λ z => (by cases z), λ z => (by cases z), λ _ => ?_⟩
   dsimp only at this
   split at this
   ·rename_i q; exact .inl (ok.ce _ q).1
   ·rename_i q; exact ok.fe _ q
   ·cases this
  | _ => exact ⟨λ z => (by cases z), λ z => (by cases z), λ z => (by cases z)⟩
 have S : Qc0 X (inner Θ scope).N scope := ⟨hk, λ y hy => (each y hy).1, λ y hy => (each y hy).2.1, λ y hy => (each y hy).2.2⟩
 refine ⟨S, ⟨by unfold QfC; simp, λ j i e => ?_, λ j i e hj => ?_⟩, λ cl C fp s3 H3 => ⟨⟨rfl, h2, λ x e => ?_, λ x e => ?_, λ x e => ?_, λ x e => ?_, ok.units, ok.mg, ok.cs⟩, ok.calm, PassesOwn.never, ok.fns, λ _ _ e => nomatch e⟩⟩
 ·unfold QfC at e
  rw [Zx] at e
  cases q : (inner Θ scope).N[j]? with
  | none => rw [q] at e; cases e
  | some x =>
   rw [q] at e
   simp only [ZP, Option.some.injEq] at e
   split at e
   ·rename_i hf
    cases hl : look x scope.names with
    | none => rw [hl] at hf; cases hf
    | some k =>
     rw [hl] at hf
     cases k with
     | free =>
      rw [Qaf] at hl
      exact ⟨x, rfl, hl, by rw [ok.N]; exact QdJ e, (each (x, .free) (ZN hl)).2.2 rfl⟩
     | _ => cases hf
   ·cases e
 ·have := ZW.mp h4 j hj
  rw [e] at this
  cases this
 ·have e' : scope.names.lookup x = some .local := by rw [← Qaf]; exact e
  exact lookup_relabel_local e'
 ·have e' : scope.names.lookup x = some .cell := by rw [← Qaf]; exact e
  exact ⟨Qcw e', decide_eq_true e'⟩
 ·have e' : scope.names.lookup x = some .free := by rw [← Qaf]; exact e
  exact Qbz e'
 ·have e' : scope.names.lookup x = some .globalImplicit := by rw [← Qaf]; exact e
  show (relabel scope X.env).names.lookup x = some .globalImplicit
  unfold relabel
  have gen : ∀ {names : List (Str × NameKind)}, names.lookup x = some .globalImplicit →
    (names.map λ (n, k) => if (k == NameKind.free && X.env.scope.kind == .function && X.env.kindOf n == some .cell) then (n, NameKind.cell) else (n, k)).lookup x = some .globalImplicit := by
   intro names
   induction names with
   | nil => intro z; simp at z
   | cons y r ih =>
    intro z
    obtain ⟨n, k⟩ := y
    rw [Zt]
    cases hx : x == n with
    | true =>
     simp only [Zq, hx] at z
     cases z
     simp [Zq, hx]
    | false =>
     simp only [Zq, hx] at z
     dsimp only
     split <;> (simp only [Zq, hx]; exact ih z)
  exact gen e'
theorem Qgq {X : Cx} {Θ : Th} (ok : QF X Θ) {tg : Expr} {t : Tg} (h : Qdu Θ tg = some t) : SG X tg t := by
 have hN : X.N.Nodup := by rw [ok.N]; exact ok.nd
 cases tg with
 | Name x pos =>
  simp only [Qdu] at h
  obtain ⟨i, hi, rfl⟩ := Zb.mp h
  obtain ⟨h1, h2, h3⟩ := Qcc ok.toCtxB hi
  exact Qo7 (Qj9 hN h1 h2 h3)
 | Tuple es k pos =>
  simp only [Qdu] at h
  obtain ⟨is, hi, rfl⟩ := Zb.mp h
  obtain ⟨xs, h1, h2⟩ := bind1 hi
  have key : ∀ (es : List Expr) (xs : List Str) (is : List Nat), es.mapM Qds = some xs -> xs.mapM Θ.Qcb = some is -> PGs X es (QgC is) /\ (assignEach es X.env).length = is.length /\ (assignEach es X.env).findIdx? (·.1) = none := by
   intro es
   induction es with
   | nil =>
    intro xs is h1 h2
    cases h1
    cases h2
    exact ⟨QpK, rfl, rfl⟩
   | cons e es ih =>
    intro xs is h1 h2
    rw [Zbi] at h1
    obtain ⟨x, hx, h1⟩ := bind1 h1
    obtain ⟨ys, hy, h1⟩ := bind1 h1
    cases h1
    rw [Zbi] at h2
    obtain ⟨i, hi, h2⟩ := bind1 h2
    obtain ⟨js, hj, h2⟩ := bind1 h2
    cases h2
    obtain ⟨a1, a2, a3⟩ := ih ys js hy hj
    cases e with
    | Name y p =>
     cases hx
     obtain ⟨g1, g2, g3⟩ := Qcc ok.toCtxB hi
     refine ⟨QmG (Qj9 hN g1 g2 g3) a1 rfl, ?_, ?_⟩
     ·show (assignEach es X.env).length + 1 = _
      rw [a2]; rfl
     ·show List.findIdx? (·.1) ((false, assign (.Name x p) X.env) :: assignEach es X.env) = none
      rw [List.findIdx?_cons]
      simp only [a3]; rfl
    | _ => cases hx
  obtain ⟨a1, a2, a3⟩ := key es xs is h1 h2
  exact QqM ok.calm a1 a2 a3
 | _ => simp only [Qdu] at h; cases h
theorem Qk0 {f : Int -> Int -> Bool} : ∀ a b d, gI (λ i j => some (.bl (f i j))) a b = some d -> ∃ k, d = .bl k := λ a b d h => by
 obtain ⟨i, j, _, _, e⟩ := Qml h
 cases e
 exact ⟨_, rfl⟩
theorem Ql4 {X : Cx} {Θ : Th} (ok : QF X Θ) {op : CmpOp} {g : D -> D -> Option D} (h : Qk7 op = some g) : ∃ r, OpR X (compareOp op) r /\ Qby X.K g r /\ ∀ a b d, g a b = some d -> ∃ k, d = .bl k := by
 cases op <;> cases h
 ·exact ⟨_, Qlx ok.units, Qoe, λ a b d h => by unfold gEq at h; split at h <;> cases h; exact ⟨_, rfl⟩⟩
 ·exact ⟨_, QlZ ok.units, Qos, λ a b d h => by unfold gNe at h; split at h <;> cases h; exact ⟨_, rfl⟩⟩
 ·exact ⟨_, QrR, Qsy, Qk0⟩
 ·exact ⟨_, Qsc, Qr9, Qk0⟩
 ·exact ⟨_, Qr6, Qr3, Qk0⟩
 ·exact ⟨_, Qsx, Qsn, Qk0⟩
 ·exact ⟨_, Qrb ok.units, Qok, λ a b d h => by unfold gIn at h; split at h <;> first | (split at h <;> cases h; exact ⟨_, rfl⟩) | cases h⟩
 ·exact ⟨_, Qmp ok.units, Qok, λ a b d h => by unfold gIn at h; split at h <;> first | (split at h <;> cases h; exact ⟨_, rfl⟩) | cases h⟩
structure QgT (n : Nat) : Prop where
 E : ∀ X Θ e f, QF X Θ -> Qh n Θ e = some f -> SE X e f
 B : ∀ X Θ x args f p pos, QF X Θ -> Θ.gl x = true -> Qgp n Θ x args = some f -> SE X (.Call (.Name x p) args [] pos) f
 T : ∀ X Θ e f, QF X Θ -> QaC n Θ e = some f -> ST X e f
 Ts : ∀ X Θ e f, QF X Θ -> Qdr n Θ e = some f -> Qi6 X e f
 A : ∀ X Θ e f, QF X Θ -> QaD n Θ e = some f -> SA X e f
 O : ∀ X Θ e f, QF X Θ -> QfI n Θ e = some f -> SO X e f
 I : ∀ X Θ tg e f, QF X Θ -> Qdg n Θ tg e = some f -> SI X tg e f /\ ∀ x, foldedSetIterable e X.env x = pure x
theorem callArgs {X : Cx} {n : Nat} {Θ : Th} {es : List Expr} {fs : DA} (h : QaD n Θ es = some fs) {e : Expr} {es' : List Expr} (he : es = e :: es') (pos : Pos) : starEach (e :: es') X.env = (false, eval e X.env) :: starEach es' X.env /\ (backTo pos (starEach es' X.env)).any (·.1) = false := by
 subst he
 cases n with
 | zero => simp [QaD] at h
 | succ n =>
  simp only [QaD] at h
  obtain ⟨fa, fs', h1, h2, _⟩ := Qz h
  exact ⟨QaB h1 es' X.env, Qka h2 pos X.env⟩
theorem Qsq {n : Nat} (ih : QgT n) : ∀ X Θ e f, QF X Θ -> Qh (n + 1) Θ e = some f -> SE X e f := by
  intro X Θ e f ok h
  cases e with
  | Name x pos =>
    (conv at h => lhs; whnf)
    cases q : Θ.slot x with
    | some i => rw [q] at h; cases h; exact Qma (QhM ok.toCtxB q)
    | none =>
      rw [q] at h
      dsimp only at h
      split at h
      · rename_i hg
        obtain ⟨i, hi, rfl⟩ := Zb.mp h
        obtain ⟨g1, g2, g3⟩ := Qbh ok.toCtxB hg
        obtain ⟨t, hm⟩ := ok.cs x i hi
        exact Qf2 (v := .int i) (Qp1 g1 hm ⟨t, rfl⟩ g2) (λ _ _ => .int_mk) rfl
      · cases h
  | Constant c k pos =>
    cases c with
    | int i => (conv at h => lhs; whnf); cases h; exact Qf2 QrE (λ _ _ => .int_mk) rfl
    | bool b => (conv at h => lhs; whnf); cases h; exact Qf2 Qob (λ _ _ => .Qbg) rfl
    | none => (conv at h => lhs; whnf); cases h; exact Qf2 Qqt (λ _ _ => .Qea) rfl
    | str x => (conv at h => lhs; whnf); cases h; exact Qf2 Qmh (λ _ _ => .str_mk) rfl
    | _ => exact nomatch (show (none : Option DE) = some _ from h)
  | BinOp a op b pos =>
    (conv at h => lhs; whnf)
    obtain ⟨fa, h1, h⟩ := bind1 h
    obtain ⟨fb, h2, h⟩ := bind1 h
    have ha := ih.E X Θ a fa ok h1
    have hb := ih.E X Θ b fb ok h2
    cases op with
    | Add => cases h; exact QqE ha hb
    | Mult => cases h; exact QqA ha hb
    | Sub => cases h; exact Qig QqL Qmg ha hb
    | FloorDiv => cases h; exact Qig QoW Qq0 ha hb
    | Mod => cases h; exact Qig QpT Qqw ha hb
    | Pow => cases h; exact Qig Qpf Qrp ha hb
    | _ => cases h
  | UnaryOp op a pos =>
    cases op with
    | USub =>
      (conv at h => lhs; whnf)
      obtain ⟨fa, h1, rfl⟩ := Zb.mp h
      exact Qqh (ih.E X Θ a fa ok h1)
    | Not =>
      (conv at h => lhs; whnf)
      obtain ⟨fa, h1, rfl⟩ := Zb.mp h
      exact Qmx (ih.E X Θ a fa ok h1)
    | _ => exact nomatch (show (none : Option DE) = some _ from h)
  | BoolOp op es pos =>
    cases op with
    | And =>
      match es, h with
      | [], h => exact nomatch (show (none : Option DE) = some _ from h)
      | [a], h => (conv at h => lhs; whnf); exact Qgy (ih.E X Θ a f ok h)
      | a :: b :: r, h =>
        (conv at h => lhs; whnf)
        obtain ⟨fa, fb, h1, h2, rfl⟩ := Qz h
        exact Qlq (ih.E X Θ a fa ok h1) (ih.E X Θ _ fb ok h2)
    | Or =>
      match es, h with
      | [], h => exact nomatch (show (none : Option DE) = some _ from h)
      | [a], h => (conv at h => lhs; whnf); exact Qgy (ih.E X Θ a f ok h)
      | a :: b :: r, h =>
        (conv at h => lhs; whnf)
        obtain ⟨fa, fb, h1, h2, rfl⟩ := Qz h
        exact Qoc (ih.E X Θ a fa ok h1) (ih.E X Θ _ fb ok h2)
  | Compare a ops bs pos =>
    match ops, bs, h with
    | [op], [b], h =>
      (conv at h => lhs; whnf)
      obtain ⟨fa, h1, h⟩ := bind1 h
      obtain ⟨fb, g, h2, h3, rfl⟩ := Qz h
      obtain ⟨r, o1, o2, _⟩ := Ql4 ok h3
      exact QiY o1 o2 (ih.E X Θ a fa ok h1) (ih.E X Θ b fb ok h2) (Qlp h2 op)
    | [], _, h => exact nomatch (show (none : Option DE) = some _ from h)
    | [_], [], h => exact nomatch (show (none : Option DE) = some _ from h)
    | [_], _ :: _ :: _, h => exact nomatch (show (none : Option DE) = some _ from h)
    | _ :: _ :: _, _, h => exact nomatch (show (none : Option DE) = some _ from h)
  | Tuple es k pos =>
    (conv at h => lhs; whnf)
    obtain ⟨fs, h1, rfl⟩ := Zb.mp h
    exact Qq6 (ih.A X Θ es fs ok h1)
  | List es pos =>
    (conv at h => lhs; whnf)
    obtain ⟨fs, h1, rfl⟩ := Zb.mp h
    exact Qmj (ih.A X Θ es fs ok h1)
  | Subscript a b pos =>
    by_cases hb : ∃ lo hi p2, b = .Slice lo hi none p2
    · obtain ⟨lo, hi, p2, rfl⟩ := hb
      (conv at h => lhs; whnf)
      obtain ⟨fa, h1, h⟩ := bind1 h
      obtain ⟨fl, fh, h2, h3, rfl⟩ := Qz h
      exact QrJ (ih.E X Θ a fa ok h1) (ih.O X Θ lo fl ok h2) (ih.O X Θ hi fh ok h3)
    · by_cases hk : ∃ k p2, b = .Slice none none (some k) p2
      · obtain ⟨k, p2, rfl⟩ := hk
        (conv at h => lhs; whnf)
        obtain ⟨fa, fk, h1, h2, rfl⟩ := Qz h
        exact Qqx (ih.E X Θ a fa ok h1) (ih.E X Θ k fk ok h2)
      · have h' : ((Qh n Θ a).bind λ fa => (Qh n Θ b).map λ fb => Qs fa fb) = some f := by
          cases b <;> first
            | (exact h)
            | (rename_i lo hi st p2; cases lo <;> cases hi <;> cases st <;> first | (exact absurd ⟨_, _, _, rfl⟩ hb) | (exact absurd ⟨_, _, rfl⟩ hk) | (exact h))
        obtain ⟨fa, fb, h1, h2, rfl⟩ := Qz h'
        exact QrA (ih.E X Θ a fa ok h1) (ih.E X Θ b fb ok h2) (Qj8 h2)
  | Call fn args kws pos =>
    cases fn with
    | Name x p =>
     cases kws with
     | cons k ks => exact nomatch (show (none : Option DE) = some _ from h)
     | nil =>
      have h : (if Θ.gl x then (match look x Θ.Γ with | some r => if r.n <= args.length + r.dfl.length /\ args.length <= r.n then (QaD n Θ args).map λ fs => Qi r.n r.den (r.dfl.drop (r.dfl.length - (r.n - args.length))) fs else none | none => Qgp n Θ x args) else none) = some f := h
      split at h
      · rename_i hg
        obtain ⟨g1, g2, g3⟩ := Qbh ok.toCtxB hg
        split at h
        · rename_i r hr
          split at h
          · rename_i hn
            obtain ⟨fs, h1, rfl⟩ := Zb.mp h
            obtain ⟨k, fa, fd, ps, F1, F2, F3, F4, F5⟩ := ok.fns x r hr
            obtain ⟨ds, dvs, b1, b2, b3⟩ := F5 (r.n - args.length) (by omega)
            cases args with
            | nil =>
              cases n with
              | zero => simp [QaD] at h1
              | succ n =>
                simp only [QaD] at h1
                cases h1
                exact Qn1 F1 F2 g1 F3 F4 b1 b2 b3 g2
            | cons e es =>
              obtain ⟨s1, s2⟩ := callArgs (X := X) h1 rfl pos
              exact QpX F1 F2 g1 F3 F4 b1 b2 b3 (ih.A X Θ _ fs ok h1) g2 s1 s2
          · cases h
        · exact ih.B X Θ x args f p pos ok hg h
      · cases h
    | _ => exact nomatch (show (none : Option DE) = some _ from h)
  | ListComp elt gens scope pos =>
    match gens, h with
    | [⟨tg, iter, ifs, k⟩], h =>
      by_cases hk : k = 0
      · subst hk
        (conv at h => lhs; whnf)
        obtain ⟨t, ht, h⟩ := bind1 h
        split at h
        · rename_i hc
          simp only [Zf] at hc
          obtain ⟨fi, h1, h⟩ := bind1 h
          obtain ⟨ft, fe, h2, h3, rfl⟩ := Qz h
          obtain ⟨S, cap, inn⟩ := QiF ok hc.1
          obtain ⟨i1, i2⟩ := ih.I X Θ tg iter fi ok h1
          exact QpM ok.calm S i1 cap (λ cl C fp s3 H3 => ⟨Qgq (inn cl C fp s3 H3) ht, ih.Ts _ _ ifs ft (inn cl C fp s3 H3) h2, ih.E _ _ elt fe (inn cl C fp s3 H3) h3⟩) i2
        · cases h
      · exfalso
        cases k with
        | ofNat k =>
          cases k with
          | zero => exact hk rfl
          | succ k => exact nomatch (show (none : Option DE) = some _ from h)
        | negSucc k => exact nomatch (show (none : Option DE) = some _ from h)
    | [], h => exact nomatch (show (none : Option DE) = some _ from h)
    | ⟨_, _, _, .ofNat 0⟩ :: _ :: _, h => exact nomatch (show (none : Option DE) = some _ from h)
    | ⟨_, _, _, .ofNat (k + 1)⟩ :: _ :: _, h => exact nomatch (show (none : Option DE) = some _ from h)
    | ⟨_, _, _, .negSucc k⟩ :: _ :: _, h => exact nomatch (show (none : Option DE) = some _ from h)
  | _ => exact nomatch (show (none : Option DE) = some _ from h)
theorem Qqz {X : Cx} {Θ : Th} {x : Str} {a : Expr} {fa f : DE} {p pos : Pos} (ok : QF X Θ) (g1 : Gl X x) (sa : SA X [a] (Qb fa Qc)) (st : starEach [a] X.env = (false, eval a X.env) :: starEach [] X.env) (h : bf1 x fa = some f) : SE X (.Call (.Name x p) [a] [] pos) f := by
 unfold bf1 at h
 by_cases e : x = "len"
 ·rw [if_pos e] at h; cases h; subst e; have hm := ok.mg "len" (by decide +kernel)
  exact Qgj Qiu QqR g1 hm PySem.boot_len sa (by decide) (by decide) st rfl
 rw [if_neg e] at h; clear e
 by_cases e : x = "list"
 ·rw [if_pos e] at h; cases h; subst e; have hm := ok.mg "list" (by decide +kernel)
  exact QpJ g1 hm sa st rfl
 rw [if_neg e] at h; clear e
 by_cases e : x = "min"
 ·rw [if_pos e] at h; cases h; subst e; have hm := ok.mg "min" (by decide +kernel)
  exact Qgj (Qlu ok.calm) Qpo g1 hm PyProof.Rows.boot_min sa (by decide) (by decide) st rfl
 rw [if_neg e] at h; clear e
 by_cases e : x = "max"
 ·rw [if_pos e] at h; cases h; subst e; have hm := ok.mg "max" (by decide +kernel)
  exact Qgj (QlP ok.calm) QoX g1 hm PyProof.Rows.boot_max sa (by decide) (by decide) st rfl
 rw [if_neg e] at h; clear e
 by_cases e : x = "sum"
 ·rw [if_pos e] at h; cases h; subst e; have hm := ok.mg "sum" (by decide +kernel)
  exact Qgj (QlU ok.calm) QpR g1 hm PyProof.Rows.boot_sum sa (by decide) (by decide) st rfl
 rw [if_neg e] at h; clear e
 by_cases e : x = "all"
 ·rw [if_pos e] at h; cases h; subst e; have hm := ok.mg "all" (by decide +kernel)
  exact Qgj (Qlj ok.calm) Qp5 g1 hm PyProof.Rows.boot_all sa (by decide) (by decide) st rfl
 rw [if_neg e] at h; clear e
 cases h
theorem Qq9 {X : Cx} {Θ : Th} {x : Str} {a b : Expr} {fa fb f : DE} {p pos : Pos} (ok : QF X Θ) (g1 : Gl X x) (sa : SA X [a, b] (Qb fa (Qb fb Qc))) (st : starEach [a, b] X.env = (false, eval a X.env) :: starEach [b] X.env) (pl : (backTo pos (starEach [b] X.env)).any (·.1) = false) (h : bf2 x fa fb = some f) : SE X (.Call (.Name x p) [a, b] [] pos) f := by
 unfold bf2 at h
 cases h
theorem Qsu {n : Nat} (ih : QgT n) : ∀ X Θ x args f p pos, QF X Θ -> Θ.gl x = true -> Qgp (n + 1) Θ x args = some f -> SE X (.Call (.Name x p) args [] pos) f := by
 intro X Θ x args f p pos ok hg h
 obtain ⟨g1, g2, g3⟩ := Qbh ok.toCtxB hg
 match args, h with
 | [], h => exact nomatch (show (none : Option DE) = some _ from h)
 | [a], h =>
  change (match Qga Θ x a with | some b => (Qh n Θ b).map QeG | none => (Qh n Θ a).bind λ fa => bf1 x fa) = some f at h
  split at h
  ·rename_i b hr
   obtain ⟨fb, h1, rfl⟩ := Zb.mp h
   unfold Qga at hr
   split at hr
   ·rename_i y p' b' pos'
    split at hr
    ·rename_i hc
     cases hr
     obtain ⟨c1, c2, c3, _⟩ := hc
     subst c1
     subst c2
     obtain ⟨y1, y2, y3⟩ := Qbh ok.toCtxB c3
     exact QpA g1 (ok.mg _ (by decide +kernel)) y1 (ok.mg _ (by decide +kernel)) ok.calm (ih.E X Θ b fb ok h1) (QaB h1 [] X.env)
    ·cases hr
   ·cases hr
  obtain ⟨fa, h1, h⟩ := bind1 h
  have ha := ih.E X Θ a fa ok h1
  have st := QaB h1 [] X.env
  exact Qqz ok g1 (Qef ha QgA st) st h
 | [a, b], h =>
  change (if x = "isinstance" then (Qh n Θ a).bind λ fa => (match b with | .Name y _ => if Θ.gl y then (Qnc y).map λ T => Qgc T fa else none | _ => none) else (Qh n Θ a).bind λ fa => (Qh n Θ b).bind λ fb => bf2 x fa fb) = some f at h
  split at h
  ·rename_i e
   obtain ⟨fa, h1, h⟩ := bind1 h
   have ha := ih.E X Θ a fa ok h1
   split at h
   ·rename_i y p2
    split at h
    ·rename_i hy
     obtain ⟨T, hT, rfl⟩ := Zb.mp h
     obtain ⟨y1, y2, y3⟩ := Qbh ok.toCtxB hy
     clear h
     subst e
     refine Qrf g1 (ok.mg _ (by decide +kernel)) ha ?_ (QaB h1 _ X.env)
     unfold Qnc at hT
     split at hT
     ·rename_i e; cases hT; subst e
      exact Qeh y1 (ok.mg _ (by decide +kernel)) PyProof.Rows.boot_int rfl
     ·split at hT
      ·rename_i e; cases hT; subst e
       exact Qeh y1 (ok.mg _ (by decide +kernel)) PyProof.Rows.boot_bool rfl
      ·split at hT
       ·rename_i e; cases hT; subst e
        exact Qeh y1 (ok.mg _ (by decide +kernel)) Zbf rfl
       ·split at hT
        ·rename_i e; cases hT; subst e
         exact Qeh y1 (ok.mg _ (by decide +kernel)) PyProof.Rows.boot_tuple rfl
        ·split at hT
         ·rename_i e; cases hT; subst e
          exact Qeh y1 (ok.mg _ (by decide +kernel)) PyProof.Rows.boot_str rfl
         ·cases hT
    ·cases h
   ·cases h
  ·obtain ⟨fa, h1, h⟩ := bind1 h
   obtain ⟨fb, h2, h⟩ := bind1 h
   have ha := ih.E X Θ a fa ok h1
   have hb := ih.E X Θ b fb ok h2
   have sb : SA X [b] (Qb fb Qc) := Qef hb QgA (QaB h2 [] X.env)
   have sa : SA X [a, b] (Qb fa (Qb fb Qc)) := Qef ha sb (QaB h1 [b] X.env)
   have pl : (backTo pos (starEach [b] X.env)).any (·.1) = false := by rw [QaB h2 [] X.env]; rfl
   exact Qq9 ok g1 sa (QaB h1 [b] X.env) pl h
 | _ :: _ :: _ :: _, h => exact nomatch (show (none : Option DE) = some _ from h)
theorem Qr1 {n : Nat} (ih : QgT n) : ∀ X Θ e f, QF X Θ -> QaC (n + 1) Θ e = some f -> ST X e f := by
 intro X Θ e f ok h
 have dflt : (Qh n Θ e).map Qt = some f -> (∀ whole, isTrue e X.env whole = (do let v ← whole; standAt e.pos; holding [v] (truthy v))) -> ST X e f := λ h he => by
  obtain ⟨fa, h1, rfl⟩ := Zb.mp h
  exact Qrz (ih.E X Θ e fa ok h1) he
 cases e with
 | UnaryOp op a pos =>
  cases op with
  | Not =>
   change (QaC n Θ a).map Qdp = some f at h
   obtain ⟨fa, h1, rfl⟩ := Zb.mp h
   exact QqD (ih.T X Θ a fa ok h1)
  | _ => exact dflt h λ _ => rfl
 | BoolOp op es pos =>
  cases op with
  | And =>
   match es, h with
   | [], h => exact nomatch (show (none : Option DT) = some _ from h)
   | [a], h => exact (QoD (ih.T X Θ a f ok h)).st
   | a :: b :: r, h =>
    change ((QaC n Θ a).bind λ fa => (QaC n Θ (.BoolOp .And (b :: r) pos)).map λ fb => QhD fa fb) = some f at h
    obtain ⟨fa, fb, h1, h2, rfl⟩ := Qz h
    have hb := ih.T X Θ _ fb ok h2
    exact (QqY (ih.T X Θ a fa ok h1) (λ H0 A0 wh pins s σ H Q I q => by have := hb H0 A0 pins s σ H Q I q; exact this)).st
  | Or =>
   match es, h with
   | [], h => exact nomatch (show (none : Option DT) = some _ from h)
   | [a], h => exact (Qq8 (ih.T X Θ a f ok h)).st
   | a :: b :: r, h =>
    change ((QaC n Θ a).bind λ fa => (QaC n Θ (.BoolOp .Or (b :: r) pos)).map λ fb => bOr fa fb) = some f at h
    obtain ⟨fa, fb, h1, h2, rfl⟩ := Qz h
    have hb := ih.T X Θ _ fb ok h2
    exact (Qso (ih.T X Θ a fa ok h1) (λ H0 A0 wh pins s σ H Q I q => by have := hb H0 A0 pins s σ H Q I q; exact this)).st
 | Compare a ops bs pos =>
  match ops, bs, h with
  | [op], [b], h =>
   change ((Qh n Θ a).bind λ fa => (Qh n Θ b).bind λ fb => (Qk7 op).map λ g => Qt (dOp g fa fb)) = some f at h
   obtain ⟨fa, h1, h⟩ := bind1 h
   obtain ⟨fb, g, h2, h3, rfl⟩ := Qz h
   obtain ⟨r, o1, o2, o3⟩ := Ql4 ok h3
   exact QrG o1 o2 o3 (ih.E X Θ a fa ok h1) (ih.E X Θ b fb ok h2) (Qlp h2 op)
  | [], _, h => exact nomatch (show (none : Option DT) = some _ from h)
  | [_], [], h => exact nomatch (show (none : Option DT) = some _ from h)
  | [_], _ :: _ :: _, h => exact nomatch (show (none : Option DT) = some _ from h)
  | _ :: _ :: _, _, h => exact nomatch (show (none : Option DT) = some _ from h)
 | IfExp c a b pos => exact nomatch (show (none : Option DT) = some _ from h)
 | _ => exact dflt h λ _ => rfl
theorem QrM {n : Nat} (ih : QgT n) : ∀ X Θ tg e f, QF X Θ -> Qdg (n + 1) Θ tg e = some f -> SI X tg e f /\ ∀ x, foldedSetIterable e X.env x = pure x := by
 intro X Θ tg e f ok h
 have dflt : (Qh n Θ e).map QO = some f -> SI X tg e f /\ ∀ x, foldedSetIterable e X.env x = pure x := λ h => by
  obtain ⟨fa, h1, rfl⟩ := Zb.mp h
  exact ⟨Qqg (ih.E X Θ e fa ok h1), Qrt h1 X.env⟩
 cases e with
 | Call fn args kws pos =>
  cases fn with
  | Name x p =>
   cases kws with
   | cons k ks => exact dflt h
   | nil =>
    simp only [Qdg] at h
    split at h
    ·rename_i hg
     simp only [Zf] at hg
     obtain ⟨g1, g2, g3⟩ := Qbh ok.toCtxB hg.1
     match args, h with
     | [], h => exact dflt h
     | [a], h =>
      dsimp only at h
      by_cases er : x = "range"
      ·rw [if_pos er] at h
       obtain ⟨fa, h1, rfl⟩ := Zb.mp h
       subst er
       exact ⟨Qms g1 (ok.mg _ (by decide +kernel)) (ih.E X Θ a fa ok h1) (QaB h1 [] X.env), λ _ => rfl⟩
      rw [if_neg er] at h
      by_cases ez : x = "enumerate"
      ·rw [if_pos ez] at h
       split at h
       ·rename_i ht
        obtain ⟨fa, h1, rfl⟩ := Zb.mp h
        subst ez
        cases tg with
        | Tuple es k tp => exact ⟨Qpu g1 (ok.mg _ (by decide +kernel)) (ih.E X Θ a fa ok h1) (QaB h1 [] X.env), λ _ => rfl⟩
        | _ => exact nomatch (show false = true from ht)
       ·cases h
      rw [if_neg ez] at h
      exact dflt h
     | [a, b], h =>
      dsimp only at h
      by_cases er : x = "range"
      ·rw [if_pos er] at h
       obtain ⟨fa, fb, h1, h2, rfl⟩ := Qz h
       subst er
       exact ⟨Qmb g1 (ok.mg _ (by decide +kernel)) (ih.E X Θ a fa ok h1) (ih.E X Θ b fb ok h2) (by rw [QaB h1 [b] X.env, QaB h2 [] X.env]; rfl) (QaB h2 [] X.env), λ _ => rfl⟩
      rw [if_neg er] at h
      by_cases ez : x = "zip"
      ·rw [if_pos ez] at h
       split at h
       ·rename_i ht
        obtain ⟨fa, fb, h1, h2, rfl⟩ := Qz h
        subst ez
        cases tg with
        | Tuple es k tp => exact ⟨Qrm g1 (ok.mg _ (by decide +kernel)) (ih.E X Θ a fa ok h1) (ih.E X Θ b fb ok h2) (by rw [QaB h1 [b] X.env, QaB h2 [] X.env]; rfl) (QaB h2 [] X.env), λ _ => rfl⟩
        | _ => exact nomatch (show false = true from ht)
       ·cases h
      rw [if_neg ez] at h
      exact dflt h
     | [a, b, c], h =>
      dsimp only at h
      exact dflt h
     | _ :: _ :: _ :: _ :: _, h => exact dflt h
    ·exact dflt h
  | _ => exact dflt h
 | _ => exact dflt h
theorem Qbc : ∀ n, QgT n
 | 0 => ⟨λ _ _ _ _ _ h => (nomatch (show (none : Option DE) = some _ from h)), λ _ _ _ _ _ _ _ _ _ h => by simp [Qgp] at h, λ _ _ _ _ _ h => by simp [QaC] at h, λ _ _ _ _ _ h => by simp [Qdr] at h, λ _ _ _ _ _ h => by simp [QaD] at h, λ _ _ _ _ _ h => by simp [QfI] at h, λ _ _ _ _ _ _ h => by simp [Qdg] at h⟩
 | n + 1 => by
  have ih := Qbc n
  refine ⟨Qsq ih, Qsu ih, Qr1 ih, λ X Θ e f ok h => ?_, λ X Θ e f ok h => ?_, λ X Θ e f ok h => ?_, QrM ih⟩
  ·match e, h with
   | [], h => simp only [Qdr] at h; cases h; exact Qnt
   | [c], h => simp only [Qdr] at h; exact QnE (ih.T X Θ c f ok h)
   | _ :: _ :: _, h => simp only [Qdr] at h; cases h
  ·match e, h with
   | [], h => simp only [QaD] at h; cases h; exact QgA
   | e :: es, h =>
    simp only [QaD] at h
    obtain ⟨fa, fs, h1, h2, rfl⟩ := Qz h
    exact Qef (ih.E X Θ e fa ok h1) (ih.A X Θ es fs ok h2) (QaB h1 es X.env)
  ·match e, h with
   | none, h => simp only [QfI] at h; cases h; exact QpG
   | some e, h =>
    simp only [QfI] at h
    obtain ⟨fa, h1, rfl⟩ := Zb.mp h
    exact QpY (ih.E X Θ e fa ok h1)
section
variable {X : Cx} {st : Stmt} {sts : List Stmt} {e : Expr} {fa : DE} {f g : DS} {gc : DT} {pos : Pos}
noncomputable def Qx : DS := λ _ => none
theorem QnP : S1 X st Qx := λ H0 A0 => QmO.mono λ E σ H ⟨ρ, hs, F, o, rel, e, q⟩ => by cases e
noncomputable def QkX (t : Tg) (fa : DE) : DS := λ ρ => (fa ρ).bind λ r => (QaQ t r.d (QaL r.norm.M ρ)).map .nx
theorem Qpz {tg : Expr} {t : Tg} (he : SE X e fa) (hg : SG X tg t) (hs : swapsWithSole [tg] e pos.line X.env = pure false) (hw : swappedStores [tg] e X.env = pure none) (h1 : (assignEach [tg] X.env).map (·.2) = [assign tg X.env]) :
  S1 X (.Assign [tg] e pos) (QkX t fa) := λ H0 A0 => (QlV (he H0 A0) (hg H0 A0) hs hw h1).mono λ E σ H ⟨ρ, hs, F, o, rel, e, q⟩ => by
 obtain ⟨r, e1, e⟩ := bind1 e
 obtain ⟨ρ', e2, rfl⟩ := Zb.mp e
 refine ⟨ρ, hs, F, r, rel, e1, λ v H' G p => ?_⟩
 have p' := p.norm
 have rp := p'.rp
 rw [r.Qcv] at rp
 exact ⟨QaL r.norm.M ρ, hs, F, r.d, G, ρ', (rel.ext p'.same).weak (Qa3 _ _), rp, Shr.of rel p'.src, e2, λ σ' F' rel' _ _ => q _ _ F' rel'⟩
theorem QoZ {tg iter elt : Expr} {ifs : List Expr} {scope : Scope} {N' : List Str} {fi : DI} {t : Tg} {cap : List (Option Nat)} {ft : DT} {fe : DE} {i : Nat} {x : Str} {pos' spos : Pos} (hN : X.N.Nodup) (hx1 : X.N[i]? = some x) (hx : Loc X.env.scope x) (hf : X.fn x = true ∨ X.env.scope.names.lookup x = some .local)
  (hcalm : X.calm = true) (S : Qc0 X N' scope) (hi : SI X tg iter fi) (hcap : Qio X N' scope cap t.slots)
  (hin : ∀ cl C fp s3 H3, SG (cxc X N' scope cl C fp s3 H3) tg t /\ Qi6 (cxc X N' scope cl C fp s3 H3) ifs ft /\ SE (cxc X N' scope cl C fp s3 H3) elt fe) (hs : ∀ x, foldedSetIterable iter X.env x = pure x) :
  S1 X (.Assign [.Name x pos'] (.ListComp elt [⟨tg, iter, ifs, 0⟩] scope pos) spos) (Qw i (Q2 fi t cap ft fe)) :=
 QgE λ H0 A0 => (Qqd hN hx1 hx hf hcalm S (hi H0 A0) (λ cl C fp s3 H3 => ⟨(hin cl C fp s3 H3).1 _ _, (hin cl C fp s3 H3).2.1 _ _, (hin cl C fp s3 H3).2.2 _ _⟩) hs).mono λ E σ H h => QhN hcap h
end
end HS
namespace HS
open PySem PySem.Spec L2 PyProof.Rows
section
variable {X : Cx} {a b e : Expr} {fa fb : DE} {pf : DP} {x : Nat} {pos apos : Pos}
theorem QpL {X : Cx} {H : Hp} {ds : List D} {w : V} {Gm : List Addr} (h : Rp X.K H (.lst ds) w Gm) : tyV X.K "list" w H := by
 obtain ⟨l, ws, L, rfl, hl, _⟩ := h.lst_inv
 exact .inl ⟨rfl, ws, QI hl⟩
theorem QH.unit {K : PySem.W.Frag} {ρ : En} {F : Nat -> List Addr} {H : Hp} : QH K ρ F H H ⟨.non, true, []⟩ .non [] := .flat (Qq.refl _) .Qea
noncomputable def Qnz (x : Nat) (pf : DP) : DS := λ ρ => match ρ[x]? with
 | some (some (d, true)) => (pf ρ).bind λ is => match QbB d is with
  | some (.lst _) => some (.nx (ρ.set x (some (QaP is d (.lst []), true))))
  | _ => none
 | _ => none
theorem Qm3 {H0 : Hp} {A0 : List Addr} {E : Ends} {σ : L2.St} {H : Hp} : tS X.K H0 A0 (Qnz x pf) E σ H -> Qik (QqP X.K "list" Qlg (tP X.K H0 A0 x pf)) E σ H := λ ⟨ρ, hs, F, o, rel, e, q⟩ => by
 unfold Qnz at e
 split at e
 ·rename_i d hx
  obtain ⟨is, e2, e⟩ := bind1 e
  split at e
  ·rename_i ds hp
   cases e
   refine ⟨ρ, hs, F, d, true, is, .lst ds, rel, hx, e2, hp, λ v0 w H2 Gm s2 hv0 fo => ⟨QpL fo.rp, ?_⟩⟩
   obtain ⟨l, vsm, Gp, rfl, g1, g2, g3, g4, g5, g6, g7⟩ := (rel.ext s2).write .unit rfl Zaf hx (by simp) hv0 fo
   refine ⟨l, vsm, rfl, rfl, g1, ?_⟩
   obtain ⟨F', rel'⟩ := g7 [] [] [] (by simp [Rps]) (ZL _) rfl (λ a => by simp)
   exact q _ _ F' rel'
  ·cases e
 ·cases e
end
noncomputable def Qdh : Expr -> Bool
 | .ListComp .. => false
 | .SetComp .. => false
 | .DictComp .. => false
 | _ => true
theorem QcV {e : Expr} {t : Option Expr} {l : Nat} {env : Env} (h : Qdh e = true) : swapsWith e t l env = pure false := by
 cases e <;> first | rfl | cases h
noncomputable def Qmr : Expr -> Bool
 | .Tuple .. => true
 | _ => false
noncomputable def QbD (n : Nat) (Θ : Th) (e : Expr) : Option (Nat × DP) := match n with
 | 0 => none
 | n + 1 => match e with
  | .Name x _ => (Θ.slot x).map λ i => (i, QaE)
  | .Subscript a b _ => (QbD n Θ a).bind λ q => (Qh n Θ b).map λ fb => (q.1, Qfv q.2 fb)
  | _ => none
theorem QeA : ∀ (n : Nat) (X : Cx) (Θ : Th) (e : Expr) (q : Nat × DP), QF X Θ -> QbD n Θ e = some q -> SPa X e q.1 q.2 /\ attributeBase e = λ _ env w => w
 | 0, _, _, _, _, _, h => by simp [QbD] at h
 | n + 1, X, Θ, e, q, ok, h => by
  cases e with
  | Name x pos =>
   simp only [QbD] at h
   obtain ⟨i, hi, rfl⟩ := Zb.mp h
   exact ⟨QmK (QhM ok.toCtxB hi), by funext a b c; rfl⟩
  | Subscript a b pos =>
   simp only [QbD] at h
   obtain ⟨q', fb, h1, h2, rfl⟩ := Qz h
   exact ⟨QoC (QeA n X Θ a q' ok h1).1 ((Qbc n).E X Θ b fb ok h2) (Qj8 h2), by funext a b c; rfl⟩
  | _ => simp [QbD] at h
noncomputable def QfK : Expr -> Bool
 | .Name .. => true
 | .Subscript _ (.Slice ..) _ => false
 | .Subscript (.Call ..) _ _ => false
 | .Subscript .. => true
 | _ => false
noncomputable def QmV : Operator -> Option (D -> D -> Option D)
 | .Add => some (gI λ i j => some (.int (i + j)))
 | .Sub => some Qet
 | _ => none
theorem Qrs {X : Cx} {op : Operator} {g : D -> D -> Option D} (h : QmV op = some g) : ∃ r, OpR X (inplaceOp op) r /\ Qby X.K g r := by
 cases op <;> cases h
 ·exact ⟨_, QoA, Qex (λ i j d e => by cases e; rfl) λ i j d e H Q q => by cases e; exact ⟨i, j, rfl, rfl, q _ λ _ => .int_mk⟩⟩
 ·exact ⟨_, Qqa, Qmg⟩
noncomputable def Qo8 : Expr -> Bool
 | .Slice .. => true
 | _ => false
noncomputable def Qgk (n : Nat) (Θ : Th) (o : Expr) (m : Str) (args : List Expr) : Option DS := match args with
  | [] => (QbD n Θ o).bind λ q => if m = "clear" then some (Qnz q.1 q.2) else
    none
  | [e] => if m = "append" then
     ((QbD n Θ o).bind λ q => (Qh n Θ e).map λ fa => Qdq q.1 q.2 fa)
    else
    none
  | _ => none
theorem QnG {n : Nat} {X : Cx} {Θ : Th} {o : Expr} {m : Str} {args : List Expr} {f : DS} {apos cpos pos : Pos} (ok : QF X Θ) (h : Qgk n Θ o m args = some f) (hl : (apos.endLine == cpos.line) = true) :
  S1 X (.Expr (.Call (.Attribute o m apos) args [] cpos) pos) f := by
 have base : ∀ {q : Nat × DP}, QbD n Θ o = some q -> SPa X o q.1 q.2 /\ attributeBase o m X.env (eval o X.env) = eval o X.env := λ {q} h1 => by
  obtain ⟨sp, ab⟩ := QeA n X Θ o _ ok h1
  exact ⟨sp, by rw [ab]⟩
 have app : ∀ {e : Expr} {f : DS}, m = "append" -> ((QbD n Θ o).bind λ q => (Qh n Θ e).map λ fa => Qdq q.1 q.2 fa) = some f -> S1 X (.Expr (.Call (.Attribute o m apos) [e] [] cpos) pos) f := λ {e f} em h => by
  obtain ⟨q, fa, h1, h2, rfl⟩ := Qz h
  obtain ⟨sp, hb⟩ := base h1
  subst em
  have he := (Qbc n).E X Θ e fa ok h2
  have st := QaB h2 [] X.env
  have sa : ∀ H0 A0, PA X [e] (QkQ (tV X.K H0 A0 fa) QkD) := λ H0 A0 => Qag (he H0 A0) QbQ st
  exact λ H0 A0 => (Qfx (Qst Zbd PySem.F.slot_list_append PySem.F.type_list_append QhO (sp H0 A0) (sa H0 A0) hb (by rw [st]; rfl) hl st rfl) rfl).mono λ E σ H q => QmQ q
 match args, h with
 | [], h =>
  unfold Qgk at h
  dsimp only at h
  obtain ⟨⟨x, pf⟩, h1, h⟩ := bind1 h
  obtain ⟨sp, hb⟩ := base h1
  by_cases e : m = "clear"
  ·rw [if_pos e] at h; cases h; subst e
   exact λ H0 A0 => (Qfx (Qre Zbd PySem.F.slot_list_clear PySem.F.type_list_clear QnA (sp H0 A0) hb hl) rfl).mono λ E σ H q => Qm3 q
  rw [if_neg e] at h
  cases h
 | [e], h =>
  unfold Qgk at h
  dsimp only at h
  by_cases em : m = "append"
  ·rw [if_pos em] at h
   exact app em h
  rw [if_neg em] at h
  clear em
  clear app
  cases h
 | _ :: _ :: _, h => exact nomatch (show (none : Option DS) = some _ from h)
end HS
namespace HS
open PySem PySem.Spec L2 PyProof.Rows
mutual
noncomputable def QgJ (n : Nat) (Θ : Th) (st : Stmt) : Option DS := match n with
 | 0 => none
 | n + 1 => match st with
  | .Pass _ => some Qf
  | .Break _ => some QmI
  | .Continue _ => some QnC
  | .Raise _ _ _ => some Qx
  | .Return none _ => some QkU
  | .Return (some e) _ => (Qh n Θ e).map QS
  | .Expr (.Constant (.str _) _ _) _ => some Qf
  | .Expr (.Call (.Attribute o m apos) args [] cpos) _ => if (apos.endLine == cpos.line) = true then Qgk n Θ o m args else none
  | .Expr (.Call (.Name x p) args [] cpos) _ => (Qh n Θ (.Call (.Name x p) args [] cpos)).map QG
  | .Assign [.Name x _] e _ => (Θ.Qcb x).bind λ i => (Qh n Θ e).map λ fa => Qw i (if QfK e = true then Qei fa else fa)
  | .Assign [.Tuple es k p] e _ => if Qdh e = true /\ Qmr e = false then (Qdu Θ (.Tuple es k p)).bind λ t => (Qh n Θ e).map λ fa => QkX t fa else none
  | .Assign [.Subscript a i _] e _ => (QbD n Θ a).bind λ q => (Qh n Θ i).bind λ fi => (Qh n Θ e).map λ fa => Qck q.1 q.2 fi fa
  | .AugAssign (.Subscript a i _) op e _ => (QbD n Θ a).bind λ q => (Qh n Θ i).bind λ fi => (QmV op).bind λ g => (Qh n Θ e).map λ fa => QdH g q.1 q.2 fi fa
  | .If c a b _ => (QaC n Θ c).bind λ g => (Qaw n Θ a).bind λ f1 => (Qaw n Θ b).map λ f2 => sIf g f1 f2
  | .For tg iter body [] _ => (Qdu Θ tg).bind λ t => (Qdg n Θ tg iter).bind λ fi => (Qaw n Θ body).map λ fb => Qa4 fi t fb
  | .Try a b c d p => Θ.tr (.Try a b c d p)
  | _ => none
noncomputable def Qaw (n : Nat) (Θ : Th) (sts : List Stmt) : Option DS := match n with
 | 0 => none
 | n + 1 => match sts with
  | [] => some Qf
  | st :: r => (QgJ n Θ st).bind λ f => (Qaw n Θ r).map λ g => Qe f g
end
theorem Qj6 {n : Nat} {Θ : Th} {e : Expr} {f : DE} (h : Qh n Θ e = some f) : Qo8 e = false := by
 cases n with
 | zero => exact nomatch (show (none : Option DE) = some _ from h)
 | succ n => cases e <;> first | rfl | (exact nomatch (show (none : Option DE) = some _ from h))
theorem Qph {n : Nat} {Θ : Th} {elt : Expr} {gens : List Comprehension} {scope : Scope} {pos : Pos} {f : DE} (h : Qh n Θ (.ListComp elt gens scope pos) = some f) : ∃ m tg iter ifs t fi ft fe, n = m + 1 /\ gens = [⟨tg, iter, ifs, 0⟩] /\ Qdu (inner Θ scope) tg = some t /\ Qgw Θ scope t = true ∧
  Qdg m Θ tg iter = some fi /\ Qdr m (inner Θ scope) ifs = some ft /\ Qh m (inner Θ scope) elt = some fe /\ f = Q2 fi t (QfC Θ scope) ft fe := by
 cases n with
 | zero => exact nomatch (show (none : Option DE) = some _ from h)
 | succ n =>
  match gens, h with
  | [⟨tg, iter, ifs, k⟩], h =>
   by_cases hk : k = 0
   ·subst hk
    (conv at h => lhs; whnf)
    obtain ⟨t, ht, h⟩ := bind1 h
    split at h
    ·rename_i hc
     simp only [Zf] at hc
     obtain ⟨fi, h1, h⟩ := bind1 h
     obtain ⟨ft, fe, h2, h3, rfl⟩ := Qz h
     exact ⟨n, tg, iter, ifs, t, fi, ft, fe, rfl, rfl, ht, hc.1, h1, h2, h3, rfl⟩
    ·cases h
   ·exfalso
    cases k with
    | ofNat k =>
     cases k with
     | zero => exact hk rfl
     | succ k => exact nomatch (show (none : Option DE) = some _ from h)
    | negSucc k => exact nomatch (show (none : Option DE) = some _ from h)
  | [], h => exact nomatch (show (none : Option DE) = some _ from h)
  | ⟨_, _, _, .ofNat 0⟩ :: _ :: _, h => exact nomatch (show (none : Option DE) = some _ from h)
  | ⟨_, _, _, .ofNat (k + 1)⟩ :: _ :: _, h => exact nomatch (show (none : Option DE) = some _ from h)
  | ⟨_, _, _, .negSucc k⟩ :: _ :: _, h => exact nomatch (show (none : Option DE) = some _ from h)
theorem QpF {n : Nat} {X : Cx} {Θ : Th} {x : Str} {p pos : Pos} {e : Expr} {fa : DE} {i : Nat} (ok : QF X Θ) (hx : Θ.Qcb x = some i) (h : Qh n Θ e = some fa) : S1 X (.Assign [.Name x p] e pos) (Qw i fa) := by
 have hN : X.N.Nodup := by rw [ok.N]; exact ok.nd
 obtain ⟨h1, h2, h3⟩ := Qcc ok.toCtxB hx
 by_cases hc : Qdh e = true
 ·have he := (Qbc n).E X Θ e fa ok h
  exact QgE λ H0 A0 => Qe2 hN h1 h2 (he H0 A0) (QcV hc) h3
 ·cases e with
  | ListComp elt gens scope cpos =>
   obtain ⟨m, tg, iter, ifs, t, fi, ft, fe, rfl, rfl, ht, hco, g1, g2, g3, rfl⟩ := Qph h
   obtain ⟨S, cap, inn⟩ := QiF ok hco
   obtain ⟨i1, i2⟩ := (Qbc m).I X Θ tg iter fi ok g1
   exact QoZ hN h1 h2 h3 ok.calm S i1 cap (λ cl C fp s3 H3 => ⟨Qgq (inn cl C fp s3 H3) ht, (Qbc m).Ts _ _ ifs ft (inn cl C fp s3 H3) g2, (Qbc m).E _ _ elt fe (inn cl C fp s3 H3) g3⟩) i2
  | SetComp _ _ _ _ => cases n <;> exact nomatch (show (none : Option DE) = some _ from h)
  | DictComp _ _ _ _ _ => cases n <;> exact nomatch (show (none : Option DE) = some _ from h)
  | _ => exact absurd rfl hc
theorem Qm4 {X : Cx} {x : Str} {p pos : Pos} {e : Expr} {fa : DE} {i : Nat} {n : Nat} {Θ : Th} (ok : QF X Θ) (hx : Θ.Qcb x = some i) (h : Qh n Θ e = some fa) (ha : QfK e = true) : S1 X (.Assign [.Name x p] e pos) (Qw i (Qei fa)) := by
 have hN : X.N.Nodup := by rw [ok.N]; exact ok.nd
 obtain ⟨h1, h2, h3⟩ := Qcc ok.toCtxB hx
 have hc : Qdh e = true := by cases e <;> first | rfl | cases ha
 have he := QmN ((Qbc n).E X Θ e fa ok h)
 exact QgE λ H0 A0 => Qe2 hN h1 h2 (he H0 A0) (QcV hc) h3
theorem Ql1 {a i e : Expr} {p : Pos} {l : Nat} {env : Env} : swapsWithSole [.Subscript a i p] e l env = pure false := by
 cases e <;> rfl
structure QrD (n : Nat) : Prop where
 S : ∀ X Θ st f, QF X Θ -> QgJ n Θ st = some f -> S1 X st f
 Ss : ∀ X Θ sts f, QF X Θ -> Qaw n Θ sts = some f -> SS X sts f
theorem Qrx {n : Nat} (ih : QrD n) : ∀ X Θ st f, QF X Θ -> QgJ (n + 1) Θ st = some f -> S1 X st f := by
 intro X Θ st f ok h
 have hN : X.N.Nodup := by rw [ok.N]; exact ok.nd
 have E := Qbc n
 cases st with
 | Pass pos => change some Qf = some f at h; cases h; exact QoY
 | Break pos => change some QmI = some f at h; cases h; exact QmX
 | Continue pos => change some QnC = some f at h; cases h; exact Qo1
 | Raise a b pos => change some Qx = some f at h; cases h; exact QnP
 | Return e pos =>
  cases e with
  | none => change some QkU = some f at h; cases h; exact Qp7
  | some e =>
   change (Qh n Θ e).map QS = some f at h
   obtain ⟨fa, h1, rfl⟩ := Zb.mp h
   exact Qlh (E.E X Θ e fa ok h1)
 | Expr e pos =>
  cases e with
  | Constant c k p =>
   cases c with
   | str x =>
    change some Qf = some f at h
    cases h
    exact λ H0 A0 => QrI.mono λ E σ H ⟨ρ, hs, F, o, rel, e, q⟩ => by cases e; exact q σ H F rel
   | _ => exact nomatch (show (none : Option DS) = some _ from h)
  | Call fn args kws cpos =>
   cases fn with
   | Attribute o m apos =>
    cases kws with
    | nil =>
     change (if (apos.endLine == cpos.line) = true then Qgk n Θ o m args else none) = some f at h
     split at h
     ·rename_i hl
      exact QnG ok h hl
     ·cases h
    | cons _ _ => exact nomatch (show (none : Option DS) = some _ from h)
   | Name x p =>
    cases kws with
    | nil =>
     change (Qh n Θ (.Call (.Name x p) args [] cpos)).map QG = some f at h
     obtain ⟨fa, h1, rfl⟩ := Zb.mp h
     exact λ H0 A0 => Qpj (Qfx (E.E X Θ _ fa ok h1 H0 A0) rfl)
    | cons _ _ => exact nomatch (show (none : Option DS) = some _ from h)
   | _ => exact nomatch (show (none : Option DS) = some _ from h)
  | _ => exact nomatch (show (none : Option DS) = some _ from h)
 | Assign ts e pos =>
  match ts, h with
  | [t], h =>
   cases t with
   | Name x p =>
    change ((Θ.Qcb x).bind λ i => (Qh n Θ e).map λ fa => Qw i (if QfK e = true then Qei fa else fa)) = some f at h
    obtain ⟨i, fa, h1, h2, rfl⟩ := Qz h
    split
    ·rename_i ha; exact Qm4 ok h1 h2 ha
    ·exact QpF ok h1 h2
   | Tuple es k p =>
    change (if Qdh e = true /\ Qmr e = false then (Qdu Θ (.Tuple es k p)).bind λ t => (Qh n Θ e).map λ fa => QkX t fa else none) = some f at h
    split at h
    ·rename_i hc
     obtain ⟨t, fa, h1, h2, rfl⟩ := Qz h
     refine Qpz (E.E X Θ e fa ok h2) (Qgq ok h1) (by show swapsWith e (some (.Tuple es k p)) pos.line X.env = pure false; exact QcV hc.1) ?_ rfl
     cases e <;> first | rfl | (cases hc.2)
    ·cases h
   | Subscript a i p =>
    change ((QbD n Θ a).bind λ q => (Qh n Θ i).bind λ fi => (Qh n Θ e).map λ fa => Qck q.1 q.2 fi fa) = some f at h
    obtain ⟨q, h1, h⟩ := bind1 h
    obtain ⟨fi, fa, h2, h3, rfl⟩ := Qz h
    obtain ⟨sp, _⟩ := QeA n X Θ a q ok h1
    have ns := Qj6 h2
    refine Qrv (E.E X Θ e fa ok h3) sp (E.E X Θ i fi ok h2) λ te to ti he ho hi => QlV he (Qq2 ho hi set_list ?_) Ql1 ?_ rfl
    ·intro v; cases i <;> first | rfl | (cases ns)
    ·cases e <;> rfl
   | _ => exact nomatch (show (none : Option DS) = some _ from h)
  | [], h => exact nomatch (show (none : Option DS) = some _ from h)
  | t :: _ :: _, h => cases t <;> exact nomatch (show (none : Option DS) = some _ from h)
 | AugAssign t op e pos =>
  cases t with
  | Subscript a i p =>
   change ((QbD n Θ a).bind λ q => (Qh n Θ i).bind λ fi => (QmV op).bind λ g => (Qh n Θ e).map λ fa => QdH g q.1 q.2 fi fa) = some f at h
   obtain ⟨q, h1, h⟩ := bind1 h
   obtain ⟨fi, h2, h⟩ := bind1 h
   obtain ⟨g, fa, h3, h4, rfl⟩ := Qz h
   obtain ⟨r, o1, o2⟩ := Qrs (X := X) h3
   obtain ⟨sp, _⟩ := QeA n X Θ a q ok h1
   have ns := Qj6 h2
   exact QoG o1 o2 (E.E X Θ e fa ok h4) sp (E.E X Θ i fi ok h2) λ ov iv new => by cases i <;> first | rfl | (cases ns)
  | _ => exact nomatch (show (none : Option DS) = some _ from h)
 | If c a b pos =>
  change ((QaC n Θ c).bind λ g => (Qaw n Θ a).bind λ f1 => (Qaw n Θ b).map λ f2 => sIf g f1 f2) = some f at h
  obtain ⟨g, h1, h⟩ := bind1 h
  obtain ⟨f1, f2, h2, h3, rfl⟩ := Qz h
  exact Qsk (E.T X Θ c g ok h1) (ih.Ss X Θ a f1 ok h2) (ih.Ss X Θ b f2 ok h3)
 | For tg iter body els pos =>
  cases els with
  | nil =>
   change ((Qdu Θ tg).bind λ t => (Qdg n Θ tg iter).bind λ fi => (Qaw n Θ body).map λ fb => Qa4 fi t fb) = some f at h
   obtain ⟨t, h1, h⟩ := bind1 h
   obtain ⟨fi, fb, h2, h3, rfl⟩ := Qz h
   obtain ⟨i1, i2⟩ := E.I X Θ tg iter fi ok h2
   exact QqW ok.pass ok.calm i1 (Qgq ok h1) (ih.Ss X Θ body fb ok h3) i2
  | cons _ _ => exact nomatch (show (none : Option DS) = some _ from h)
 | Try a b c d pos => exact ok.tr _ _ h
 | _ => exact nomatch (show (none : Option DS) = some _ from h)
theorem QfG : ∀ n, QrD n
 | 0 => ⟨λ _ _ _ _ _ h => (nomatch (show (none : Option DS) = some _ from h)), λ _ _ _ _ _ h => (nomatch (show (none : Option DS) = some _ from h))⟩
 | n + 1 => by
  have ih := QfG n
  refine ⟨Qrx ih, λ X Θ sts f ok h => ?_⟩
  match sts, h with
  | [], h => change some Qf = some f at h; cases h; exact QlN
  | st :: r, h =>
   change ((QgJ n Θ st).bind λ f => (Qaw n Θ r).map λ g => Qe f g) = some f at h
   obtain ⟨fs, fr, h1, h2, rfl⟩ := Qz h
   exact Qhq (ih.S X Θ st fs ok h1) (ih.Ss X Θ r fr ok h2)
noncomputable def Qam (k : Nat) (ds : List D) : En := ds.map (λ d => some (d, d.flat)) ++ List.replicate (k - ds.length) none
noncomputable def outD : Out -> Option (D × Bool)
 | .rt d fr => some (d, fr)
 | .nx _ => some (.non, true)
 | _ => none
noncomputable def Qn (k : Nat) (f : DS) : Den := λ ds => (f (Qam k ds)).bind outD
theorem Rps.parts {K : PySem.W.Frag} {H : Hp} : ∀ {ds : List D} {vs : List V} {F : List Addr}, Rps K H ds vs F →
  ∃ Fs : List (List Addr), (∀ L ∈ Fs, ∀ a ∈ L, a ∈ F) /\ ∀ (i : Nat) (d : D), ds[i]? = some d -> ∃ v, vs[i]? = some v /\ Rp K H d v (Fs.getD i [])
 | [], _, _, h => ⟨[], λ L hL => by simp at hL, λ i d e => by simp at e⟩
 | d :: ds, _, _, h => by
  simp only [Rps] at h
  obtain ⟨v, ws, F1, F2, rfl, rfl, r, q⟩ := h
  obtain ⟨Fs, h1, h2⟩ := Rps.parts q
  refine ⟨F1 :: Fs, λ L hL a ha => ?_, λ i d' e => ?_⟩
  ·rcases Zm.mp hL with rfl | hL
   ·exact Zd _ ha
   ·exact Ze _ (h1 L hL a ha)
  ·cases i with
   | zero => simp at e; subst e; exact ⟨v, by simp, by simpa using r⟩
   | succ i => obtain ⟨w, hw, hr⟩ := h2 i d' (by simpa using e); exact ⟨w, by simpa using hw, by simpa using hr⟩
theorem QfQ {k : Nat} {ds : List D} {i : Nat} {d : D} {b : Bool} (h : (Qam k ds)[i]? = some (some (d, b))) : ds[i]? = some d /\ b = d.flat := by
 unfold Qam at h
 by_cases hi : i < ds.length
 ·rw [Zab (by simpa using hi), Zx] at h
  cases e : ds[i]? with
  | none => rw [e] at h; cases h
  | some a => rw [e] at h; cases h; exact ⟨rfl, rfl⟩
 ·rw [ZaW (by simpa using hi), Zba] at h
  split at h <;> cases h
theorem QdI {K : PySem.W.Frag} {H : Hp} {ds : List D} {vs : List V} {F : List Addr} {N : List Str} (r : Rps K H ds vs F) : ∃ F0, Rel K H F [] (Qam N.length ds) F0 (start N vs) H := by
 obtain ⟨Fs, h1, h2⟩ := r.parts
 have hl := r.length
 have src : ∀ i a, a ∈ Fs.getD i [] -> a ∈ F := λ i a ha => by
  by_cases hi : i < Fs.length
  ·have : Fs.getD i [] ∈ Fs := by rw [ZY, ZaZ hi]; exact List.getElem_mem hi
   exact h1 _ this a ha
  ·rw [ZY, Zz (by omega)] at ha; simp at ha
 refine ⟨λ i => Fs.getD i [], ?_, λ i d b e => ?_, λ i d e => ?_, λ i d b e a ha => .inr (src i a ha), λ t ht => absurd ht (by simp), Qq.refl _⟩
 ·unfold Qam L2.start; simp [hl]
 ·obtain ⟨e1, _⟩ := QfQ e
  obtain ⟨v, hv, hr⟩ := h2 i d e1
  refine ⟨v, ?_, hr⟩
  have hi : i < vs.length := (Zi.mp hv).1
  unfold L2.start
  rw [Zab (by simpa using hi), Zx, hv]; rfl
 ·obtain ⟨e1, e2⟩ := QfQ e
  obtain ⟨v, hv, hr⟩ := h2 i d e1
  have z : Fs.getD i [] = [] := hr.QbC e2.symm
  simp only [z]
  exact ⟨(QcK d e2.symm).symm, Zaf, λ a ha => by simp at ha, λ _ _ _ _ _ a ha => by simp at ha, λ _ _ a ha => by simp at ha⟩
section
variable (P : Program) (w : World) (K : PySem.W.Frag) (mg : Str -> Option Value) (base : Heap)
def Known (k : Nat) (x : Str) (r : FnR) : Prop := ∃ f fd ps, Qbe P w K mg base CX0 k f fd ps (spV K r.n r.den) /\ mg x = some (.ref f) /\ PySem.W.keepIn K (.ref f) = true ∧
 ∀ m, m <= r.dfl.length -> ∃ ds dvs, Binds K fd ps ds /\ Ql dvs ds /\ ∀ H, Rps K H (r.dfl.drop (r.dfl.length - m)) dvs []
def QaZ (k : Nat) (Γ : List (Str × FnR)) : Prop := ∀ x r, look x Γ = some r -> Known P w K mg base k x r
structure QcP (cs : List (Str × Int)) : Prop where
 bn : ∀ x ∈ QiM, mg x = none
 cs : ∀ x i, look x cs = some i -> ∃ t, mg x = some (.int i t)
end
section
variable {P : Program} {w : World} {K : PySem.W.Frag} {mg : Str -> Option Value} {base : Heap}
theorem QaZ.nil {k : Nat} : QaZ P w K mg base k [] := λ x r h => by cases h
theorem Known.mono {j k : Nat} {x : Str} {r : FnR} (h : Known P w K mg base j x r) (hk : j <= k) : Known P w K mg base k x r := by
 obtain ⟨f, fd, ps, h1, h2⟩ := h
 exact ⟨f, fd, ps, h1.mono hk, h2⟩
theorem QaZ.cons {k : Nat} {Γ : List (Str × FnR)} {x : Str} {r : FnR} (t : QaZ P w K mg base k Γ) (h : Known P w K mg base (k + 1) x r) : QaZ P w K mg base (k + 1) ((x, r) :: Γ) := λ y q e => by
 unfold look at e
 split at e
 ·rename_i z; cases e; subst z; exact h
 ·exact (t y q e).mono (Zu _)
noncomputable def namesOf (sc : Scope) : List Str := (sc.names.filter λ y => Qor y.2).map (·.1)
noncomputable def Qcm (st : Stmt) (Γ : List (Str × FnR)) (cs : List (Str × Int)) : Th := ⟨namesOf (Qd st), (Qd st).names, Γ, cs, λ _ => none⟩
theorem Qkh {CX : CXT} {xe : Value -> Shared -> Prop} {st : Stmt} {ps : List Str} {qual : Str} {f : Addr} {cdv : Value} {A : Around} {outer : List Env} {s : Shared} {H : Hp} {E : XK} {k : Nat} {Γ : List (Str × FnR)} {cs : List (Str × Int)} (S : QaJ (namesOf (Qd st)) ps (Qd st)) (M : QcP mg cs) (tab : QaZ P w K mg base k Γ)
  (hr : QW k (A.deeper (envOfC qual (Qd st) s.heap.objs.size f cdv))) (hp : PassesOwn (model P w) (A.deeper (envOfC qual (Qd st) s.heap.objs.size f cdv)) (envOfC qual (Qd st) s.heap.objs.size f cdv) xe) :
  QF ((Qb1 CX P w K mg base (namesOf (Qd st)) qual (Qd st) f cdv A outer s H E).QcG xe) (Qcm st Γ cs) where
 N := rfl
 nd := S.nd
 lc := λ x h => by rw [Qaf] at h; exact h
 ce := λ x h => by rw [Qaf] at h; exact ⟨h, rfl⟩
 fe := λ x h => by rw [Qaf] at h; exact absurd rfl (S.nofree _ (ZN h))
 gl := λ x h => by rw [Qaf] at h; exact h
 calm := decide_eq_true hr.hd
 pass := hp
 tr := λ _ _ h => by cases h
 units := hr.units
 mg := M.bn
 fns := λ x r h => by
  obtain ⟨f', fd, ps', h1, h2, h3, h4⟩ := tab x r h
  exact ⟨k, f', fd, ps', h1, hr, h2, h3, h4⟩
 cs := M.cs
theorem Qlz {st : Stmt} {ps : List Str} {qual : Str} {f : Addr} {cdv : Value} {A : Around} {outer : List Env} {s : Shared} {H : Hp} {E : XK} {k : Nat} {Γ : List (Str × FnR)} {cs : List (Str × Int)} (S : QaJ (namesOf (Qd st)) ps (Qd st)) (M : QcP mg cs) (tab : QaZ P w K mg base k Γ)
  (hr : QW k (A.deeper (envOfC qual (Qd st) s.heap.objs.size f cdv))) : QF (Qb1 CX0 P w K mg base (namesOf (Qd st)) qual (Qd st) f cdv A outer s H E).nox (Qcm st Γ cs) := Qkh S M tab hr PassesOwn.never
theorem QlK {x qual : Str} {st : Stmt} {f : Addr} {fd : FuncData} {ps : List Str} {k n : Nat} {Γ : List (Str × FnR)} {cs : List (Str × Int)} {g : DS} (F : Fun K x qual st f fd) (S : QaJ (namesOf (Qd st)) ps (Qd st)) (M : QcP mg cs) (tab : QaZ P w K mg base k Γ)
  (hc : Qaw n (Qcm st Γ cs) (QY st) = some g) : Qbe P w K mg base CX0 (k + 1) f fd ps (spV K ps.length (Qn (namesOf (Qd st)).length g)) := by
 refine F.ok S (Qg6 rfl) λ cdv A outer s H vs Q E hr h => ?_
 obtain ⟨ds, L, d, fr, rps, hl, hd, q⟩ := h
 refine ⟨_, (QfG n).Ss _ _ _ g (Qlz S M tab hr) hc H L, ?_⟩
 obtain ⟨F0, rel⟩ := QdI (N := namesOf (Qd st)) rps
 unfold Qn at hd
 obtain ⟨o, ho, hd⟩ := bind1 hd
 refine ⟨_, [], F0, o, rel, ho, ?_⟩
 cases o with
 | nx ρ =>
  cases hd
  exact λ σ H' F' rel' => q .non H' [] ⟨rel'.same, .Qea, λ a ha => by simp at ha, λ _ => ⟨Zaf, rfl, λ a ha => by simp at ha⟩⟩
 | bk ρ => cases hd
 | ct ρ => cases hd
 | rt d' fr' =>
  cases hd
  exact λ v H' G r => q v H' G r
structure Fact (K : PySem.W.Frag) (x : Str) (st : Stmt) : Prop where
 ex : ∃ f fd, Fun K x x st f fd /\ PySem.W.nsIn K mainGlobals x = some (some (.ref f))
theorem fact_mk {x : Str} {st : Stmt} {f : Addr} {oc : Value} {od an : Option Addr} {osl : Array (Option Value)} {kV doc pm cdv ct : Value} (a : PySem.W.nsIn K mainGlobals x = some (some (.ref f))) (l : K.lookup f = some ⟨oc, od, .func (PySem.W.fnOf x x (Qdi st) (QY st) (Qd st) .none kV doc pm an cdv ct), osl⟩)
  (c : PySem.W.codeIn K cdv x = true) (k : PySem.W.keepIn K (.ref f) = true) : Fact K x st := ⟨f, _, Qq7 l c k, a⟩
def QC (x : Str) (st : Stmt) (ps : List Str) : Prop := ∀ (kV doc pm : Value) (an : Option Addr) (cdv ct : Value) (us : List Value), us.length = ps.length -> bindArgs (PySem.W.fnOf x x (Qdi st) (QY st) (Qd st) .none kV doc pm an cdv ct) ⟨us, []⟩ = pure (ps.zip us)
theorem Qab {h : Heap} {x : Str} {st : Stmt} {ps : List Str} {k n : Nat} {Γ : List (Str × FnR)} {cs : List (Str × Int)} {g : DS} (X : K.In h) (G : h.Ns mainGlobals mg) (F : Fact K x st) (S : QaJ (namesOf (Qd st)) ps (Qd st)) (B : QC x st ps) (M : QcP mg cs) (tab : QaZ P w K mg base k Γ)
  (hc : Qaw n (Qcm st Γ cs) (QY st) = some g) : Known P w K mg base (k + 1) x ⟨ps.length, [], Qn (namesOf (Qd st)).length g⟩ := by
 obtain ⟨f, fd, Fn, a⟩ := F.ex
 refine ⟨f, fd, ps, QlK Fn S M tab hc, Zaw X G a, Fn.kp, λ m hm => ⟨[], [], Fn.binds (B ·), .nil, λ H => by simp [Rps]⟩⟩
end
end HS
namespace HS
open PySem PySem.Spec L2 PyProof.Rows
theorem Qnk {l : PySem.W.OpenLaw} {k : Nat} {q : Program} {loose : List Str} {XP : (Str -> Option Value) -> Heap -> Prop} {YP : World -> Heap -> Prop} {d : DefRec} {K : Params -> PySem.W.Frag} {den : Den} {x : Str}
  (hn : l.most = some 63) (hdf : d.params.defaults = []) (hr : QW k callerA) (hY : ∀ (w : World) (h : Heap), YP w h -> (K w.params).In h)
  (hden : ∀ ns : List Int, ns.length <= 63 -> ∃ fr, den [.lst (ns.map .int)] = some (.bl true, fr))
  (F : ∀ (w : World) (mg : Str -> Option Value) (fa : Addr) (h : Heap), (K w.params).In h -> h.Ns mainGlobals mg -> mg d.name = some (.ref fa) →
   ∃ fd : FuncData, (∀ (s : Shared) (u : Value), BindsTo s fd ⟨[u], []⟩ [(x, u)]) ∧
    ∀ base : Heap, (K w.params).In base -> base.Ns mainGlobals mg -> Qbe l.prog w (K w.params) mg base CX0 k fa fd [x] (spV (K w.params) 1 den)) :
  PySem.W.WalkO q loose XP YP l.row.toRowW d [] (λ f vs => PySem.call f vs) := by
 refine Att.QfL hn hdf λ w s₀ s₁ mg mb fa o pm cd doc a vs ns G Y ho hd hcd hmg hobj hints hlen hg => ?_
 have KX := hY w _ Y
 obtain ⟨fd, hb, hF⟩ := F w mg fa _ KX G.T.g hmg
 have h63 : (63 : Nat) <= sizeLine := by decide
 refine Qjm KX G.T.g G.T.b G.T.builtins G.T.nolimit hg hobj hints (Zv hlen h63) hr hF hb (λ H hO hS => ?_) λ H e s' z => z
 have fx : Fix (K w.params) H a (ns.map V.int) := by
  rcases hS with (h | ⟨o, h⟩) | ⟨o, its, n, hk, hc, hdn, hda, hz, rv⟩
  ·rcases hO a with z | ⟨o, xs, z⟩ <;> rw [h] at z <;> cases z
  ·exact .inl ⟨o, h⟩
  ·have e := KX a o hk
   rw [hobj] at e
   cases e
   cases hda
   exact .inr ⟨vs, _, hk, by rw [Zs]; exact Zv hlen h63, by simpa using rv⟩
 obtain ⟨fr, hfr⟩ := hden ns hlen
 have rp : Rp (K w.params) H (.lst (ns.map .int)) (.ref a) [] := by
  simp only [Rp]
  refine ⟨by rw [Zs]; exact Zv hlen h63, a, _, rfl, .inr ⟨fx, ?_⟩⟩
  have gen : ∀ ns : List Int, Rps (K w.params) H (ns.map .int) (ns.map .int) [] := by
   intro ns
   induction ns with
   | nil => simp [Rps]
   | cons n ns ih => simp only [Zt, Rps]; exact ⟨_, _, [], [], rfl, rfl, .int_mk, ih⟩
  exact gen ns
 refine ⟨[.lst (ns.map .int)], [], .bl true, fr, ?_, rfl, hfr, λ v H' G r => r.rp.Qe0⟩
 simp only [Rps]
 exact ⟨_, _, [], [], rfl, rfl, rp, rfl, rfl⟩
theorem Qr5 {P : Program} {w : World} {K : PySem.W.Frag} {mg : Str -> Option Value} {h : Heap} {x y : Str} {st : Stmt} {fa : Addr} {k n : Nat} {Γ : List (Str × FnR)} {cs : List (Str × Int)} {g : DS} (X : K.In h) (G : h.Ns mainGlobals mg) (hmg : mg x = some (.ref fa))
  (F : Fact K x st) (S : QaJ (namesOf (Qd st)) [y] (Qd st)) (B : QC x st [y]) (M : QcP mg cs) (tab : ∀ base : Heap, QaZ P w K mg base k Γ) (hc : Qaw n (Qcm st Γ cs) (QY st) = some g) :
  ∃ fd : FuncData, (∀ (s : Shared) (u : Value), BindsTo s fd ⟨[u], []⟩ [(y, u)]) ∧
    ∀ base : Heap, K.In base -> base.Ns mainGlobals mg -> Qbe P w K mg base CX0 (k + 1) fa fd [y] (spV K 1 (Qn (namesOf (Qd st)).length g)) := by
 obtain ⟨f, fd, Fn, a⟩ := F.ex
 have e := hmg.symm.trans (Zaw X G a)
 cases e
 refine ⟨fd, λ s u => ?_, λ base _ _ => QlK Fn S M (tab base) hc⟩
 obtain ⟨oc, od, kV, doc, pm, an, cdv, ct, osl, rfl, lk, hcd⟩ := Fn.ex
 exact .of_eq (B kV doc pm an cdv ct [u] rfl)
end HS
namespace HS
open PySem PySem.Spec PyProof.Rows L2
section
variable {P : Program} {w : World} {K : PySem.W.Frag} {mg : Str -> Option Value} {base : Heap}
end
end HS
namespace HS
open PySem PySem.Spec L2 PyProof.Rows
theorem Qnl {P : Program} {w : World} {H : Hp} {h : Heap} {a : Addr} {o : HO} (x : QaY P w H h a o) : ∃ u, h.get? a = some u := by
 cases o with
 | lst xs => obtain ⟨_, _, _, _, e⟩ := x; exact ⟨_, e⟩
 | tup xs => obtain ⟨_, _, _, ob, e, _⟩ := x; exact ⟨_, e⟩
 | dK kvs => obtain ⟨_, _, _, _, o, _, _, e, _⟩ := x; exact ⟨_, e⟩
 | dT kvs => obtain ⟨_, _, _, _, o, _, _, e, _⟩ := x; exact ⟨_, e⟩
 | set S n => obtain ⟨o, _, _, _, e, _⟩ := x; exact ⟨_, e⟩
 | ins C dx fs => obtain ⟨_, _, _, e, _⟩ := x; exact ⟨_, e⟩
 | own y => exact x
 | xd fs => obtain ⟨_, ⟨_, _, _, e, _⟩, _⟩ := x; exact ⟨_, e⟩
 | rng lo hi => obtain ⟨_, _, _, e⟩ := x; exact ⟨_, e⟩
 | frz ob u => obtain ⟨e, _⟩ := x; exact ⟨_, e⟩
 | tbl ps => exact ⟨_, show h.get? a = some _ from x⟩
 | met f y => exact ⟨_, show h.get? a = some _ from x⟩
 | ext φ => obtain ⟨_, e, _⟩ := x; exact e
section
variable {P : Program} {w : World} {H H' : Hp} {h0 h h' B : Heap} {fs : List Addr}
def Cov (H : Hp) (B : Heap) : Prop := ∀ b u, H b = some u -> ∃ o, B.get? b = some o
theorem Qhs (hok : HOk P w H h) (hB : B.StaysIn h) (hB' : B.StaysIn h') (cov : Cov H B) : HOk P w H h' := λ a o e =>
 (hok a o e).QdS (λ c v hc q => by
  have : ∃ u, H c = some u := by
   rcases hc with rfl | hc
   ·exact ⟨_, e⟩
   ·exact ⟨_, hc⟩
  obtain ⟨u, hu⟩ := this
  obtain ⟨o', ho'⟩ := cov c u hu
  have := hB _ _ ho'
  rw [q] at this
  cases this
  exact hB' _ _ ho') (λ _ q => q) λ _ _ q => q
theorem Qjk (u : Un fs [] H H' h0 h) (hB : B.StaysIn h) (hB' : B.StaysIn h') (up : h.UpToSlots h') (old : ∀ b o, h0.get? b = some o -> b ∉ fs -> ∃ o', B.get? b = some o')
  (dat : ∀ b o, h0.get? b = some o -> b ∈ fs -> ∀ vs, o.data ≠ .fields vs) (frf : ∀ b ∈ fs, H b = none) : Un fs [] H H' h0 h' where
 keep := λ b o e n hb hx => by
  obtain ⟨o', e1⟩ := old b o e hb
  have := hB _ _ e1
  rw [u.keep b o e n hb hx] at this
  cases this
  exact hB' _ _ e1
 slot := λ b o e n hb hx => by
  obtain ⟨sl, e1⟩ := u.slot b o e n hb hx
  obtain ⟨sl', e2⟩ := up b _ e1 (dat b o e hb)
  exact ⟨sl', e2⟩
 free := u.free
 there := λ b o e hx => by
  by_cases hb : b ∈ fs
  ·obtain ⟨sl, e1⟩ := u.slot b o e (frf b hb) hb hx
   obtain ⟨sl', e2⟩ := up b _ e1 (dat b o e hb)
   exact ⟨_, e2⟩
  ·obtain ⟨o', e1⟩ := old b o e hb
   exact ⟨_, hB' _ _ e1⟩
 tups := u.tups
 frzs := u.frzs
 tbls := u.tbls
end
noncomputable def CXR (P : Program) (w : World) : CXT := λ outer H s E e s' => ∃ ea C H' B a0, e = Value.ref ea /\ s'.os = s.os /\ AllBare s'.gens /\ Un (frs outer) [] H H' s.heap s'.heap /\ HOk P w H' s'.heap /\ Heap.FlyingW B outer ea C a0 s'.heap ∧
 Cov H' B /\ (∀ b o, s.heap.get? b = some o -> b ∉ frs outer -> ∃ o', B.get? b = some o') /\ E C none H'
def Qed (X : Cx) (H0 : Hp) (A0 : List Addr) (hs : List (V × D × List Addr)) (ρ : En) (C : Value) (ea : Addr) (s' : Shared) : Prop := ∃ pins σ H F, Rel X.K H0 A0 hs ρ F σ H ∧
 ((∃ sg args, Inv X pins σ H sg /\ Heap.MadeExcOf sg.heap s'.heap ea C args /\ s'.os = sg.os /\ s'.gens = sg.gens) ∨
  ∃ B a0, Inv X pins σ H s' /\ Heap.FlyingW B X.stack ea C a0 s'.heap /\ Cov H B /\ (∀ b o, X.s₀.heap.get? b = some o -> b ∉ X.fs -> ∃ o', B.get? b = some o') /\ ∀ p ∈ X.pn ++ pins, ∃ o, B.get? p.1 = some o)
theorem QlF {X : Cx} {pins : List (Addr × Obj)} {σ : L2.St} {H : Hp} {s : Shared} (I : Inv X pins σ H s) (hx : X.ex = []) {b : Addr} {o : Obj} (e : X.s₀.heap.get? b = some o) (hb : b ∉ X.fs) : (∃ o', s.heap.get? b = some o') /\ b ∉ frs X.stack := by
 refine ⟨I.base.there b o e (by rw [hx]; simp), λ z => ?_⟩
 rcases Zm.mp (I.Qdl b z) with q | q
 ·have h1 := Zk e
  have h2 := I.ok.above
  rw [q] at h1
  exact absurd (Zo h1 h2) (ZF _)
 ·exact hb q
theorem Qgu {X : Cx} (ok : X.Ok) {b : Addr} {o : Obj} (e : X.s₀.heap.get? b = some o) (hb : b ∈ X.fs) : ∀ vs, o.data ≠ .fields vs := by
 obtain ⟨_, o', e', h⟩ := ok.Qb2.mem hb
 rw [e] at e'
 cases e'
 exact h
theorem QiQ {X : Cx} {pins : List (Addr × Obj)} {σ : L2.St} {H : Hp} {s : Shared} (I : Inv X pins σ H s) (hx : X.ex = []) : ∃ B : Heap, B.StaysIn s.heap /\ s.heap.FunFrames B X.stack /\ Cov H B /\ (∀ b o, X.s₀.heap.get? b = some o -> b ∉ X.fs -> ∃ o', B.get? b = some o') /\ ∀ p ∈ X.pn ++ pins, ∃ o, B.get? p.1 = some o := by
 refine ⟨PySem.W.hideAll s.heap (frs X.stack), λ b o e => PySem.W.of_hideAll _ e, PySem.W.funFrames_hide I.stack λ env he a ha => Zau.mpr ⟨env, he, ha⟩, λ b u e => ?_, λ b o e hb => ?_, λ p hp => ?_⟩
 ·obtain ⟨o, ho⟩ := Qnl (I.hok b u e)
  exact ⟨o, Zaz _ ho λ z => by rw [I.Qhw b z] at e; cases e⟩
 ·obtain ⟨⟨o', h1⟩, h2⟩ := QlF I hx e hb
  exact ⟨o', Zaz _ h1 h2⟩
 ·obtain ⟨e, _, ne, nf, _⟩ := I.pin p hp
  exact ⟨_, Zaz _ e λ z => (Zm.mp (I.Qdl _ z)).elim ne nf⟩
theorem Qjn {X : Cx} {P : Program} {w : World} {E : XK} {H0 : Hp} {A0 : List Addr} {hs : List (V × D × List Addr)} {ρ : En} {C : Value} {ea : Addr} {s' : Shared} {env : Env} {outer : List Env} {Er : Value -> Shared -> Prop}
  (hp : X.prog = P) (hw : X.w = w) (hx : X.ex = []) (hst : X.stack = env :: outer) (hfs : X.outer = outer) (hen : X.env = env) (hf : env.frame = some X.env.locals) (T : Qed X H0 A0 hs ρ C ea s')
  (hE : ∀ H, Qq H0 H -> E C none H) : wpAny (model P w) X.A (leaving env (.ref ea)) (λ _ s'' => CXR P w outer X.H₀ X.s₀ E (.ref ea) s'') Er s' := by
 subst hp hw hfs
 obtain ⟨pins, σ, H, F, rel, ⟨sg, args, I, hm, ho, hg⟩ | ⟨B, a0, I, fl, cov, old, _⟩⟩ := T
 ·obtain ⟨B, b1, b2, cov, old, _⟩ := QiQ I hx
  rw [hst] at b2
  have hfr := I.ok.frames
  rw [hst] at hfr
  refine wpAny_leaves_madeW hfr hf b1 b2 hm λ h' t fl _ _ up => ?_
  have up' : sg.heap.UpToSlots h' := (Heap.UpToSlots.of_keeps hm.keeps).trans up
  have hb := I.base
  rw [hx] at hb
  exact ⟨ea, C, H, B, _, rfl, ho.trans I.os, hg ▸ I.bare, Qjk hb b1 fl.1 up' old (λ b o e hb => Qgu I.ok e hb) I.ok.frf, Qhs I.hok b1 fl.1 cov, fl, cov, old, hE H rel.same⟩
 ·have hfr := I.ok.frames
  rw [hst] at hfr fl
  refine wpAny_leaves_onW hfr hf fl λ h' fl' up => ?_
  have hb := I.base
  rw [hx] at hb
  exact ⟨ea, C, H, B, _, rfl, I.os, I.bare, Qjk hb fl.1 fl'.1 up old (λ b o e hb => Qgu I.ok e hb) I.ok.frf, Qhs I.hok fl.1 fl'.1 cov, fl', cov, old, hE H rel.same⟩
end HS
namespace HS
open PySem PySem.Spec L2 PyProof.Rows
noncomputable abbrev DX := En -> Option (Str × En)
def ClsAt (K : PySem.W.Frag) (x : Str) (C : Addr) : Prop := PySem.W.nsIn K mainGlobals x = some (some (.ref C))
def cRz (X : Cx) (H0 : Hp) (A0 : List Addr) (fx : DX) (σ : L2.St) (H : Hp) : Prop := ∃ ρ hs F x ρ', Rel X.K H0 A0 hs ρ F σ H /\ fx ρ = some (x, ρ') /\ ∀ C ea s', ClsAt X.K x C -> Qed X H0 A0 hs ρ' (.ref C) ea s' -> X.xe (.ref ea) s'
noncomputable def tRz (X : Cx) (H0 : Hp) (A0 : List Addr) (fx : DX) : TS := λ _ σ H => cRz X H0 A0 fx σ H
noncomputable def eRz (X : Cx) (H0 : Hp) (A0 : List Addr) (fx : DX) : TE := λ σ H _ => cRz X H0 A0 fx σ H
def Rz (X : Cx) (st : Stmt) (fx : DX) : Prop := ∀ H0 A0, PS X st (tRz X H0 A0 fx)
def RzS (X : Cx) (sts : List Stmt) (fx : DX) : Prop := ∀ H0 A0, PSs X sts (tRz X H0 A0 fx)
def RzE (X : Cx) (e : Expr) (fx : DX) : Prop := ∀ H0 A0, PE X e (eRz X H0 A0 fx)
noncomputable def xNo : DX := λ _ => none
noncomputable def QcY (x : Str) (fs : DA) : DX := λ ρ => (fs ρ).bind λ r => if r.ds.length <= 1 then some (x, ρ) else none
noncomputable def QX (n : Nat) (xd : List D -> Option Str) (fs : DA) : DX := λ ρ => (fs ρ).bind λ r => if r.ds.length = n then (xd r.ds).map λ c => (c, ρ) else none
noncomputable def xIf (g : DT) (fa fb : DX) : DX := λ ρ => (g ρ).bind λ b => if b = true then fa ρ else fb ρ
noncomputable def QA (f : DS) (fx fr : DX) : DX := λ ρ => match f ρ with
 | some (.nx ρ') => fr ρ'
 | some _ => none
 | none => fx ρ
noncomputable def QcN (t : Tg) (fb : DS) (fx : DX) : List D -> DX
 | [], _ => none
 | d :: ds, ρ => (QaQ t d ρ).bind λ ρ1 => match fb ρ1 with
  | some (.nx ρ2) => QcN t fb fx ds ρ2
  | some (.ct ρ2) => QcN t fb fx ds ρ2
  | some _ => none
  | none => fx ρ1
noncomputable def QdU (fi : DI) (t : Tg) (fb : DS) (fx : DX) : DX := λ ρ => (fi ρ).bind λ ir => QcN t fb fx ir.items (QaL ir.M ρ)
noncomputable def spX (K : PySem.W.Frag) (n : Nat) (xd : List D -> Option Str) : Sp := λ vs H _ E => ∃ ds L x, Rps K H ds vs L /\ ds.length = n /\ xd ds = some x /\ ∀ C H', ClsAt K x C -> Qq H H' -> E (.ref C) none H'
theorem QpZ {K : PySem.W.Frag} {n : Nat} {xd : List D -> Option Str} {ps : List Str} (hn : ps.length = n) : ∀ vs H Q E, spX K n xd vs H Q E -> vs.length = ps.length := λ vs H Q E ⟨ds, L, x, r, hl, _⟩ => by rw [hn, ← hl, r.length]
section
variable {X : Cx} {st : Stmt} {sts : List Stmt} {e : Expr} {es : List Expr} {fs : DA} {f : DS} {fx fr fy : DX} {g : DT} {pos p np cpos : Pos} {x : Str} {k n : Nat} {fa : Addr} {fd : FuncData} {ps : List Str} {xd : List D -> Option Str}
theorem QkS : Rz X st xNo := λ H0 A0 pins s σ H Dd I ⟨ρ, hs, F, x, ρ', rel, e, q⟩ => by cases e
theorem Qpw : RzS X [] xNo := λ H0 A0 pins s σ H Dd I ⟨ρ, hs, F, x, ρ', rel, e, q⟩ => by cases e
theorem Qed.hold {H0 : Hp} {A0 : List Addr} {hs ts : List (V × D × List Addr)} {ρ : En} {C : Value} {ea : Addr} {s' : Shared} (h : Qed X H0 A0 (ts ++ hs) ρ C ea s') : Qed X H0 A0 hs ρ C ea s' := by
 obtain ⟨pins, σ, H, F, rel, q⟩ := h
 exact ⟨pins, σ, H, F, rel.Qjh, q⟩
theorem QpD (Fk : Qbe X.prog X.w X.K X.mg X.base (CXR X.prog X.w) k fa fd ps (spX X.K n xd)) (hr : QW k X.A) (hg : Gl X x) (hm : X.mg x = some (.ref fa)) (hk : PySem.W.keepIn X.K (.ref fa) = true) (hb : Binds X.K fd ps []) (hx : X.ex = []) (hn : ps.length = n)
  (ha : SA X (e :: es) fs) (hdb : (x == ("__debug__" : Str)) = false) (he : starEach (e :: es) X.env = (false, eval e X.env) :: starEach es X.env) (hpl : (backTo pos (starEach es X.env)).any (·.1) = false) :
  RzE X (.Call (.Name x p) (e :: es) [] pos) (QX n xd fs) := λ H0 A0 pins s σ H Q I ⟨ρ, hs, F, c, ρ', rel, ex, q⟩ => by
 obtain ⟨ra, e1, ex⟩ := bind1 ex
 split at ex
 ·rename_i hl
  obtain ⟨c', e2, e3⟩ := Zb.mp ex
  cases e3
  refine wpAny_Call_Name_kw (QcB I hg hm ?_ hdb)
  refine ZaV (h₀ := X.base) I.ok.mod.kin hk (thn (ha H0 A0 pos pins s σ H (λ vs H1 => ∃ G, QkC X.K ρ F H H1 ra vs G) I ⟨ρ, hs, F, ra, rel, e1, λ vs H1 G p1 => ⟨G, p1⟩⟩) λ us s1 ⟨vs, H1, I1, rv, G, p1⟩ => ⟨I1.kIn, ?_⟩) he hpl
  have hlen : (us ++ []).length = ps.length := by rw [Zah, ← rv.length, ← p1.rp.length, hl, hn]
  have hbb := hb s1 us I1.kIn hlen
  rw [Zah] at hbb
  refine wpAny_call (codeAny_mono (Fk.run X.A X.stack s1 H1 ⟨us, []⟩ us vs (λ _ _ => False) (λ c' _ H' => ∃ C, c' = .ref C /\ ClsAt X.K c C /\ Qq H1 H') hr I1.QnB hbb rv ⟨ra.ds, G, c, p1.rp, hl, e2, λ C H' hC sm => ⟨C, rfl, hC, sm⟩⟩) λ r s' hq => ?_)
  cases r with
  | error ev =>
   obtain ⟨ea, C', H', B, a0, rfl, os, bare, un, hok, fl, cov, old, C, rfl, hC, sm⟩ := hq
   exact q C ea s' hC ⟨pins, σ, H', F, (rel.ext p1.same).ext sm, .inr ⟨B, a0, I1.Qod os un hok bare (λ b z => absurd z (by simp)), fl, cov, λ b o eb hbf => by
    obtain ⟨⟨o', h1⟩, h2⟩ := QlF I1 hx eb hbf
    exact old b o' h1 h2, λ p hp => by
    obtain ⟨e, _, ne, nf, _⟩ := I1.pin p hp
    exact old _ _ e λ z => (Zm.mp (I1.Qdl _ z)).elim ne nf⟩⟩
  | ok fl =>
   cases fl with
   | ret u => obtain ⟨v, H', _, _, _, _, _, z⟩ := hq; exact z.elim
   | next => exact False.elim hq
   | brk => exact False.elim hq
   | cont => exact False.elim hq
 ·cases ex
theorem QpV (h : RzE X e fx) (hs : swapsWith e none pos.line X.env = pure false) : Rz X (.Expr e pos) fx := λ H0 A0 => Qfx (h H0 A0) hs
theorem QqF (h : RzE X e fx) : Rz X (.Return (some e) pos) fx := λ H0 A0 => QlX (h H0 A0)
theorem Qrl {i : Nat} (hN : X.N.Nodup) (h1 : X.N[i]? = some x) (h2 : Loc X.env.scope x) (h3 : X.fn x = true ∨ X.env.scope.names.lookup x = some .local) (h : RzE X e fx) (hs : swapsWith e (some (.Name x p)) pos.line X.env = pure false) : Rz X (.Assign [.Name x p] e pos) fx := λ H0 A0 => Qe2 hN h1 h2 (h H0 A0) hs h3
theorem Qss {c : Expr} {a b : List Stmt} (hc : ST X c g) (ha : RzS X a fx) (hb : RzS X b fy) : Rz X (.If c a b pos) (xIf g fx fy) := λ H0 A0 => (Qol (hc H0 A0) (ha H0 A0) (hb H0 A0)).mono λ Dd σ H ⟨ρ, hs, F, x, ρ', rel, e, q⟩ => by
 obtain ⟨c, e1, e⟩ := bind1 e
 refine ⟨ρ, hs, F, c, rel, e1, λ H1 s1 => ?_⟩
 cases c with
 | true => exact QnY ⟨ρ, hs, F, x, ρ', rel.ext s1, e, q⟩
 | false => exact Qm0 ⟨ρ, hs, F, x, ρ', rel.ext s1, e, q⟩
theorem Qsh {t u : TS} (h1 : PS X st t) (h2 : PS X st u) : PS X st (λ Dd σ H => t Dd σ H ∨ u Dd σ H) := λ pins s σ H Dd I q => q.elim (h1 pins s σ H Dd I) (h2 pins s σ H Dd I)
theorem QqI {t u : TS} (h1 : PSs X sts t) (h2 : PSs X sts u) : PSs X sts (λ Dd σ H => t Dd σ H ∨ u Dd σ H) := λ pins s σ H Dd I q => q.elim (h1 pins s σ H Dd I) (h2 pins s σ H Dd I)
theorem Qnv (h1 : S1 X st f) (h2 : Rz X st fx) (h3 : RzS X sts fr) : RzS X (st :: sts) (QA f fx fr) := λ H0 A0 => (Qjv (Qsh (h1 H0 A0) (h2 H0 A0)) (h3 H0 A0)).mono λ Dd σ H ⟨ρ, hs, F, x, ρ', rel, e, q⟩ => by
 unfold QA at e
 split at e
 ·rename_i ρ1 e1
  exact .inl ⟨ρ, hs, F, _, rel, e1, λ σ' H' F' rel' => ⟨ρ1, hs, F', x, ρ', rel', e, q⟩⟩
 ·cases e
 ·exact .inr ⟨ρ, hs, F, x, ρ', rel, e, q⟩
theorem Qqk {tg iter : Expr} {body : List Stmt} {fi : DI} {t : Tg} (hp : PassesOwn (model X.prog X.w) X.A X.env X.xe) (hc : X.calm = true) (hi : SI X tg iter fi) (hg : SG X tg t) (hb : SS X body f) (hbx : RzS X body fx) (hs : ∀ x, foldedSetIterable iter X.env x = pure x) :
  Rz X (.For tg iter body [] pos) (QdU fi t f fx) := λ H0 A0 => (Ql2 hp hc (hi H0 A0) (hg H0 A0) (QqI (hb H0 A0) (hbx H0 A0)) hs).mono λ Dd σ H ⟨ρ, hs, F, c, ρ', rel, e, q⟩ => by
 obtain ⟨ir, e1, e⟩ := bind1 e
 refine ⟨ρ, hs, F, ir, rel, e1, λ J H1 ts s1 wk hts ow hz => ?_⟩
 have rel1 : Rel X.K H0 A0 (ts ++ hs) (QaL ir.M ρ) F σ H1 := ((rel.ext s1).weak (Qa3 ir.M ρ)).hold λ t ht => ⟨(hts t ht).1, Shr.of rel (hts t ht).2⟩
 refine ⟨λ i m σ' H' => m = ir.items.length - i /\ i <= ir.items.length /\ ∃ ρi Fi, Rel X.K H0 A0 (ts ++ hs) ρi Fi σ' H' /\ QcN t f fx (ir.items.drop i) ρi = some (c, ρ'), ⟨_, rfl, ZL _, _, F, rel1, by simpa using e⟩, ?_⟩
 rintro i m σ' H' ⟨rfl, hi', ρi, Fi, reli, ei⟩
 have held : Qht X.K H' ts := λ t ht => (reli.held t (Zd _ ht)).1
 by_cases hlt : i < ir.items.length
 ·rw [ZI hlt] at ei
  unfold QcN at ei
  obtain ⟨ρ1, eb, ei⟩ := bind1 ei
  refine .inr ⟨wk.go i H' hlt held, λ σ2 H2 => ∃ ρ2 F2, Rel X.K H0 A0 (ts ++ hs) ρ2 F2 σ2 H2 /\ QcN t f fx (ir.items.drop (i + 1)) ρ2 = some (c, ρ'), λ σ2 H2 ⟨ρ2, F2, rel2, e2⟩ => ⟨_, by omega, rfl, hlt, ρ2, F2, rel2, e2⟩, λ x H2 hy => ?_⟩
  obtain ⟨s2, G0, rp0, hG0⟩ := wk.yld i ir.items[i] H' x H2 (by simp [hlt]) held hy
  have shr : Shr H0 A0 ρi Fi G0 := λ a ha => by
   obtain ⟨t, ht, hat⟩ := hG0 a ha
   exact ⟨(reli.held t (Zd _ ht)).2 a hat, λ j d ej hj => (reli.own j d ej).2.2.2.2 t (Zd _ ht) a hj hat⟩
  refine ⟨ρi, ts ++ hs, Fi, ir.items[i], G0, ρ1, reli.ext s2, rp0, shr, eb, λ σ3 F3 rel3 _ _ => ?_⟩
  split at ei
  ·rename_i ρ2 eo
   exact .inl ⟨ρ1, ts ++ hs, F3, _, rel3, eo, λ σ4 H4 F4 rel4 => ⟨ρ2, F4, rel4, ei⟩⟩
  ·rename_i ρ2 eo
   exact .inl ⟨ρ1, ts ++ hs, F3, _, rel3, eo, λ σ4 H4 F4 rel4 => ⟨ρ2, F4, rel4, ei⟩⟩
  ·cases ei
  ·exact .inr ⟨ρ1, ts ++ hs, F3, c, ρ', rel3, ei, λ C ea s' hC T => q C ea s' hC T.hold⟩
 ·have hn : i = ir.items.length := by omega
  subst hn
  rw [Zbc] at ei
  cases ei
end
noncomputable abbrev QsN : List Value := [.type "ValueError", .type "Exception", .type "BaseException", .type "object"]
structure Qfk (K : PySem.W.Frag) (x : Str) : Prop where
 ex : ∃ C, ClsAt K x C /\ PySem.W.excIn K C QsN "ValueError.__new__" = true
theorem QmH {K : PySem.W.Frag} {C : Addr} {bmB : List Value} {newId : String} (q : PySem.W.excIn K C bmB newId = true) {h : Heap} (X : K.In h) : ∃ bm N nm qn bs hdct sn sub ab col dd k0 k1 k2 k3 k5 mN,
  h.get? C = some (excClassObj nm qn C N bs bm hdct sn sub ab col dd k0 k1 k2 k3 k5 newId) /\ h.Ns N mN /\ mN "__init__" = none /\ OwnTail h bmB bm := by
 rw [PySem.W.excIn.eq_def] at q
 split at q
 case h_2 => cases q
 rename_i dd cd sl ho
 split at q
 case h_2 => cases q
 rename_i C1 bm k0 k1 k2 k3 nid k5 em es
 simp only [Zf, beq_iff_eq, Zar] at q
 obtain ⟨⟨⟨⟨⟨z1, z2⟩, nodel⟩, tl⟩, okN⟩, noInit⟩ := q
 subst z1 z2
 have hget := X _ _ ho
 have hsl : sl = #[k0, k1, k2, k3, some (.builtin nid), k5] := Array.ext' es
 rw [hsl] at hget
 refine ⟨bm, cd.ns, cd.name, cd.qualname, cd.bases, cd.hasDict, cd.slotNames, cd.subclasses, cd.abstract, cd.collection, dd, k0, k1, k2, k3, k5, _, ?_, .of_isNs (PySem.W.isNs_of_in X okN), PySem.W.nsMap_none_of_in X okN noInit, PySem.W.tail_of_in X tl⟩
 rw [hget]
 cases cd with
 | mk c1 c2 c3 c4 c5 c6 c7 c8 c9 c10 c11 =>
  dsimp only at em nodel
  rw [em, nodel]
section
variable {X : Cx} {e : Expr} {fs : DA} {x : Str} {np cpos pos : Pos}
theorem Qne (hc : X.calm = true) (hg : Gl X x) (hk : Qfk X.K x) (hdb : (x == ("__debug__" : Str)) = false) (ha : SA X [e] fs) (he : starEach [e] X.env = (false, eval e X.env) :: starEach [] X.env) :
  Rz X (.Raise (some (.Call (.Name x np) [e] [] cpos)) none pos) (QcY x fs) := λ H0 A0 pins s σ H Dd I ⟨ρ, hs, F, c, ρ', rel, ex, q⟩ => by
 obtain ⟨ra, e1, e2⟩ := bind1 ex
 split at e2
 case isFalse => cases e2
 rename_i hl
 cases e2
 obtain ⟨C, hC, hq⟩ := hk.ex
 obtain ⟨bm, N, nm, qn, bs, hdct, sn, sub, ab, col, dd, k0, k1, k2, k3, k5, mN, o1, o2, o3, o4⟩ := QmH hq I.ok.mod.kin
 have hm : X.mg x = some (.ref C) := Zaw I.ok.mod.kin I.ok.mod.glob hC
 refine wpAny_Raise_call_subT (C := C) (nm := nm) (q := qn) (N := N) (bs := bs) (bm := bm) (hdct := hdct) (sn := sn) (sub := sub) (ab := ab) (col := col) (dd := dd) (k0 := k0) (k1 := k1) (k2 := k2) (k3 := k3) (k5 := k5)
  PySem.F.excBase_ValueError (mN := mN) (o4.hasType PySem.F.excBase_ValueError.hasBase) (I.ok.hd hc) (by rw [he]; rfl) o3 (QcB I hg hm ⟨rfl, ?_⟩ hdb)
 have hargs := ha H0 A0 cpos pins s σ H (λ vs H1 => ∃ G, QkC X.K ρ F H H1 ra vs G) I ⟨ρ, hs, F, ra, rel, e1, λ vs H1 G p1 => ⟨G, p1⟩⟩
 rw [he] at hargs ⊢
 refine Calls.evalArgs_plain (thn hargs λ us s2 ⟨vs, H1, I1, rv, G, p1⟩ => ⟨rfl, ?_, I1.bk _ _ o1, o2.keeps I1.bk, o4.keeps I1.bk, λ h' ea hm => ?_⟩)
 ·show us.length <= sizeLine
  rw [← rv.length, ← p1.rp.length]
  exact Zv hl (by decide)
 ·exact q C ea _ hC ⟨pins, σ, H1, F, rel.ext p1.same, .inl ⟨s2, us, I1, hm, rfl, rfl⟩⟩
end
end HS
namespace HS
open PySem PySem.Spec L2 PyProof.Rows
structure ThX where
 Γx : List (Str × (Nat × (List D -> Option Str)))
 cls : List Str
structure XOk (X : Cx) (ΘX : ThX) : Prop where
 ex : X.ex = []
 stk : X.stack = X.env :: X.outer
 fr : X.env.frame = some X.env.locals
 fx : ∀ x r, look x ΘX.Γx = some r -> ∃ k f fd ps, Qbe X.prog X.w X.K X.mg X.base (CXR X.prog X.w) k f fd ps (spX X.K r.1 r.2) /\ QW k X.A /\ X.mg x = some (.ref f) /\ PySem.W.keepIn X.K (.ref f) = true /\ Binds X.K fd ps [] /\ ps.length = r.1
 cl : ∀ x ∈ ΘX.cls, Qfk X.K x
noncomputable def xcE (n : Nat) (Θ : Th) (ΘX : ThX) (e : Expr) : DX := match e with
 | .Call (.Name x _) (a :: as) [] _ => if Θ.gl x then (match look x ΘX.Γx with
  | some r => (match QaD n Θ (a :: as) with | some fs => QX r.1 r.2 fs | none => xNo)
  | none => xNo) else xNo
 | _ => xNo
mutual
noncomputable def Qgi (n : Nat) (Θ : Th) (ΘX : ThX) (st : Stmt) : Option DX := match n with
 | 0 => none
 | n + 1 => match st with
  | .Raise (some (.Call (.Name x _) [a] [] _)) none _ => if Θ.gl x && ΘX.cls.contains x then (QaD n Θ [a]).map λ fs => QcY x fs else none
  | .Expr e _ => some (xcE n Θ ΘX e)
  | .Return (some e) _ => some (xcE n Θ ΘX e)
  | .Assign [.Name x _] e _ => (Θ.Qcb x).map λ _ => xcE n Θ ΘX e
  | .If c a b _ => (QaC n Θ c).bind λ g => (Qb4 n Θ ΘX a).bind λ fa => (Qb4 n Θ ΘX b).map λ fb => xIf g fa fb
  | .For tg iter body [] _ => (Qdu Θ tg).bind λ t => (Qdg n Θ tg iter).bind λ fi => (Qaw n Θ body).bind λ fb => (Qb4 n Θ ΘX body).map λ fx => QdU fi t fb fx
  | _ => some xNo
noncomputable def Qb4 (n : Nat) (Θ : Th) (ΘX : ThX) (sts : List Stmt) : Option DX := match n with
 | 0 => none
 | n + 1 => match sts with
  | [] => some xNo
  | st :: r => (QgJ n Θ st).bind λ f => (Qgi n Θ ΘX st).bind λ fx => (Qb4 n Θ ΘX r).map λ fr => QA f fx fr
end
section
variable {X : Cx} {Θ : Th} {ΘX : ThX}
theorem Qgm {e : Expr} : RzE X e xNo := λ H0 A0 pins s σ H Q I ⟨ρ, hs, F, x, ρ', rel, e, q⟩ => by cases e
theorem Qjl {n : Nat} (ok : QF X Θ) (xk : XOk X ΘX) (e : Expr) : RzE X e (xcE n Θ ΘX e) /\ (xcE n Θ ΘX e ≠ xNo -> ∃ x p a as pos, e = .Call (.Name x p) (a :: as) [] pos) := by
 unfold xcE
 split
 ·rename_i x p a as pos
  refine ⟨?_, λ _ => ⟨x, p, a, as, pos, rfl⟩⟩
  split
  ·rename_i hg
   obtain ⟨g1, g2, g3⟩ := Qbh ok.toCtxB hg
   split
   ·rename_i r hr
    split
    ·rename_i fs hfs
     obtain ⟨k, f, fd, ps, F1, F2, F3, F4, F5, F6⟩ := xk.fx x r hr
     obtain ⟨s1, s2⟩ := callArgs (X := X) hfs rfl pos
     exact QpD F1 F2 g1 F3 F4 F5 xk.ex F6 ((Qbc n).A X Θ _ fs ok hfs) g2 s1 s2
    ·exact Qgm
   ·exact Qgm
  ·exact Qgm
 ·exact ⟨Qgm, λ h => absurd rfl h⟩
structure Qrr (n : Nat) : Prop where
 X : ∀ X Θ ΘX st f, QF X Θ -> XOk X ΘX -> Qgi n Θ ΘX st = some f -> Rz X st f
 Xs : ∀ X Θ ΘX sts f, QF X Θ -> XOk X ΘX -> Qb4 n Θ ΘX sts = some f -> RzS X sts f
theorem Qrh {n : Nat} (ih : Qrr n) : ∀ X Θ ΘX st f, QF X Θ -> XOk X ΘX -> Qgi (n + 1) Θ ΘX st = some f -> Rz X st f := by
 intro X Θ ΘX st f ok xk h
 have hN : X.N.Nodup := by rw [ok.N]; exact ok.nd
 rw [Qgi.eq_def] at h
 dsimp only at h
 split at h
 ·rename_i x np a cpos pos
  split at h
  ·rename_i hc
   simp only [Zf] at hc
   obtain ⟨fs, h1, rfl⟩ := Zb.mp h
   obtain ⟨g1, g2, g3⟩ := Qbh ok.toCtxB hc.1
   obtain ⟨s1, s2⟩ := callArgs (X := X) h1 rfl pos
   exact Qne ok.calm g1 (xk.cl x (by simpa using hc.2)) g2 ((Qbc n).A X Θ _ fs ok h1) s1
  ·cases h
 ·rename_i e pos
  cases h
  obtain ⟨h1, h2⟩ := Qjl (n := n) ok xk e
  by_cases hz : xcE n Θ ΘX e = xNo
  ·rw [hz]; exact QkS
  ·obtain ⟨x, p, a, as, pos', rfl⟩ := h2 hz
   exact QpV h1 rfl
 ·rename_i e pos
  cases h
  exact QqF (Qjl (n := n) ok xk e).1
 ·rename_i x p e pos
  obtain ⟨i, hi, rfl⟩ := Zb.mp h
  obtain ⟨g1, g2, g3⟩ := Qcc ok.toCtxB hi
  obtain ⟨h1, h2⟩ := Qjl (n := n) ok xk e
  by_cases hz : xcE n Θ ΘX e = xNo
  ·rw [hz]; exact QkS
  ·obtain ⟨x, p, a, as, pos', rfl⟩ := h2 hz
   exact Qrl hN g1 g2 g3 h1 (QcV rfl)
 ·rename_i c a b pos
  obtain ⟨g, h1, h⟩ := bind1 h
  obtain ⟨fa, fb, h2, h3, rfl⟩ := Qz h
  exact Qss ((Qbc n).T X Θ c g ok h1) (ih.Xs X Θ ΘX a fa ok xk h2) (ih.Xs X Θ ΘX b fb ok xk h3)
 ·rename_i tg iter body pos
  obtain ⟨t, h1, h⟩ := bind1 h
  obtain ⟨fi, h2, h⟩ := bind1 h
  obtain ⟨fb, fx, h3, h4, rfl⟩ := Qz h
  obtain ⟨i1, i2⟩ := (Qbc n).I X Θ tg iter fi ok h2
  exact Qqk ok.pass ok.calm i1 (Qgq ok h1) ((QfG n).Ss X Θ body fb ok h3) (ih.Xs X Θ ΘX body fx ok xk h4) i2
 ·cases h
  exact QkS
theorem Qky : ∀ n, Qrr n
 | 0 => ⟨λ _ _ _ _ _ _ _ h => (by rw [Qgi.eq_def] at h; cases h), λ _ _ _ _ _ _ _ h => (by rw [Qb4.eq_def] at h; cases h)⟩
 | n + 1 => by
  have ih := Qky n
  refine ⟨Qrh ih, λ X Θ ΘX sts f ok xk h => ?_⟩
  rw [Qb4.eq_def] at h
  dsimp only at h
  split at h
  ·cases h; exact Qpw
  ·rename_i st r
   obtain ⟨fs, h1, h⟩ := bind1 h
   obtain ⟨fx, fr, h2, h3, rfl⟩ := Qz h
   exact Qnv ((QfG n).S X Θ st fs ok h1) (ih.X X Θ ΘX st fx ok xk h2) (ih.Xs X Θ ΘX r fr ok xk h3)
end
noncomputable def Qax (k : Nat) (f : DX) : List D -> Option Str := λ ds => (f (Qam k ds)).map (·.1)
section
variable (P : Program) (w : World) (K : PySem.W.Frag) (mg : Str -> Option Value) (base : Heap)
def Qd6 (k : Nat) (x : Str) (r : Nat × (List D -> Option Str)) : Prop := ∃ f fd ps, Qbe P w K mg base (CXR P w) k f fd ps (spX K r.1 r.2) /\ mg x = some (.ref f) /\ PySem.W.keepIn K (.ref f) = true /\ Binds K fd ps [] /\ ps.length = r.1
def Qc8 (k : Nat) (Γx : List (Str × (Nat × (List D -> Option Str)))) : Prop := ∀ x r, look x Γx = some r -> Qd6 P w K mg base k x r
end
section
variable {P : Program} {w : World} {K : PySem.W.Frag} {mg : Str -> Option Value} {base : Heap}
theorem Qc8.nil {k : Nat} : Qc8 P w K mg base k [] := λ x r h => by cases h
theorem Qd6.mono {j k : Nat} {x : Str} {r : Nat × (List D -> Option Str)} (h : Qd6 P w K mg base j x r) (hk : j <= k) : Qd6 P w K mg base k x r := by
 obtain ⟨f, fd, ps, h1, h2⟩ := h
 exact ⟨f, fd, ps, h1.mono hk, h2⟩
theorem Qc8.mono {j k : Nat} {Γ : List (Str × (Nat × (List D -> Option Str)))} (t : Qc8 P w K mg base j Γ) (hk : j <= k) : Qc8 P w K mg base k Γ := λ x r e => (t x r e).mono hk
theorem Qc8.cons {k : Nat} {Γ : List (Str × (Nat × (List D -> Option Str)))} {x : Str} {r : Nat × (List D -> Option Str)} (t : Qc8 P w K mg base k Γ) (h : Qd6 P w K mg base (k + 1) x r) : Qc8 P w K mg base (k + 1) ((x, r) :: Γ) := λ y q e => by
 unfold look at e
 split at e
 ·rename_i z; cases e; subst z; exact h
 ·exact (t y q e).mono (Zu _)
theorem QaZ.up {j k : Nat} {Γ : List (Str × FnR)} (t : QaZ P w K mg base j Γ) (hk : j <= k) : QaZ P w K mg base k Γ := λ x r e => (t x r e).mono hk
theorem Qd0 {h : Heap} {x : Str} {st : Stmt} {ps : List Str} {k n : Nat} {Γ : List (Str × FnR)} {Γx : List (Str × (Nat × (List D -> Option Str)))} {cls : List Str} {cs : List (Str × Int)} {g : DX} (X : K.In h) (G : h.Ns mainGlobals mg) (F : Fact K x st) (S : QaJ (namesOf (Qd st)) ps (Qd st)) (B : QC x st ps) (M : QcP mg cs) (tab : QaZ P w K mg base k Γ) (tabx : Qc8 P w K mg base k Γx)
  (hcl : ∀ x ∈ cls, Qfk K x) (hc : Qb4 n (Qcm st Γ cs) ⟨Γx, cls⟩ (QY st) = some g) : Qd6 P w K mg base (k + 1) x (ps.length, Qax (namesOf (Qd st)).length g) := by
 obtain ⟨f, fd, Fn, a⟩ := F.ex
 refine ⟨f, fd, ps, ?_, Zaw X G a, Fn.kp, Fn.binds (B ·), rfl⟩
 obtain ⟨oc, od, kV, doc, pm, an, cdv, ct, osl, rfl, lk, hcd⟩ := Fn.ex
 refine Qoj lk hcd S (QpZ rfl) λ A outer s H vs Q E hr hsp => ?_
 obtain ⟨ds, L, y, rps, hl, hd, hE⟩ := hsp
 have ok : QF (Qb1 (CXR P w) P w K mg base (namesOf (Qd st)) x (Qd st) f cdv A outer s H E) (Qcm st Γ cs) := Qkh (CX := CXR P w) (E := E) S M tab hr PassesOwn.leaving
 have xk : XOk (Qb1 (CXR P w) P w K mg base (namesOf (Qd st)) x (Qd st) f cdv A outer s H E) ⟨Γx, cls⟩ := ⟨rfl, rfl, rfl, λ z r e => by
  obtain ⟨f', fd', ps', h1, h2, h3, h4, h5⟩ := tabx z r e
  exact ⟨k, f', fd', ps', h1, hr, h2, h3, h4, h5⟩, hcl⟩
 refine ⟨_, (Qky n).Xs _ _ _ _ g ok xk hc H L, ?_⟩
 obtain ⟨F0, rel⟩ := QdI (N := namesOf (Qd st)) rps
 obtain ⟨⟨y', ρ'⟩, e1, e2⟩ := Zb.mp hd
 cases e2
 exact ⟨_, [], F0, y', ρ', rel, e1, λ C ea s' hC T => Qjn rfl rfl rfl rfl rfl rfl rfl T λ H' sm => hE C H' hC sm⟩
end
end HS
namespace HS
open PySem PySem.Spec L2 PyProof.Rows
section
variable {X : Cx} {pins : List (Addr × Obj)} {σ : L2.St} {H : Hp} {s s' : Shared} {B : Heap}
theorem QhP {h h' : Heap} {c : Addr} {v : Option Value} (up : h.UpToSlots h') (z : h.IsCell c v) : h'.IsCell c v := by
 obtain ⟨o, e, d⟩ := z
 obtain ⟨sl, e'⟩ := up c o e λ vs q => by rw [d] at q; cases q
 exact ⟨_, e', d⟩
theorem QgF (I : Inv X pins σ H s) (ho : s'.os = s.os) (hg : AllBare s'.gens) (hx : X.ex = []) (b1 : B.StaysIn s.heap) (b2 : B.StaysIn s'.heap) (up : s.heap.UpToSlots s'.heap) (cov : Cov H B)
  (old : ∀ b o, X.s₀.heap.get? b = some o -> b ∉ X.fs -> ∃ o', B.get? b = some o') (pb : ∀ p ∈ X.pn ++ pins, ∃ o, B.get? p.1 = some o) : Inv X pins σ H s' where
 ok := I.ok
 os := ho.trans I.os
 bare := hg
 base := by
  have hb := I.base
  rw [hx] at hb ⊢
  exact Qjk hb b1 b2 up old (λ b o e hb => Qgu I.ok e hb) I.ok.frf
 loc := by
  obtain ⟨m, hn, hl⟩ := I.loc
  refine ⟨m, up.ns hn, λ i x v e1 e2 e3 => ?_⟩
  obtain ⟨u, r, q⟩ := hl i x v e1 e2 e3
  refine ⟨u, r, ?_⟩
  rcases q with q | ⟨k, c, e, z⟩
  ·exact .inl q
  ·exact .inr ⟨k, c, e, QhP up z⟩
 cell := λ x c e => by
  obtain ⟨v, z⟩ := I.cell x c e
  exact ⟨v, QhP up z⟩
 free := I.free
 freeC := I.freeC
 pin := λ p hp => by
  obtain ⟨e, n, ne, nf, d⟩ := I.pin p hp
  obtain ⟨o, eo⟩ := pb p hp
  have := b1 _ _ eo
  rw [e] at this
  cases this
  exact ⟨b2 _ _ eo, n, ne, nf, d⟩
 hok := Qhs I.hok b1 b2 cov
 len := I.len
theorem Qo0 {ea C : Addr} {a0 : Value} (I : Inv X pins σ H s) (hx : X.ex = []) (fl : Heap.FlyingW B X.stack ea (.ref C) a0 s.heap) (cov : Cov H B) (old : ∀ b o, X.s₀.heap.get? b = some o -> b ∉ X.fs -> ∃ o', B.get? b = some o')
  (pb : ∀ p ∈ X.pn ++ pins, ∃ o, B.get? p.1 = some o) : H ea = none /\ Inv X pins σ (upd H ea (.ext (Qcd ea C))) s := by
 obtain ⟨oe, vs, he, hc, hd, _⟩ := fl.first
 have ne : ∀ {b o}, B.get? b = some o -> b ≠ ea := λ {b o} e z => by rw [z, fl.2.1] at e; cases e
 have hn : H ea = none := by
  cases q : H ea with
  | none => rfl
  | some u => obtain ⟨o, e⟩ := cov ea u q; exact absurd rfl (ne e)
 have nd : ∀ {b o}, s.heap.get? b = some o -> (∀ vs, o.data ≠ .fields vs) -> b ≠ ea := λ {b o} e h z => by
  rw [z, he] at e
  cases e
  exact h vs hd
 have tr : ∀ b u, H b = some u -> upd H ea (.ext (Qcd ea C)) b = some u := λ b u e => by
  obtain ⟨o, eo⟩ := cov b u e
  rw [Qr (ne eo)]; exact e
 refine ⟨hn, I.ok, I.os, I.bare, ⟨I.base.keep, I.base.slot, λ b o e n hxx => ?_, I.base.there, λ b xs q => tr _ _ (I.base.tups b xs q), λ b o u q => tr _ _ (I.base.frzs b o u q), λ b ps q => ?_⟩, I.loc, I.cell, ?_, λ x c e => ?_, λ p hp => ?_, λ b u e => ?_, I.len⟩
 ·rw [Qr]
  ·exact I.base.free b o e n hxx
  ·by_cases hb : b ∈ X.fs
   ·obtain ⟨sl, e1⟩ := I.base.slot b o e n hb hxx
    exact nd e1 λ vs q => Qgu I.ok e hb vs q
   ·obtain ⟨o', e1⟩ := old b o e hb
    exact ne e1
 ·obtain ⟨more, q⟩ := I.base.tbls b ps q
  exact ⟨more, tr _ _ q⟩
 ·rw [Qr]
  ·exact I.free
  ·obtain ⟨m, ⟨o, es, ep, e, d, _⟩, _⟩ := I.loc
   exact nd e λ vs q => by rw [d] at q; cases q
 ·rw [Qr]
  ·exact I.freeC x c e
  ·obtain ⟨v, o, eo, d⟩ := I.cell x c e
   exact nd eo λ vs q => by rw [d] at q; cases q
 ·obtain ⟨e, n, ne', nf, d⟩ := I.pin p hp
  obtain ⟨o, eo⟩ := pb p hp
  exact ⟨e, by rw [Qr (ne eo)]; exact n, ne', nf, d⟩
 ·by_cases hb : b = ea
  ·subst hb
   rw [Q4] at e
   cases e
   refine ⟨⟨oe, vs, he, hc, hd⟩, ⟨oe, he⟩, λ h1 h2 ⟨o, w, e1, e2, e3⟩ k => ⟨o, w, k _ e1, e2, e3⟩⟩
  ·rw [Qr hb] at e
   exact (I.hok b u e).QdS (λ c v _ q => q) (λ c q => tr _ _ q) λ c xs q => tr _ _ q
theorem QgY {M : Model} {A : Around} {E : Value -> Shared -> Prop} {i : Nat} {x : Str} {pos : Pos} {Q : Unit -> Shared -> Prop} (I : Inv X pins σ H s) (hN : X.N.Nodup) (hi : X.N[i]? = some x) (hx : X.env.scope.names.lookup x = some .local)
  (h : ∀ s', Inv X pins (σ.set i none) H s' -> Q () s') : wpAny M A (do bindName X.env x .none; unbindBehindTheSuite X.env x pos) Q E s := by
 refine wpAny_bind (wpAny_bindName (Qeq (v := .non) I hN hi (.inl hx) rfl (λ s1 I1 => ?_) (.inr hx)))
 have hcls : (X.env.scope.kind == .class || (X.env.scope.kind == .module && X.env.locals != X.env.globals)) = false := by rw [I.ok.kind]; rfl
 have hiσ : i < σ.length := by rw [I.len]; exact (Zi.mp hi).1
 obtain ⟨m, hn, hl⟩ := id I1.loc
 obtain ⟨u, _, q⟩ := hl i x .non hi (Zr hiσ) (.inl hx)
 have hm : m x = some u := by
  rcases q with ⟨_, e⟩ | ⟨k, _⟩
  ·exact e
  ·have hx' : X.env.kindOf x = some .local := hx
   rcases k with k | k <;> rw [hx'] at k <;> cases k
 unfold unbindBehindTheSuite
 refine wpAny_onRaise (wpAny_unbindName_local hx hn hm hcls λ h' u' hn' hs => h _ ?_)
 have cne := I1.cne
 obtain ⟨oL, _, _, hoL, _⟩ := id hn
 refine ⟨I1.ok, I1.os, I1.bare, ⟨λ b o e n hb hx => ?_, λ b o e n hb hx => ?_, I1.base.free, λ b o e hx => ?_, I1.base.tups, I1.base.frzs, I1.base.tbls⟩, ⟨_, hn', λ j y v' e1 e2 e3 => ?_⟩, λ y c e => ?_, I1.free, I1.freeC, λ p hp => ?_, λ b ob e => ?_, by simpa using I1.len⟩
 ·exact (hs.2 b (ZA (Zo (Zk e) I.ok.above))).trans (I1.base.keep b o e n hb hx)
 ·obtain ⟨sl, e1⟩ := I1.base.slot b o e n hb hx
  exact ⟨sl, (hs.2 b (ZA (Zo (Zk e) I.ok.above))).trans e1⟩
 ·obtain ⟨o', e1⟩ := I1.base.there b o e hx
  exact ⟨o', (hs.2 b (ZA (Zo (Zk e) I.ok.above))).trans e1⟩
 ·by_cases hj : j = i
  ·subst hj
   rw [Zr hiσ] at e2
   cases e2
  ·rw [Zg (Ne.symm hj)] at e2
   have e2' : (σ.set i (some V.non))[j]? = some (some v') := by rw [Zg (Ne.symm hj)]; exact e2
   obtain ⟨u1, r1, q1⟩ := hl j y v' e1 e2' e3
   refine ⟨u1, r1, ?_⟩
   rcases q1 with ⟨k, e⟩ | ⟨k, c, e, z⟩
   ·refine .inl ⟨k, ?_⟩
    have : y ≠ x := λ e => hj (Qf1 hN e1 (e ▸ hi))
    simp [this, e]
   ·exact .inr ⟨k, c, e, z.sameBut hs (cne y c e)⟩
 ·obtain ⟨w', z⟩ := I1.cell y c e
  exact ⟨w', z.sameBut hs (cne y c e)⟩
 ·obtain ⟨e, n, ne, nf, d⟩ := I1.pin p hp
  exact ⟨(hs.2 p.1 ne).trans e, n, ne, nf, d⟩
 ·refine (I1.hok b ob e).QdS (λ c w' hc q => (hs.2 c ?_).trans q) (λ _ q => q) λ _ _ q => q
  rintro rfl
  have hfree := I1.free
  rcases hc with rfl | hc
  ·rw [hfree] at e; cases e
  ·rw [hfree] at hc; cases hc
end
end HS
namespace HS
open PySem PySem.Spec L2 PyProof.Rows
noncomputable abbrev inH (X : Cx) (ea : Addr) : Cx := { X with A := X.A.mark (some (.ref ea)), calm := false, xe := λ _ _ => False }
def Fly (X : Cx) (pins : List (Addr × Obj)) (H : Hp) (ea C : Addr) (s : Shared) : Prop := ∃ B a0, Heap.FlyingW B X.stack ea (.ref C) a0 s.heap /\ Cov H B /\ (∀ b o, X.s₀.heap.get? b = some o -> b ∉ X.fs -> ∃ o', B.get? b = some o') /\ ∀ p ∈ X.pn ++ pins, ∃ o, B.get? p.1 = some o
section
variable {X : Cx} {pins : List (Addr × Obj)} {σ : L2.St} {H : Hp} {s s' : Shared} {B : Heap} {ea C : Addr}
theorem _root_.L2.Inv.inH (I : Inv X pins σ H s) : Inv (HS.inH X ea) pins σ H s :=
 ⟨⟨I.ok.mod, I.ok.kind, I.ok.glob, I.ok.blt, I.ok.above, I.ok.inj, I.ok.has, I.ok.cab, λ z => (by cases z), I.ok.frames, I.ok.stk, I.ok.exf, I.ok.bs, I.ok.bsz, I.ok.noex, I.ok.exfs, I.ok.Qb2, I.ok.frf⟩, I.os, I.bare, I.base, I.loc, I.cell, I.free, I.freeC, I.pin, I.hok, I.len⟩
theorem _root_.L2.Inv.QdT (ok : X.Ok) (I : Inv (HS.inH X ea) pins σ H s) : Inv X pins σ H s := ⟨ok, I.os, I.bare, I.base, I.loc, I.cell, I.free, I.freeC, I.pin, I.hok, I.len⟩
theorem QjM {E : Value -> Shared -> Prop} {Qk : Shared -> Prop} {H0 : Hp} {A0 : List Addr} {hs : List (V × D × List Addr)} {ρ : En} (T : Qed X H0 A0 hs ρ (.ref C) ea s') (hx : X.ex = []) (hst : X.stack = X.env :: X.outer) (hf : X.env.frame = some X.env.locals)
  (k : ∀ pins σ H F s'', Rel X.K H0 A0 hs ρ F σ H -> Inv X pins σ H s'' -> Fly X pins H ea C s'' -> Qk s'') :
  wpAny (model X.prog X.w) X.A (noteFrame (.ref ea) X.env) (λ _ s₂ => wpAny (model X.prog X.w) X.A (setFlight (.ref ea) none) (λ _ s₃ => Qk s₃) E s₂) E s' := by
 obtain ⟨pins, σ, H, F, rel, ⟨sg, args, I, hm, ho, hg⟩ | ⟨B, a0, I, fl, cov, old, pb⟩⟩ := T
 ·obtain ⟨B, b1, b2, cov, old, pb⟩ := QiQ I hx
  have hfr := I.ok.frames
  rw [hst] at hfr b2
  obtain ⟨t, he, htn, ht⟩ := hm.there
  have fresh : B.get? ea = none := by
   cases q : B.get? ea with
   | none => rfl
   | some o => have := b1 _ _ q; rw [hm.new] at this; cases this
  have note : ∀ Q : Unit -> Shared -> Prop, (∀ h', Heap.NotedW B (X.env :: X.outer) ea (.ref C) (.ref t) (rawInt X.env.locals) s'.heap h' -> Q () { s' with heap := h' }) -> wpAny (model X.prog X.w) X.A (noteFrame (.ref ea) X.env) Q E s' := λ Q hq => by
   unfold noteFrame
   simp only [hf]
   refine wpAny_bind (wpAny_field (x := .none) he rfl rfl ?_)
   rw [if_neg (by decide)]
   exact wpAny_entryW (a0 := .ref t) hfr (b2.of_keeps λ b o hb _ => ⟨o, hm.keeps b o hb, rfl⟩) hf he (λ b o hb => hm.keeps b o (b1 b o hb)) fresh rfl (by show 1 < 6; decide) rfl hq
  refine note _ λ h1 ⟨n1, n2, n3, n4⟩ => ?_
  refine wpAny_landsW (s := { s' with heap := h1 }) (L := X.env.locals) ⟨n1, fresh, n2, n3⟩ λ h2 fl up => ?_
  have up' : sg.heap.UpToSlots h2 := ((Heap.UpToSlots.of_keeps hm.keeps).trans n4).trans up
  refine k pins σ H F _ rel (QgF I ho (by show AllBare s'.gens; rw [hg]; exact I.bare) hx b1 fl.1 up' cov old pb) ⟨B, _, by rw [hst]; exact fl, cov, old, pb⟩
 ·have hfr := I.ok.frames
  rw [hst] at hfr fl
  refine wpAny_looks_onW hfr hf fl λ h1 hd up1 => ?_
  refine wpAny_landsW (s := { s' with heap := h1 }) hd λ h2 fl2 up2 => ?_
  exact k pins σ H F _ rel (QgF I rfl I.bare hx fl.1 fl2.1 (up1.trans up2) cov old pb) ⟨B, a0, by rw [hst]; exact fl2, cov, old, pb⟩
def QkA (K : PySem.W.Frag) (sub : Str -> Str -> Option Bool) : Prop := ∀ x y b, sub x y = some b -> ∃ C c, ClsAt K x C /\ PySem.W.KtsName K y c /\ PySem.W.exmOne K (.ref C) c = some b
theorem Qmz {E : Value -> Shared -> Prop} {y : Str} {c : Value} {np : Pos} {Q : Value -> Shared -> Prop} (I : Inv X pins σ H s) (hg : Gl X y) (hdb : (y == ("__debug__" : Str)) = false) (k : PySem.W.KtsName X.K y c) (h : Q c s) : wpAny (model X.prog X.w) X.A (eval (.Name y np) X.env) Q E s := by
 rcases k with k | ⟨k1, k2, k3⟩
 ·exact QcB I hg (Zaw I.ok.mod.kin I.ok.mod.glob k) h hdb
 ·exact Qb5 I hg (PySem.W.mg_none_of I.ok.mod.kin I.ok.mod.glob k1) k2 h k3 hdb
theorem Qch {K : PySem.W.Frag} {x : Str} {C C' : Addr} (a : ClsAt K x C) (b : ClsAt K x C') : C = C' := by
 unfold ClsAt at a b
 rw [a] at b
 exact Value.ref.inj (Option.some.inj (Option.some.inj b))
theorem Rel.Qhz {K : PySem.W.Frag} {H0 : Hp} {A0 : List Addr} {hs : List (V × D × List Addr)} {ρ : En} {F : Nat -> List Addr} {i : Nat} (r : Rel K H0 A0 hs ρ F σ H) : Rel K H0 A0 hs (ρ.set i none) F (σ.set i none) H := by
 have w := r.weak (QhZ (ρ := ρ) i)
 refine ⟨by simpa using r.len, λ j d b e => ?_, w.own, w.src, w.held, w.same⟩
 obtain ⟨v, h1, h2⟩ := w.val j d b e
 refine ⟨v, ?_, h2⟩
 by_cases hj : i = j
 ·subst hj
  exfalso
  by_cases hl : i < ρ.length
  ·rw [Zr hl] at e; cases e
  ·rw [Zz (by simp; omega)] at e; cases e
 ·rw [Zg hj]; exact h1
noncomputable def Qqr (i : Nat) : Out -> Out
 | .nx ρ => .nx (ρ.set i none)
 | .bk ρ => .bk (ρ.set i none)
 | .ct ρ => .ct (ρ.set i none)
 | .rt d fr => .rt d fr
noncomputable abbrev Hd := Str × Option Nat × DS
noncomputable def Qjs (sub : Str -> Str -> Option Bool) (x : Str) (ρ : En) : List Hd -> Option Out
 | [] => none
 | h :: r => (sub x h.1).bind λ b => if b = true then (match h.2.1 with
  | none => h.2.2 ρ
  | some i => (h.2.2 (ρ.set i (some (.exc x, true)))).map (Qqr i)) else Qjs sub x ρ r
noncomputable def QdD (f : DS) (fx : DX) (sub : Str -> Str -> Option Bool) (hl : List Hd) : DS := λ ρ => match f ρ with
 | some o => some o
 | none => (fx ρ).bind λ q => Qjs sub q.1 q.2 hl
inductive Qff (X : Cx) : List ExceptHandler -> List Hd -> Prop
 | nil : Qff X [] []
 | bare {y : Str} {np pos : Pos} {b₀ : Stmt} {suite : List Stmt} {r : List ExceptHandler} {hr : List Hd} {f : DS} (hg : Gl X y) (hdb : (y == ("__debug__" : Str)) = false) (hS : ∀ ea, SS (inH X ea) (b₀ :: suite) f) (t : Qff X r hr) :
   Qff X (.ExceptHandler (some (.Name y np)) none (b₀ :: suite) pos :: r) ((y, none, f) :: hr)
 | as {y n : Str} {np pos : Pos} {b₀ : Stmt} {suite : List Stmt} {r : List ExceptHandler} {hr : List Hd} {f : DS} {i : Nat} (hg : Gl X y) (hdb : (y == ("__debug__" : Str)) = false) (hi : X.N[i]? = some n) (hl : X.env.scope.names.lookup n = some .local) (hS : ∀ ea, SS (inH X ea) (b₀ :: suite) f) (t : Qff X r hr) :
   Qff X (.ExceptHandler (some (.Name y np)) (some n) (b₀ :: suite) pos :: r) ((y, some i, f) :: hr)
theorem _root_.L2.SP.QdT {Dd : Ends} {f : Flow} (ok : X.Ok) (h : SP (HS.inH X ea) pins Dd f s) : SP X pins Dd f s := by
 cases f with
 | next => obtain ⟨σ', H', I, q⟩ := h; exact ⟨σ', H', I.QdT ok, q⟩
 | brk => obtain ⟨σ', H', I, q⟩ := h; exact ⟨σ', H', I.QdT ok, q⟩
 | cont => obtain ⟨σ', H', I, q⟩ := h; exact ⟨σ', H', I.QdT ok, q⟩
 | ret u => obtain ⟨v, σ', H', I, r, q⟩ := h; exact ⟨v, σ', H', I.QdT ok, r, q⟩
theorem Qls {sub : Str -> Str -> Option Bool} {x : Str} {H0 : Hp} {A0 : List Addr} {hs : List (V × D × List Addr)} {ρ : En} {Dd : Ends} {o : Out} (hN : X.N.Nodup) (hx : X.ex = []) (hsub : QkA X.K sub) (hC : ClsAt X.K x C) :
  ∀ {hds : List ExceptHandler} {hl : List Hd}, Qff X hds hl -> ∀ {F : Nat -> List Addr} {σ : L2.St} {H : Hp} {s : Shared}, Inv X pins σ H s -> Rel X.K H0 A0 hs ρ F σ H -> Fly X pins H ea C s -> Qjs sub x ρ hl = some o -> Fits X.K H0 A0 hs Dd o →
   wpAny (model X.prog X.w) X.A (handleBy (.ref ea) X.env hds) (SP X pins Dd) X.xe s := by
 intro hds hl h
 have test : ∀ {y : Str} {np pos : Pos} {nm : Option Str} {b₀ : Stmt} {suite : List Stmt} {r : List ExceptHandler} {b : Bool} {σ : L2.St} {H : Hp} {s : Shared}, Gl X y -> (y == ("__debug__" : Str)) = false -> sub x y = some b -> Inv X pins σ H s -> Fly X pins H ea C s →
   (b = true -> codeAny (model X.prog X.w) (X.A.mark (some (.ref ea))) (.handlers (.ref ea) [.ExceptHandler none nm (b₀ :: suite) pos] X.env) (λ r s₂ => match r with
     | .ok f => (match nm with
      | none => SP X pins Dd f s₂
      | some n => wpAny (model X.prog X.w) X.A (do bindName X.env n .none; unbindBehindTheSuite X.env n pos) (λ _ s₃ => SP X pins Dd f s₃) X.xe s₂)
     | .error x => cameBackBy (model X.prog X.w) X.A X.env X.xe x s₂) s) →
   (b = false -> wpAny (model X.prog X.w) X.A (handleBy (.ref ea) X.env r) (SP X pins Dd) X.xe s) -> wpAny (model X.prog X.w) X.A (handleBy (.ref ea) X.env (.ExceptHandler (some (.Name y np)) nm (b₀ :: suite) pos :: r)) (SP X pins Dd) X.xe s := by
  intro y np pos nm b₀ suite r b σ H s hg hdb e1 I fly ht hf
  obtain ⟨C', c, k1, k2, k3⟩ := hsub x y b e1
  cases Qch hC k1
  obtain ⟨B, a0, fl, _⟩ := fly
  obtain ⟨ob, hob, hc⟩ := fl.there
  have LT : PySem.W.Looks (model X.prog X.w) s.heap (typeOf (.ref ea)) (.ref C) := hc ▸ (PySem.W.Looks.ld hob).andThen .now
  refine wpAny_handleBy_cons (codeAny_handlers_test (Qmz (X := HS.inH X ea) (I.inH (ea := ea)) hg hdb k2 ((PySem.W.exm_one I.kIn LT k3).here ?_))) (by intro q; cases q)
  cases b with
  | true => exact ht rfl
  | false => exact hf rfl
 induction h with
 | nil => intro F σ H s I rel fly e q; cases e
 | @bare y np pos b₀ suite r hr f hg hdb hS t ih =>
  intro F σ H s I rel fly e q
  obtain ⟨b, e1, e⟩ := bind1 e
  refine test hg hdb e1 I fly (λ hb => ?_) λ hb => ?_
  ·subst hb
   rw [if_pos rfl] at e
   obtain ⟨B, a0, fl, cov, old, pb⟩ := fly
   refine codeAny_handlers_suite (lands_againW fl λ h' fl' up => ?_)
   have I1 := QgF (s' := { s with heap := h' }) I rfl I.bare hx fl.1 fl'.1 up cov old pb
   exact wpAny_mono (hS ea H0 A0 pins _ σ H Dd (I1.inH (ea := ea)) ⟨ρ, hs, F, o, rel, e, q⟩) (λ f s2 hq => SP.QdT I.ok hq) λ _ _ z => z.elim
  ·subst hb
   rw [if_neg ZO] at e
   exact ih I rel fly e q
 | @as y n np pos b₀ suite r hr f i hg hdb hi hl hS t ih =>
  intro F σ H s I rel fly e q
  obtain ⟨b, e1, e⟩ := bind1 e
  refine test hg hdb e1 I fly (λ hb => ?_) λ hb => ?_
  ·subst hb
   rw [if_pos rfl] at e
   obtain ⟨o1, e2, e3⟩ := Zb.mp e
   subst e3
   obtain ⟨B, a0, fl, cov, old, pb⟩ := fly
   refine codeAny_handlers_suite_as (lands_againW fl λ h' fl' up => ?_)
   have I1 := QgF (s' := { s with heap := h' }) I rfl I.bare hx fl.1 fl'.1 up cov old pb
   obtain ⟨hn, I2⟩ := Qo0 I1 hx fl' cov old pb
   have sm : Qq H (upd H ea (.ext (Qcd ea C))) := λ b u eb => by rw [Qr (λ z => by rw [z, hn] at eb; cases eb)]; exact eb
   refine Qeq (X := HS.inH X ea) (v := .ref ea) (I2.inH (ea := ea)) hN hi (.inl hl) rfl (λ s3 I3 => ?_) (.inr hl)
   obtain ⟨F', rel'⟩ := (rel.ext sm).Qte (i := i) (d := .exc x) (v := .ref ea) (by rw [Rp]; exact ⟨⟨ea, rfl, C, hC, Q4⟩, rfl⟩) rfl
   refine wpAny_mono (hS ea H0 A0 pins _ _ _ ⟨λ σ' H' => Dd.nx (σ'.set i none) H', Dd.rt, λ σ' H' => Dd.bk (σ'.set i none) H', λ σ' H' => Dd.ct (σ'.set i none) H'⟩ I3 ⟨_, hs, F', o1, rel', e2, ?_⟩) (λ f s4 hq => ?_) λ _ _ z => z.elim
   ·cases o1 with
    | nx ρ1 => exact λ σ' H' F' rel' => q _ _ _ rel'.Qhz
    | bk ρ1 => exact λ σ' H' F' rel' => q _ _ _ rel'.Qhz
    | ct ρ1 => exact λ σ' H' F' rel' => q _ _ _ rel'.Qhz
    | rt d fr => exact q
   ·cases f with
    | next => obtain ⟨σ', H', I4, q4⟩ := hq; exact QgY (I4.QdT I.ok) hN hi hl λ s5 I5 => ⟨_, H', I5, q4⟩
    | brk => obtain ⟨σ', H', I4, q4⟩ := hq; exact QgY (I4.QdT I.ok) hN hi hl λ s5 I5 => ⟨_, H', I5, q4⟩
    | cont => obtain ⟨σ', H', I4, q4⟩ := hq; exact QgY (I4.QdT I.ok) hN hi hl λ s5 I5 => ⟨_, H', I5, q4⟩
    | ret u => obtain ⟨v, σ', H', I4, r4, q4⟩ := hq; exact QgY (I4.QdT I.ok) hN hi hl λ s5 I5 => ⟨v, _, H', I5, r4, q4⟩
  ·subst hb
   rw [if_neg ZO] at e
   exact ih I rel fly e q
noncomputable abbrev Cx.chg (X : Cx) (xe : Value -> Shared -> Prop) (pn : List (Addr × Obj)) : Cx := { X with xe := xe, pn := pn }
theorem _root_.L2.Inv.chg {xe : Value -> Shared -> Prop} (I : Inv X pins σ H s) : Inv (Cx.chg X xe (X.pn ++ pins)) [] σ H s :=
 ⟨⟨I.ok.mod, I.ok.kind, I.ok.glob, I.ok.blt, I.ok.above, I.ok.inj, I.ok.has, I.ok.cab, I.ok.hd, I.ok.frames, I.ok.stk, I.ok.exf, I.ok.bs, I.ok.bsz, I.ok.noex, I.ok.exfs, I.ok.Qb2, I.ok.frf⟩, I.os, I.bare, I.base, I.loc, I.cell, I.free, I.freeC, λ p hp => I.pin p (by simpa using hp), I.hok, I.len⟩
theorem _root_.L2.Inv.Qgo {xe : Value -> Shared -> Prop} {pins' : List (Addr × Obj)} (ok : X.Ok) (I : Inv (Cx.chg X xe (X.pn ++ pins)) pins' σ H s) : Inv X pins σ H s :=
 ⟨ok, I.os, I.bare, I.base, I.loc, I.cell, I.free, I.freeC, λ p hp => I.pin p (Zd _ hp), I.hok, I.len⟩
theorem QqX {sub : Str -> Str -> Option Bool} {body : List Stmt} {h₀ : ExceptHandler} {hds : List ExceptHandler} {hl : List Hd} {f : DS} {fx : DX} {pos : Pos} (hN : X.N.Nodup) (hx : X.ex = []) (hst : X.stack = X.env :: X.outer) (hf : X.env.frame = some X.env.locals) (hsub : QkA X.K sub)
  (hb : ∀ xe pn, PassesOwn (model X.prog X.w) X.A X.env xe -> SS (Cx.chg X xe pn) body f /\ RzS (Cx.chg X xe pn) body fx) (hh : Qff X (h₀ :: hds) hl) : S1 X (.Try body (h₀ :: hds) [] [] pos) (QdD f fx sub hl) := λ H0 A0 pins s σ H Dd I ⟨ρ, hs, F, o, rel, e, q⟩ => by
 refine wpAny_Try_except ?_
 have pass : PassesOwn (model X.prog X.w) X.A X.env (λ e s₁ => wpAny (model X.prog X.w) X.A (noteFrame e X.env) (λ _ s₂ => wpAny (model X.prog X.w) X.A (setFlight e none) (λ _ s₃ => wpAny (model X.prog X.w) X.A (handleBy e X.env (h₀ :: hds)) (SP X pins Dd) X.xe s₃) X.xe s₂) X.xe s₁) := PassesOwn.looking
 obtain ⟨b1, b2⟩ := hb _ (X.pn ++ pins) pass
 unfold QdD at e
 split at e
 ·rename_i o' eo
  cases e
  refine thn (b1 H0 A0 [] s σ H Dd I.chg ⟨ρ, hs, F, o, rel, eo, q⟩) λ fl s1 hq => ?_
  cases fl with
  | next => obtain ⟨σ', H', I1, q1⟩ := hq; exact wpAny_execs_nil ⟨σ', H', I1.Qgo I.ok, q1⟩
  | brk => obtain ⟨σ', H', I1, q1⟩ := hq; exact ⟨σ', H', I1.Qgo I.ok, q1⟩
  | cont => obtain ⟨σ', H', I1, q1⟩ := hq; exact ⟨σ', H', I1.Qgo I.ok, q1⟩
  | ret u => obtain ⟨v, σ', H', I1, r1, q1⟩ := hq; exact ⟨v, σ', H', I1.Qgo I.ok, r1, q1⟩
 ·obtain ⟨⟨x, ρ'⟩, e1, e⟩ := bind1 e
  refine thn (b2 H0 A0 [] s σ H ⟨λ _ _ => False, λ _ _ => False, λ _ _ => False, λ _ _ => False⟩ I.chg ⟨ρ, hs, F, x, ρ', rel, e1, λ C ea s' hC T => ?_⟩) λ fl s1 hq => ?_
  ·refine QjM (X := Cx.chg X _ (X.pn ++ pins)) (E := X.xe) (Qk := λ s₃ => wpAny (model X.prog X.w) X.A (handleBy (.ref ea) X.env (h₀ :: hds)) (SP X pins Dd) X.xe s₃) T hx hst hf λ pins' σ' H' F' s'' rel' I' fly => ?_
   obtain ⟨B, a0, fl, cov, old, pb⟩ := fly
   exact Qls hN hx hsub hC hh (I'.Qgo I.ok) rel' ⟨B, a0, fl, cov, old, λ p hp => pb p (Zd _ hp)⟩ e q
  ·cases fl with
   | next => obtain ⟨σ', H', I1, q1⟩ := hq; exact q1.elim
   | brk => obtain ⟨σ', H', I1, q1⟩ := hq; exact q1.elim
   | cont => obtain ⟨σ', H', I1, q1⟩ := hq; exact q1.elim
   | ret u => obtain ⟨v, σ', H', I1, r1, q1⟩ := hq; exact q1.elim
end
end HS
namespace HS
open PySem PySem.Spec L2 PyProof.Rows PySem.W
structure QdO (K : Frag) (C : Addr) : Prop where
 cl : (clsIn K C).isSome = true
 ga : findIn K (.ref C) "__getattribute__" = some (some (.builtin "BaseException.__getattribute__"))
 hk : findIn K (.ref C) "__getattr__" = some none
 ca : findIn K (.ref C) "__class__" = some (some (.builtin "object.__class__"))
 mo : mroIn K C (.type "object") = some true
 be : subIn K (.ref C) (.type "BaseException") = some true
section
variable {prog : Program} {w : World} {A : Around} {E : Value -> Shared -> Prop} {s : Shared} {K : Frag} {a C : Addr}
theorem Qe7 {M : Model} {h : Heap} (x : Qcd a C h) : Looks M h (typeOf (.ref a)) (.ref C) := by
 obtain ⟨o, vs, e, c, _⟩ := x
 exact c ▸ (Looks.ld e).andThen .now
theorem Qo3 {R : Result -> Shared -> Prop} {tp : Value} (z : QdO K C) (X : K.In s.heap) (x : Qcd a C s.heap) (h : R (.ok (.ret (.ref C))) s) :
  codeAny (model prog w) A (.call (.builtin "getset_descriptor.__get__") ⟨[.builtin "object.__class__", .ref a, tp], []⟩) R s := by
 obtain ⟨hh, g, dr, t, os⟩ := s
 have T0 := Qe7 (M := model prog w) x
 have T1 := looks_mroIn (M := model prog w) X z.mo
 refine codeAny_call_builtin KF.slot_gs.plain KF.entry_gs
  (KF.slot_gs.check _ _ _ _ _ _ _ _ KF.type_class (KF.args_gs _ _ _) ?_)
 unfold Builtin.«getset_descriptor.__get__» Builtin.Getset_descriptor.descrGet
 rw [dga_obj]; refine wpAny_bind (wpAny_pure ?_)
 unfold Builtin.Getset_descriptor.descrGetter Builtin.Getset_descriptor.descrCheckInstance
  Builtin.Getset_descriptor.descrNameAndClass isInstance
 simp only [KF.owner_class]
 repeat lk
 refine ⟨Code.quiet_builtin _ (by decide +kernel),
  codeAny_builtin KF.entry_class ?_⟩
 unfold Builtin.«object.__class__» shownTypeOf; repeat lk
 exact h
theorem QlA {tk : Tok} {Q : Fin -> Shared -> Prop} (z : QdO K C) (X : K.In s.heap) (x : Qcd a C s.heap) (h : Q (.done (.ret (.ref C))) s) :
  wpAny (model prog w) A (Builtin.«object.__getattribute__» ⟨[.ref a, .str "__class__" tk], []⟩) Q E s := by
 obtain ⟨hh, g, dr, t, os⟩ := s
 have T0 := Qe7 (M := model prog w) x
 have T1 := looks_findIn (M := model prog w) X z.ca
 have f5 := F.typeOf_object_class
 have f6 := F.slot_gs_get.lookup
 have f7 := F.slot_gs_set.lookup
 obtain ⟨o, vs, hx, hc, hd⟩ := id x
 have hT5 : (⟨hh, g, dr, t, os⟩ : Shared).TypeIs (.builtin "object.__class__") "getset_descriptor" := f5
 repeat (any_goals (first | assumption | (with_reducible refine wpAny_loadPart_at hx ?_; rw [hc]) | with_reducible refine T1.at ?_ | wp_step))
 refine Qo3 z X x ?_
 repeat (any_goals (first | assumption | wp_step))
theorem Qmm {M : Model} {nameV : Value} {Q : Unit -> Shared -> Prop} (z : QdO K C) (X : K.In s.heap) (x : Qcd a C s.heap) (h : Q () s) : wpAny M A (checkBuiltinCall "BaseException.__getattribute__" ⟨[.ref a, nameV], []⟩) Q E s := by
 obtain ⟨hh, g, dr, t, os⟩ := s
 have k1 : builtinKind "BaseException.__getattribute__" = some .slot := by decide +kernel
 have k2 : splitId "BaseException.__getattribute__" = some ("BaseException", "__getattribute__") := by decide +kernel
 have T0 := Qe7 (M := M) x
 have T1 := looks_subIn (M := M) X z.be
 have T2 : Looks M hh (isInstance (.ref a) (.type "BaseException")) true := T0.andThen T1
 have k3 := F.args_bexc_ga (.ref a) nameV
 simp only [checkBuiltinCall, k1, k2]
 refine wpAny_bind (T2.at ?_)
 rw [if_neg (by decide)]
 have k4 : Q () ⟨hh, g, dr, t, os⟩ := h
 repeat (any_goals (first | assumption | wp_step))
theorem Qry {tk : Tok} {Q : Value -> Shared -> Prop} (z : QdO K C) (X : K.In s.heap) (x : Qcd a C s.heap) (h : Q (.ref C) s) : wpAny (model prog w) A (getAttrBy (.ref a) (.str "__class__" tk) false) Q E s := by
 obtain ⟨hh, g, dr, t, os⟩ := s
 have T0 := Qe7 (M := model prog w) x
 have T1 := looks_findIn (M := model prog w) X z.ga
 have T2 := looks_findIn (M := model prog w) X z.hk
 have f3 := PySem.F.attr_ValueError.ga.bind (.ref a)
 have n2 : (Value.builtin "BaseException.__getattribute__" == Value.builtin "object.__getattribute__") = false := by decide +kernel
 have n1 : (onTheHeap (Value.ref C) && Value.builtin "BaseException.__getattribute__" == Value.builtin "object.__getattribute__") = false := by rw [n2]; rfl
 obtain ⟨o, vs, hx, hc, hd⟩ := id x
 repeat (any_goals (first | assumption | (with_reducible refine wpAny_loadPart_at hx ?_; rw [hc]) | with_reducible refine T1.at ?_ | with_reducible refine T2.at ?_ | wp_step))
 refine codeAny_call_builtin PySem.F.attr_ValueError.ga.plain F.entry_bexc_ga (Qmm z X x (QlA z X x ?_))
 have k4 : Q (.ref C) ⟨hh, g, dr, t, os⟩ := h
 repeat (any_goals (first | assumption | wp_step))
theorem Qm2 {Q : Option Value -> Shared -> Prop} (z : QdO K C) (X : K.In s.heap) (x : Qcd a C s.heap) (h : Q (some (.ref C)) { s with toks := s.toks + 1 }) : wpAny (model prog w) A (getAttr? (.ref a) "__class__") Q E s := by
 obtain ⟨hh, g, dr, t, os⟩ := s
 have k4 : Q (some (.ref C)) ⟨hh, g, dr, t + 1, os⟩ := h
 have X' : K.In (⟨hh, g, dr, t + 1, os⟩ : Shared).heap := X
 have x' : Qcd a C (⟨hh, g, dr, t + 1, os⟩ : Shared).heap := x
 unfold getAttr? getAttrBy?
 repeat (any_goals (first | assumption | with_reducible apply Qry z X' x' | wp_step))
theorem Qi9 (z : QdO K C) : KitX K (.ref a) (.ref C) (Qcd a C) where
 ty := λ _ _ _ x => Qe7 x
 it := λ _ _ X _ => by
  have h0 := z.cl
  unfold clsIn at h0
  split at h0
  ·rename_i ho
   intro A' Q' E' s' k q
   unfold isType loadHead
   refine wpAny_bind ?_
   exact wpAny_loadPart (k _ _ (X _ _ ho)) (wpAny_pure q)
  ·cases h0
 ne := λ h tp dd its n sl X htp => by
  have h0 := z.cl
  refine Bool.eq_false_iff.mpr λ q => ?_
  obtain rfl : C = tp := Value.ref.inj (beq_iff_eq.mp q)
  unfold clsIn at h0
  split at h0
  ·rename_i ho
   have e := X _ _ ho
   rw [htp] at e
   cases e
  ·cases h0
 ca := λ X x k => Qm2 z X x k
end
end HS
namespace HS
open PySem PySem.Spec L2 PyProof.Rows
def Qpx (K : PySem.W.Frag) (x y : Str) (b : Bool) : Prop := ∃ C c, ClsAt K x C /\ PySem.W.KtsName K y c /\ PySem.W.exmOne K (.ref C) c = some b /\ PySem.W.kitOne K (.ref C) c = some b /\ QdO K C
def Qa2 (K : PySem.W.Frag) (sub : Str -> Str -> Option Bool) : Prop := ∀ x y b, sub x y = some b -> Qpx K x y b
theorem Qa2.ok {K : PySem.W.Frag} {sub : Str -> Str -> Option Bool} (h : Qa2 K sub) : QkA K sub := λ x y b e => by
 obtain ⟨C, c, h1, h2, h3, _⟩ := h x y b e
 exact ⟨C, c, h1, h2, h3⟩
noncomputable def vC : Value -> V
 | .ref a => .ref a
 | .type n => .ty n
 | _ => .non
theorem QiP {K : PySem.W.Frag} {C : Addr} {c : Value} {b : Bool} (h : PySem.W.kitOne K (.ref C) c = some b) : RelV (vC c) c := by
 cases c with
 | ref a => exact rfl
 | type n => exact rfl
 | _ =>
  unfold PySem.W.kitOne at h
  split at h
  ·rename_i q; have := beq_iff_eq.mp q; cases this
  ·cases h
noncomputable def anyS (sub : Str -> Str -> Option Bool) (x : Str) : List Str -> Option Bool
 | [] => some false
 | y :: r => (sub x y).bind λ b => (anyS sub x r).map λ d => b || d
noncomputable def QdX (sub : Str -> Str -> Option Bool) (ys : List Str) (fa : DE) : DE := λ ρ => (fa ρ).bind λ r => match r.d with
 | .exc x => (anyS sub x ys).map λ b => ⟨.bl b, true, []⟩
 | _ => none
section
variable {X : Cx} {a : Expr} {fa : DE} {p p2 pos : Pos} {sub : Str -> Str -> Option Bool}
noncomputable def QsU (K : PySem.W.Frag) : List V -> Hp -> VK -> Prop := λ xs H Q => ∃ C a y, xs = [.ref a, y] /\ H a = some (.ext (Qcd a C)) /\ QdO K C ∧
 ((∃ c b, y = vC c /\ PySem.W.kitOne K (.ref C) c = some b /\ Q (.bl b) H) ∨ ∃ tp cs b, y = .ref tp /\ H tp = some (.tup (cs.map vC)) /\ (∀ c ∈ cs, RelV (vC c) c) /\ PySem.W.kitAny K (.ref C) cs = some b /\ Q (.bl b) H)
theorem Qjb {v : V} {c c' : Value} (hv : v = vC c) (h : RelV (vC c) c) (h' : RelV v c') : c' = c := by
 subst hv
 cases c with
 | ref a => exact h'
 | type n => exact h'
 | none => cases h'; rfl
 | _ => cases h
theorem QiO : ∀ {cs : List Value} {us : List Value}, (∀ c ∈ cs, RelV (vC c) c) -> Ql (cs.map vC) us -> us = cs
 | [], _, _, .nil => rfl
 | c :: cs, _, h, .cons r t => by
  rw [Qjb rfl (h c Zh) r, QiO (λ c hc => h c (Zc _ hc)) t]
theorem Qi3 : Qbj X (.builtin "isinstance") (QsU X.K) := by
 intro pins s σ H xs us Q I r h
 obtain ⟨C, a, y, rfl, hH, z, h⟩ := h
 obtain ⟨u, w, rfl, ru, rw'⟩ := vals2 r
 cases (show u = Value.ref a from ru)
 have xo : Qcd a C s.heap := (show QaY X.prog X.w H s.heap a (.ext (Qcd a C)) from I.hok a _ hH).1
 rcases h with ⟨c, b, rfl, k, q⟩ | ⟨tp, cs, b, rfl, ht, hr, k, q⟩
 ·cases Qjb rfl (QiP k) rw'
  exact Zao (Qi9 z) I.kIn xo k (λ z => nomatch z) λ tk => ⟨.bl b, H, I.tok _, rfl, q⟩
 ·cases (show w = Value.ref tp from rw')
  obtain ⟨_, its, rv, o, e1, e2, n, e3⟩ := (show QaY X.prog X.w H s.heap tp (.tup (cs.map vC)) from I.hok tp _ ht)
  have hits := QiO hr rv
  subst hits
  obtain ⟨oc, od, odat, osl⟩ := o
  dsimp only at e2 e3
  subst e2 e3
  exact PySem.W.kia_tup (Qi9 z) I.kIn xo e1 k (λ z => nomatch z) λ tk => ⟨.bl b, H, I.tok _, rfl, q⟩
theorem Qmu {y : Str} {c : Value} {np : Pos} (hg : Gl X y) (hdb : (y == ("__debug__" : Str)) = false) (k : PySem.W.KtsName X.K y c) (hr : RelV (vC c) c) : PE X (.Name y np) (tC (vC c)) := λ pins s σ H Q I h => Qmz I hg hdb k ⟨vC c, H, I, hr, h⟩
theorem Qqb {y : Str} (hsub : Qa2 X.K sub) (hg : Gl X "isinstance") (hm : X.mg "isinstance" = none) (hy : Gl X y) (hdb : (y == ("__debug__" : Str)) = false) (ha : SE X a fa) (he : starEach [a, .Name y p2] X.env = (false, eval a X.env) :: starEach [.Name y p2] X.env) :
  SE X (.Call (.Name "isinstance" p) [a, .Name y p2] [] pos) (QdX sub [y] fa) := λ H0 A0 pins s σ H Q I ⟨ρ, hs, F, r', rel, e, q⟩ => by
 obtain ⟨r, e1, e⟩ := bind1 e
 split at e
 ·rename_i x hd
  obtain ⟨b, eb, rfl⟩ := Zb.mp e
  have eb' : sub x y = some b := by
   unfold anyS at eb
   obtain ⟨b', h1, h2⟩ := bind1 eb
   cases b' with
   | true => cases h2; exact h1
   | false => cases h2; exact h1
  obtain ⟨C, c, k1, k2, k3, k4, k5⟩ := hsub x y b eb'
  refine Qen Qi3 hg hm Zav (Qag (ha H0 A0) (Qag (Qmu hy hdb k2 (QiP k4)) QbQ) he) (by decide) (by decide) he (by rfl) pins s σ H Q I ?_
  refine ⟨ρ, hs, F, r, rel, e1, λ v H1 G p => ?_⟩
  have rp := p.rp
  rw [hd, Rp] at rp
  obtain ⟨⟨ea, rfl, C', hC', hH⟩, rfl⟩ := rp
  cases Qch k1 hC'
  exact ⟨C, ea, _, rfl, hH, k5, .inl ⟨c, b, rfl, k4, q _ H1 [] (.flat p.same .Qbg)⟩⟩
 ·cases e
theorem Ql0 {K : PySem.W.Frag} (hK : X.K = K) : ∀ {ys : List Str} {es : List Expr} {cs : List Value}, es.map Qds = ys.map some -> (∀ y ∈ ys, Gl X y /\ (y == ("__debug__" : Str)) = false) -> Paired (λ y c => PySem.W.KtsName K y c /\ RelV (vC c) c) ys cs →
  PA X es (λ σ H Q => Q (cs.map vC) H)
 | [], es, _, he, _, .nil => by
  have : es = [] := by simpa using he
  subst this
  exact QbQ
 | y :: ys, [], _, he, _, _ => by simp at he
 | y :: ys, e :: es, _, he, hg, .cons r t => by
  simp only [Zt, List.cons.injEq] at he
  cases e with
  | Name z p =>
   cases he.1
   obtain ⟨g1, g2⟩ := hg y Zh
   subst hK
   exact (Qag (Qmu g1 g2 r.1 r.2) (Ql0 rfl he.2 (λ y hy => hg y (Zc _ hy)) t) rfl)
  | _ => cases he.1
theorem Qlw {K : PySem.W.Frag} {x : Str} {C : Addr} (hsub : Qa2 K sub) (hC : ClsAt K x C) : ∀ (ys : List Str) (b : Bool), anyS sub x ys = some b -> ∃ cs, Paired (λ y c => PySem.W.KtsName K y c /\ RelV (vC c) c) ys cs /\ PySem.W.kitAny K (.ref C) cs = some b
 | [], b, e => by cases e; exact ⟨[], .nil, rfl⟩
 | y :: ys, b, e => by
  unfold anyS at e
  obtain ⟨b1, h1, e⟩ := bind1 e
  obtain ⟨b2, h2, rfl⟩ := Zb.mp e
  obtain ⟨C', c, k1, k2, k3, k4, k5⟩ := hsub x y b1 h1
  cases Qch hC k1
  obtain ⟨cs, t, k6⟩ := Qlw hsub hC ys b2 h2
  refine ⟨c :: cs, .cons ⟨k2, QiP k4⟩ t, ?_⟩
  unfold PySem.W.kitAny
  rw [k4]
  cases b1 with
  | true => rfl
  | false => exact k6
theorem Qfh {α β : Type} {F : α -> β -> Prop} : ∀ {l : List α} {m : List β}, Paired F l m -> ∀ c ∈ m, ∃ y, F y c
 | _, _, .nil, c, h => by simp at h
 | _, _, .cons r t, c, h => by
  rcases Zm.mp h with rfl | h
  ·exact ⟨_, r⟩
  ·exact Qfh t c h
theorem Qp4 {ys : List Str} {es : List Expr} {kk : Nat} {tp : Pos} (hsub : Qa2 X.K sub) (hg : Gl X "isinstance") (hm : X.mg "isinstance" = none) (hl : ys.length <= 60) (h0 : ys ≠ []) (hes : es.map Qds = ys.map some) (hy : ∀ y ∈ ys, Gl X y /\ (y == ("__debug__" : Str)) = false) (ha : SE X a fa)
  (he : starEach [a, .Tuple es kk tp] X.env = (false, eval a X.env) :: starEach [.Tuple es kk tp] X.env) : SE X (.Call (.Name "isinstance" p) [a, .Tuple es kk tp] [] pos) (QdX sub ys fa) := λ H0 A0 pins s σ H Q I ⟨ρ, hs, F, r', rel, e, q⟩ => by
 obtain ⟨r, e1, e⟩ := bind1 e
 split at e
 ·rename_i x hd
  obtain ⟨b, eb, rfl⟩ := Zb.mp e
  by_cases hx : ∃ C, ClsAt X.K x C
  ·obtain ⟨C, hC⟩ := hx
   by_cases hk : QdO X.K C
   ·obtain ⟨cs, t, k⟩ := Qlw hsub hC ys b eb
    refine Qen Qi3 hg hm Zav (Qag (ha H0 A0) (Qag (Qmi (Ql0 rfl hes hy t)) QbQ) he) (by decide) (by decide) he (by rfl) pins s σ H Q I ?_
    refine ⟨ρ, hs, F, r, rel, e1, λ v H1 G p => ?_⟩
    have hlen : (cs.map vC).length <= sizeLine := by
     rw [Zs, ← Paired.length t]
     exact Zv hl (by decide)
    refine ⟨hlen, λ pp hp => ?_⟩
    have rp := p.rp
    rw [hd, Rp] at rp
    obtain ⟨⟨ea, rfl, C', hC', hH⟩, rfl⟩ := rp
    cases Qch hC hC'
    have sm : Qq H1 (upd H1 pp (.tup (cs.map vC))) := λ b u eb => by rw [Qr (λ z => by rw [z, hp] at eb; cases eb)]; exact eb
    exact ⟨C, ea, _, rfl, sm _ _ hH, hk, .inr ⟨pp, cs, b, rfl, Q4, λ c hc => (Qfh t c hc).choose_spec.2, k, q _ _ [] (.flat (p.same.trans sm) .Qbg)⟩⟩
   ·exfalso
    cases ys with
    | nil => exact h0 rfl
    | cons y ys =>
     unfold anyS at eb
     obtain ⟨b1, h1, _⟩ := bind1 eb
     obtain ⟨C', c, k1, k2, k3, k4, k5⟩ := hsub x y b1 h1
     cases Qch hC k1
     exact hk k5
  ·exfalso
   cases ys with
   | nil => exact h0 rfl
   | cons y ys =>
    unfold anyS at eb
    obtain ⟨b1, h1, _⟩ := bind1 eb
    obtain ⟨C', c, k1, _⟩ := hsub x y b1 h1
    exact hx ⟨C', k1⟩
 ·cases e
end
end HS
namespace HS
open PySem PySem.Spec L2 PyProof.Rows
structure Qa6 (k : Nat) (A : Around) : Prop where
 dp : A.depth + 3 * k + 5 < recursionLimit
 un : A.units + 16 * k + 200 < cLine
theorem QrN {k : Nat} {A : Around} (r : QW k A) : Qa6 k A := ⟨r.dp, r.un⟩
theorem Qa6.mono {j k : Nat} {A : Around} (r : Qa6 k A) (h : j <= k) : Qa6 j A := ⟨by have := r.dp; omega, by have := r.un; omega⟩
theorem Qa6.deeper {k : Nat} {A : Around} (r : Qa6 (k + 1) A) (env : Env) : Qa6 k (A.deeper env) :=
 ⟨by have := r.dp; show A.depth + 1 + 3 * k + 5 < _; omega, by have := r.un; show A.units + 3 + 16 * k + 200 < _; omega⟩
theorem Qa6.units {k : Nat} {A : Around} (r : Qa6 k A) : A.units + 64 < cLine := by have := r.un; omega
theorem Qa6.mark {k : Nat} {A : Around} {v : Option Value} (r : Qa6 k A) : Qa6 k (A.mark v) := ⟨r.dp, r.un⟩
structure FnH (P : Program) (w : World) (K : PySem.W.Frag) (mg : Str -> Option Value) (base : Heap) (k : Nat) (f : Addr) (fd : FuncData) (ps : List Str) (sp : Sp) : Prop where
 len : ∀ vs H Q E, sp vs H Q E -> vs.length = ps.length
 run : ∀ (A : Around) (outer : List Env) (s : Shared) (H : Hp) (args : Args) (us : List Value) (vs : List V) (Q : VK) (E : XK), Qa6 k A -> Qdx P w K mg base A outer s H -> BindsTo s fd args (ps.zip us) -> Ql vs us -> sp vs H Q E →
  codeAny (model P w) A (.call (.ref f) args) (CR CX0 outer P w H s Q E) s
section
variable {P : Program} {w : World} {K : PySem.W.Frag} {mg : Str -> Option Value} {base : Heap}
theorem FnH.mono {j k : Nat} {f : Addr} {fd : FuncData} {ps : List Str} {sp : Sp} (F : FnH P w K mg base j f fd ps sp) (h : j <= k) : FnH P w K mg base k f fd ps sp := ⟨F.len, λ A outer s H args us vs Q E hr => F.run A outer s H args us vs Q E (hr.mono h)⟩
theorem Qpv {x qual : Str} {st : Stmt} {f : Addr} {fd : FuncData} {N ps : List Str} {k : Nat} {sp : Sp} (F : Fun K x qual st f fd) (S : QaJ N ps (Qd st)) (len : ∀ vs H Q E, sp vs H Q E -> vs.length = ps.length)
  (hbody : ∀ (cdv : Value) (A : Around) (outer : List Env) (s : Shared) (H : Hp) (vs : List V) (Q : VK) (E : XK), Qa6 k (A.deeper (envOfC qual (Qd st) s.heap.objs.size f cdv)) -> sp vs H Q E →
   ∃ t, PSs (Qb1 CX0 P w K mg base N qual (Qd st) f cdv A outer s H E).nox (QY st) t /\ t { nx := λ _ H' => Q .non H', rt := Q } (start N vs) H) : FnH P w K mg base (k + 1) f fd ps sp := by
 obtain ⟨oc, od, kV, doc, pm, an, cdv, ct, osl, rfl, lk, hcd⟩ := F.ex
 refine ⟨len, λ A outer s H args us vs Q E hr e0 hb r hsp => ?_⟩
 have hl := len _ _ _ _ hsp
 have KX : K.In s.heap := e0.mod.kin.keeps λ b o e => (e0.bs b o e).1
 have lim : s.heap.NoLimit := e0.mod.nolimit.keeps λ b o e => (e0.bs b o e).1
 have hkind : ∀ y ∈ ps.zip us, (Qd st).names.lookup y.1 = some .local ∨ ((Qd st).names.lookup y.1 = some .cell /\ ((cellsFrom (s.heap.objs.size + 1) (Qd st).names []).lookup y.1).isSome = true) := λ ⟨n, v⟩ hy => by
  rcases S.par n (ZaQ hy).1 with q | q
  ·exact .inl q
  ·exact .inr ⟨q, ZaD _ _ _ (.inl q)⟩
 refine codeAny_call_function (by have := hr.dp; omega) (KX _ _ lk) rfl S.co S.gen rfl (PySem.W.codeRec_of KX hcd) (hb _ _ _ _ ?_)
 refine wpAny_newFunctionEnv_cells S.kind hkind λ env he s1 x => ?_
 subst he
 refine ⟨lim.keeps x.toInCall.keep, codeAny_func ?_⟩
 obtain ⟨t, ht, hq⟩ := hbody cdv A outer s H vs Q E (hr.deeper _) hsp
 have I : Inv (Qb1 CX0 P w K mg base N qual (Qd st) f cdv A outer s H E) [] (start N vs) H s1 := Qh7 S e0 hl r x
 refine wpAny_mono (ht.nox [] s1 (start N vs) H _ I hq) (λ fl s' hs => ?_) λ e s' hs => hs
 have fin : ∀ {σ' : L2.St} {H' : Hp} {v : V} {u : Value}, Inv (Qb1 CX0 P w K mg base N qual (Qd st) f cdv A outer s H E) [] σ' H' s' -> RelV v u -> Q v H' -> CE outer P w H s Q u s' :=
  λ {σ' H' v u} J rv q => ⟨v, H', J.os, J.bare, J.base, J.hok, rv, q⟩
 cases fl with
 | ret u => obtain ⟨v, σ', H', J, rv, q⟩ := hs; exact fin J rv q
 | next => obtain ⟨σ', H', J, q⟩ := hs; exact fin (v := V.non) (u := Value.none) J rfl q
 | brk => obtain ⟨_, _, _, q⟩ := hs; exact False.elim q
 | cont => obtain ⟨_, _, _, q⟩ := hs; exact False.elim q
end
section
variable {X : Cx} {e : Expr} {es : List Expr} {fs : DA} {pos p : Pos} {x : Str} {n k : Nat} {f : Addr} {fd : FuncData} {ps : List Str} {den : Den}
theorem QmW (Fk : FnH X.prog X.w X.K X.mg X.base k f fd ps (spV X.K n den)) (hr : Qa6 k X.A) (hg : Gl X x) (hm : X.mg x = some (.ref f)) (hk : PySem.W.keepIn X.K (.ref f) = true) (hb : Binds X.K fd ps [])
  (ha : SA X (e :: es) fs) (hdb : (x == ("__debug__" : Str)) = false) (he : starEach (e :: es) X.env = (false, eval e X.env) :: starEach es X.env) (hpl : (backTo pos (starEach es X.env)).any (·.1) = false) :
  SE X (.Call (.Name x p) (e :: es) [] pos) (Qi n den [] fs) := λ H0 A0 => by
 intro pins s σ H Q I h
 have h := Qe9 (X := X) (dvs := []) (λ H => by simp [Rps]) h
 refine wpAny_Call_Name_kw (QcB I hg hm ?_ hdb)
 refine ZaV (h₀ := X.base) I.ok.mod.kin hk (thn (ha H0 A0 pos pins s σ H _ I h) λ us s1 ⟨vs, H1, I1, r, q⟩ => ⟨I1.kIn, ?_⟩) he hpl
 have r2 : Ql (vs ++ []) (us ++ []) := by rw [Zah, Zah]; exact r
 have hl : (us ++ []).length = ps.length := by rw [← r2.length]; exact Fk.len _ _ _ _ q
 refine wpAny_call (codeAny_mono (Fk.run X.A X.stack s1 H1 ⟨us, []⟩ (us ++ []) (vs ++ []) Q E0 hr I1.QnB (hb s1 us I1.kIn hl) r2 q) λ r s' hq => ?_)
 cases r with
 | error ev => exact QkO pins σ H1 s1 ev s' I1 hq
 | ok fl =>
  cases fl with
  | ret u => exact I1.after hq
  | next => exact False.elim hq
  | brk => exact False.elim hq
  | cont => exact False.elim hq
end
def QeV (X : Cx) (hΓ : List (Str × FnR)) : Prop := ∀ x r, look x hΓ = some r -> ∃ k f fd ps, FnH X.prog X.w X.K X.mg X.base k f fd ps (spV X.K r.n r.den) /\ Qa6 k X.A /\ X.mg x = some (.ref f) /\ PySem.W.keepIn X.K (.ref f) = true /\ Binds X.K fd ps []
theorem QeV.inH {X : Cx} {hΓ : List (Str × FnR)} {ea : Addr} (h : QeV X hΓ) : QeV (HS.inH X ea) hΓ := λ x r e => by
 obtain ⟨k, f, fd, ps, h1, h2, h3⟩ := h x r e
 exact ⟨k, f, fd, ps, h1, h2.mark, h3⟩
section
variable (P : Program) (w : World) (K : PySem.W.Frag) (mg : Str -> Option Value) (base : Heap)
def QdY (k : Nat) (x : Str) (r : FnR) : Prop := ∃ f fd ps, FnH P w K mg base k f fd ps (spV K r.n r.den) /\ mg x = some (.ref f) /\ PySem.W.keepIn K (.ref f) = true /\ Binds K fd ps []
def Qc4 (k : Nat) (Γ : List (Str × FnR)) : Prop := ∀ x r, look x Γ = some r -> QdY P w K mg base k x r
end
section
variable {P : Program} {w : World} {K : PySem.W.Frag} {mg : Str -> Option Value} {base : Heap}
theorem Qc4.nil {k : Nat} : Qc4 P w K mg base k [] := λ x r h => by cases h
theorem QdY.mono {j k : Nat} {x : Str} {r : FnR} (h : QdY P w K mg base j x r) (hk : j <= k) : QdY P w K mg base k x r := by
 obtain ⟨f, fd, ps, h1, h2⟩ := h
 exact ⟨f, fd, ps, h1.mono hk, h2⟩
theorem Qc4.mono {j k : Nat} {Γ : List (Str × FnR)} (t : Qc4 P w K mg base j Γ) (hk : j <= k) : Qc4 P w K mg base k Γ := λ x r e => (t x r e).mono hk
theorem Qc4.cons {k : Nat} {Γ : List (Str × FnR)} {x : Str} {r : FnR} (t : Qc4 P w K mg base k Γ) (h : QdY P w K mg base (k + 1) x r) : Qc4 P w K mg base (k + 1) ((x, r) :: Γ) := λ y q e => by
 unfold look at e
 split at e
 ·rename_i z; cases e; subst z; exact h
 ·exact (t y q e).mono (Zu _)
end
end HS
namespace HS
open PySem PySem.Spec L2 PyProof.Rows
mutual
noncomputable def Q1 (n : Nat) (Θ : Th) (sub : Str -> Str -> Option Bool) (hΓ : List (Str × FnR)) (e : Expr) : Option DE := match n with
 | 0 => none
 | n + 1 => match e with
  | .Name x _ => (Θ.slot x).map Qa
  | .Constant (.bool b) _ _ => some (dC (.bl b))
  | .Constant (.str x) _ _ => some (dC (.str x))
  | .UnaryOp .Not a _ => (Q1 n Θ sub hΓ a).map Qnr
  | .BoolOp .And [a] _ => Q1 n Θ sub hΓ a
  | .BoolOp .And (a :: b :: r) p => (Q1 n Θ sub hΓ a).bind λ fa => (Q1 n Θ sub hΓ (.BoolOp .And (b :: r) p)).map λ fb => QdE fa fb
  | .BoolOp .Or [a] _ => Q1 n Θ sub hΓ a
  | .BoolOp .Or (a :: b :: r) p => (Q1 n Θ sub hΓ a).bind λ fa => (Q1 n Θ sub hΓ (.BoolOp .Or (b :: r) p)).map λ fb => dOr fa fb
  | .Compare a [.Eq] [b] _ => (Q1 n Θ sub hΓ a).bind λ fa => (Q1 n Θ sub hΓ b).map λ fb => dOp gEq fa fb
  | .Compare a [.NotEq] [b] _ => (Q1 n Θ sub hΓ a).bind λ fa => (Q1 n Θ sub hΓ b).map λ fb => dOp gNe fa fb
  | .Call (.Name f _) [a, .Name y _] [] _ => if f = "isinstance" /\ Θ.gl "isinstance" = true /\ Θ.gl y = true then (Q1 n Θ sub hΓ a).map λ fa => QdX sub [y] fa else none
  | .Call (.Name f _) [a, .Tuple es _ _] [] _ => if f = "isinstance" /\ Θ.gl "isinstance" = true then (es.mapM Qds).bind λ ys => if ys.all Θ.gl = true /\ ys ≠ [] /\ ys.length <= 60 then (Q1 n Θ sub hΓ a).map λ fa => QdX sub ys fa else none else none
  | .Call (.Name x _) (a :: as) [] _ => if Θ.gl x = true then (look x hΓ).bind λ r => (Qbl n Θ sub hΓ (a :: as)).map λ fs => Qi r.n r.den [] fs else none
  | .List es _ => (Qbl n Θ sub hΓ es).map Qae
  | _ => none
noncomputable def Qbl (n : Nat) (Θ : Th) (sub : Str -> Str -> Option Bool) (hΓ : List (Str × FnR)) (es : List Expr) : Option DA := match n with
 | 0 => none
 | n + 1 => match es with
  | [] => some Qc
  | e :: es => (Q1 n Θ sub hΓ e).bind λ fa => (Qbl n Θ sub hΓ es).map λ fs => Qb fa fs
end
theorem QgM {n : Nat} {Θ : Th} {sub : Str -> Str -> Option Bool} {hΓ : List (Str × FnR)} {e : Expr} {f : DE} (h : Q1 n Θ sub hΓ e = some f) (es : List Expr) (env : Env) : starEach (e :: es) env = (false, eval e env) :: starEach es env := by
 cases n with
 | zero => rw [Q1.eq_def] at h; cases h
 | succ n => cases e <;> first | rfl | (rw [Q1.eq_def] at h; cases h)
theorem Qjd : ∀ {n : Nat} {Θ : Th} {sub : Str -> Str -> Option Bool} {hΓ : List (Str × FnR)} {es : List Expr} {fs : DA}, Qbl n Θ sub hΓ es = some fs -> ∀ (pos : Pos) (env : Env), (backTo pos (starEach es env)).any (·.1) = false
 | 0, _, _, _, _, _, h, _, _ => by rw [Qbl.eq_def] at h; cases h
 | n + 1, _, _, _, [], _, h, _, _ => rfl
 | n + 1, _, _, _, e :: es, _, h, pos, env => by
  rw [Qbl.eq_def] at h
  dsimp only at h
  obtain ⟨fa, fs', h1, h2, _⟩ := Qz h
  rw [QgM h1]
  have := Qjd h2 pos env
  simpa [backTo] using this
theorem Qsw {X : Cx} {n : Nat} {Θ : Th} {sub : Str -> Str -> Option Bool} {hΓ : List (Str × FnR)} {a : Expr} {as : List Expr} {fs : DA} (h : Qbl n Θ sub hΓ (a :: as) = some fs) (pos : Pos) :
  starEach (a :: as) X.env = (false, eval a X.env) :: starEach as X.env /\ (backTo pos (starEach as X.env)).any (·.1) = false := by
 cases n with
 | zero => rw [Qbl.eq_def] at h; cases h
 | succ n =>
  rw [Qbl.eq_def] at h
  dsimp only at h
  obtain ⟨fa, fs', h1, h2, _⟩ := Qz h
  exact ⟨QgM h1 _ _, Qjd h2 pos X.env⟩
theorem Qow {n : Nat} {Θ : Th} {sub : Str -> Str -> Option Bool} {hΓ : List (Str × FnR)} {e : Expr} {f : DE} (h : Q1 n Θ sub hΓ e = some f) (op : CmpOp) : behindInMarks op e = false := by
 cases n with
 | zero => rw [Q1.eq_def] at h; cases h
 | succ n => cases e <;> first | (cases op <;> rfl) | (rw [Q1.eq_def] at h; cases h)
theorem QjA : ∀ {es : List Expr} {ys : List Str}, es.mapM Qds = some ys -> es.map Qds = ys.map some
 | [], ys, h => by cases h; rfl
 | e :: es, ys, h => by
  rw [Zbi] at h
  obtain ⟨y, h1, h⟩ := bind1 h
  obtain ⟨zs, h2, h⟩ := bind1 h
  cases h
  rw [Zt, Zt, h1, QjA h2]
structure Qs1 (n : Nat) : Prop where
 E : ∀ X Θ sub hΓ e f, CtxB X Θ -> Qa2 X.K sub -> QeV X hΓ -> Q1 n Θ sub hΓ e = some f -> SE X e f
 A : ∀ X Θ sub hΓ es f, CtxB X Θ -> Qa2 X.K sub -> QeV X hΓ -> Qbl n Θ sub hΓ es = some f -> SA X es f
theorem Qla : ∀ n, Qs1 n
 | 0 => ⟨λ _ _ _ _ _ _ _ _ _ h => (by rw [Q1.eq_def] at h; cases h), λ _ _ _ _ _ _ _ _ _ h => (by rw [Qbl.eq_def] at h; cases h)⟩
 | n + 1 => by
  have ih := Qla n
  refine ⟨λ X Θ sub hΓ e f ok hs hu h => ?_, λ X Θ sub hΓ es f ok hs hu h => ?_⟩
  ·rw [Q1.eq_def] at h
   dsimp only at h
   split at h
   ·obtain ⟨i, h1, rfl⟩ := Zb.mp h
    exact Qma (QhM ok h1)
   ·cases h; exact Qf2 Qob (λ _ _ => .Qbg) rfl
   ·cases h; exact Qf2 Qmh (λ _ _ => .str_mk) rfl
   ·obtain ⟨fa, h1, rfl⟩ := Zb.mp h
    exact Qmx (ih.E X Θ sub hΓ _ fa ok hs hu h1)
   ·exact Qgy (ih.E X Θ sub hΓ _ f ok hs hu h)
   ·obtain ⟨fa, fb, h1, h2, rfl⟩ := Qz h
    exact Qlq (ih.E X Θ sub hΓ _ fa ok hs hu h1) (ih.E X Θ sub hΓ _ fb ok hs hu h2)
   ·exact Qgy (ih.E X Θ sub hΓ _ f ok hs hu h)
   ·obtain ⟨fa, fb, h1, h2, rfl⟩ := Qz h
    exact Qoc (ih.E X Θ sub hΓ _ fa ok hs hu h1) (ih.E X Θ sub hΓ _ fb ok hs hu h2)
   ·obtain ⟨fa, fb, h1, h2, rfl⟩ := Qz h
    exact QiY (Qlx ok.units) Qoe (ih.E X Θ sub hΓ _ fa ok hs hu h1) (ih.E X Θ sub hΓ _ fb ok hs hu h2) (Qow h2 _)
   ·obtain ⟨fa, fb, h1, h2, rfl⟩ := Qz h
    exact QiY (QlZ ok.units) Qos (ih.E X Θ sub hΓ _ fa ok hs hu h1) (ih.E X Θ sub hΓ _ fb ok hs hu h2) (Qow h2 _)
   ·split at h
    ·rename_i hc
     obtain ⟨rfl, g1, g2⟩ := hc
     obtain ⟨fa, h1, rfl⟩ := Zb.mp h
     obtain ⟨a1, a2, a3⟩ := Qbh ok g1
     obtain ⟨b1, b2, b3⟩ := Qbh ok g2
     exact Qqb hs a1 (ok.mg _ (by decide +kernel)) b1 b2 (ih.E X Θ sub hΓ _ fa ok hs hu h1) (QgM h1 _ _)
    ·cases h
   ·split at h
    ·rename_i hc
     obtain ⟨rfl, g1⟩ := hc
     obtain ⟨ys, hy, h⟩ := bind1 h
     split at h
     ·rename_i hd
      obtain ⟨d1, d2, d3⟩ := hd
      obtain ⟨fa, h1, rfl⟩ := Zb.mp h
      obtain ⟨a1, a2, a3⟩ := Qbh ok g1
      exact Qp4 hs a1 (ok.mg _ (by decide +kernel)) d3 d2 (QjA hy) (λ y hy => by
       obtain ⟨b1, b2, b3⟩ := Qbh ok (ZW.mp d1 y hy)
       exact ⟨b1, b2⟩) (ih.E X Θ sub hΓ _ fa ok hs hu h1) (QgM h1 _ _)
     ·cases h
    ·cases h
   ·split at h
    ·rename_i hg
     obtain ⟨r, hr, h⟩ := bind1 h
     obtain ⟨fs, h1, rfl⟩ := Zb.mp h
     obtain ⟨a1, a2, a3⟩ := Qbh ok hg
     obtain ⟨k, f, fd, ps, F1, F2, F3, F4, F5⟩ := hu _ r hr
     obtain ⟨s1, s2⟩ := Qsw (X := X) h1 _
     exact QmW F1 F2 a1 F3 F4 F5 (ih.A X Θ sub hΓ _ fs ok hs hu h1) a2 s1 s2
    ·cases h
   ·obtain ⟨fs, h1, rfl⟩ := Zb.mp h
    exact Qmj (ih.A X Θ sub hΓ _ fs ok hs hu h1)
   ·cases h
  ·rw [Qbl.eq_def] at h
   dsimp only at h
   split at h
   ·cases h; exact QgA
   ·obtain ⟨fa, fs, h1, h2, rfl⟩ := Qz h
    exact Qef (ih.E X Θ sub hΓ _ fa ok hs hu h1) (ih.A X Θ sub hΓ _ fs ok hs hu h2) (QgM h1 _ _)
noncomputable def Qco (Θ : Th) (sub : Str -> Str -> Option Bool) (hΓ : List (Str × FnR)) : List Stmt -> Option DS
 | [] => some Qf
 | .Assign [.Name x _] e _ :: r => (Θ.Qcb x).bind λ i => if QfK e = false /\ Qdh e = true then (Q1 20 Θ sub hΓ e).bind λ fa => (Qco Θ sub hΓ r).map λ g => Qe (Qw i fa) g else none
 | .Return (some e) _ :: r => (Q1 20 Θ sub hΓ e).bind λ fa => (Qco Θ sub hΓ r).map λ g => Qe (QS fa) g
 | _ => none
theorem QcS {X : Cx} {Θ : Th} {sub : Str -> Str -> Option Bool} {hΓ : List (Str × FnR)} (ok : CtxB X Θ) (hs : Qa2 X.K sub) (hu : QeV X hΓ) : ∀ (sts : List Stmt) (f : DS), Qco Θ sub hΓ sts = some f -> SS X sts f
 | [], f, h => by rw [Qco] at h; cases h; exact QlN
 | st :: r, f, h => by
  have hN : X.N.Nodup := by rw [ok.N]; exact ok.nd
  rw [Qco.eq_def] at h
  split at h
  ·rename_i q; cases q
  ·rename_i x p e pos r' q
   cases q
   obtain ⟨i, hi, h⟩ := bind1 h
   split at h
   ·rename_i hc
    obtain ⟨fa, g, h1, h2, rfl⟩ := Qz h
    obtain ⟨a1, a2, a3⟩ := Qcc ok hi
    have he := (Qla 20).E X Θ sub hΓ _ fa ok hs hu h1
    exact Qhq (QgE λ H0 A0 => Qe2 hN a1 a2 (he H0 A0) (QcV hc.2) a3) (QcS ok hs hu r g h2)
   ·cases h
  ·rename_i e pos r' q
   cases q
   obtain ⟨fa, g, h1, h2, rfl⟩ := Qz h
   exact Qhq (Qlh ((Qla 20).E X Θ sub hΓ _ fa ok hs hu h1)) (QcS ok hs hu r g h2)
  ·cases h
noncomputable def Qd7 (Θ : Th) (sub : Str -> Str -> Option Bool) (hΓ : List (Str × FnR)) : List ExceptHandler -> Option (List Hd)
 | [] => some []
 | .ExceptHandler (some (.Name y _)) none (b :: bs) _ :: r => if Θ.gl y = true then (Qco Θ sub hΓ (b :: bs)).bind λ f => (Qd7 Θ sub hΓ r).map λ l => (y, none, f) :: l else none
 | .ExceptHandler (some (.Name y _)) (some nm) (b :: bs) _ :: r => if Θ.gl y = true /\ look nm Θ.sc = some .local then (Θ.Qcb nm).bind λ i => (Qco Θ sub hΓ (b :: bs)).bind λ f => (Qd7 Θ sub hΓ r).map λ l => (y, some i, f) :: l else none
 | _ => none
theorem Qi0 {X : Cx} {Θ : Th} {ea : Addr} (ok : CtxB X Θ) : CtxB (inH X ea) Θ := ⟨ok.N, ok.nd, ok.lc, ok.ce, ok.fe, ok.gl, ok.units, ok.mg, ok.cs⟩
theorem Qfe {X : Cx} {Θ : Th} {sub : Str -> Str -> Option Bool} {hΓ : List (Str × FnR)} (ok : CtxB X Θ) (hs : Qa2 X.K sub) (hu : QeV X hΓ) : ∀ (hds : List ExceptHandler) (hl : List Hd), Qd7 Θ sub hΓ hds = some hl -> Qff X hds hl
 | [], f, h => by rw [Qd7] at h; cases h; exact .nil
 | hd :: r, f, h => by
  rw [Qd7.eq_def] at h
  split at h
  ·rename_i q; cases q
  ·rename_i y np b bs pos r' q
   cases q
   split at h
   ·rename_i hc
    obtain ⟨g1, g2, _⟩ := Qbh ok hc
    obtain ⟨f, l, h1, h2, rfl⟩ := Qz h
    exact .bare g1 g2 (λ ea => QcS (Qi0 ok) hs hu.inH _ f h1) (Qfe ok hs hu r l h2)
   ·cases h
  ·rename_i y np nm b bs pos r' q
   cases q
   split at h
   ·rename_i hc
    obtain ⟨g1, g2, _⟩ := Qbh ok hc.1
    obtain ⟨i, hi, h⟩ := bind1 h
    obtain ⟨f, l, h1, h2, rfl⟩ := Qz h
    obtain ⟨a1, a2, a3⟩ := Qcc ok hi
    exact .as g1 g2 a1 (ok.lc nm hc.2) (λ ea => QcS (Qi0 ok) hs hu.inH _ f h1) (Qfe ok hs hu r l h2)
   ·cases h
  ·cases h
noncomputable def QnO (n : Nat) (Θ : Th) (ΘX : ThX) (sub : Str -> Str -> Option Bool) (hΓ : List (Str × FnR)) (st : Stmt) : Option DS := match st with
 | .Try body (h :: hs) [] [] _ => (Qaw n Θ body).bind λ f => (Qb4 n Θ ΘX body).bind λ fx => (Qd7 Θ sub hΓ (h :: hs)).map λ hl => QdD f fx sub hl
 | _ => none
theorem Qo9 {X : Cx} {Θ : Th} {xe : Value -> Shared -> Prop} {pn : List (Addr × Obj)} (ok : QF X Θ) (ht : ∀ st, Θ.tr st = none) (hp : PassesOwn (model X.prog X.w) X.A X.env xe) : QF (Cx.chg X xe pn) Θ :=
 ⟨⟨ok.N, ok.nd, ok.lc, ok.ce, ok.fe, ok.gl, ok.units, ok.mg, ok.cs⟩, ok.calm, hp, ok.fns, λ st f h => by rw [ht st] at h; cases h⟩
theorem Qpi {X : Cx} {Θ : Th} {ΘX : ThX} {sub : Str -> Str -> Option Bool} {hΓ : List (Str × FnR)} {n : Nat} {st : Stmt} {f : DS} (ok : QF X Θ) (ht : ∀ st, Θ.tr st = none) (xk : XOk X ΘX) (hs : Qa2 X.K sub) (hu : QeV X hΓ) (h : QnO n Θ ΘX sub hΓ st = some f) : S1 X st f := by
 unfold QnO at h
 split at h
 ·rename_i body h0 hds pos
  obtain ⟨fb, h1, h⟩ := bind1 h
  obtain ⟨fx, hl, h2, h3, rfl⟩ := Qz h
  have hN : X.N.Nodup := by rw [ok.N]; exact ok.nd
  refine QqX hN xk.ex xk.stk xk.fr hs.ok (λ xe pn hp => ?_) (Qfe ok.toCtxB hs hu _ hl h3)
  have ok' := Qo9 (pn := pn) ok ht hp
  have xk' : XOk (Cx.chg X xe pn) ΘX := ⟨xk.ex, xk.stk, xk.fr, xk.fx, xk.cl⟩
  exact ⟨(QfG n).Ss _ _ _ fb ok' h1, (Qky n).Xs _ _ _ _ fx ok' xk' h2⟩
 ·cases h
noncomputable def thT (n : Nat) (st : Stmt) (Γ : List (Str × FnR)) (cs : List (Str × Int)) (ΘX : ThX) (sub : Str -> Str -> Option Bool) (hΓ : List (Str × FnR)) : Th := { Qcm st Γ cs with tr := QnO n (Qcm st Γ cs) ΘX sub hΓ }
section
variable {P : Program} {w : World} {K : PySem.W.Frag} {mg : Str -> Option Value} {base : Heap}
theorem QjZ {h : Heap} {x : Str} {st : Stmt} {ps : List Str} {k n m : Nat} {Γ : List (Str × FnR)} {Γx : List (Str × (Nat × (List D -> Option Str)))} {cls : List Str} {cs : List (Str × Int)} {sub : Str -> Str -> Option Bool} {hΓ : List (Str × FnR)} {g : DS} (X : K.In h) (G : h.Ns mainGlobals mg) (F : Fact K x st) (S : QaJ (namesOf (Qd st)) ps (Qd st)) (B : QC x st ps) (M : QcP mg cs) (tab : QaZ P w K mg base k Γ) (tabx : Qc8 P w K mg base k Γx)
  (hcl : ∀ x ∈ cls, Qfk K x) (hs : Qa2 K sub) (tabh : Qc4 P w K mg base k hΓ) (hc : Qaw n (thT m st Γ cs ⟨Γx, cls⟩ sub hΓ) (QY st) = some g) : Known P w K mg base (k + 1) x ⟨ps.length, [], Qn (namesOf (Qd st)).length g⟩ := by
 obtain ⟨f, fd, Fn, a⟩ := F.ex
 refine ⟨f, fd, ps, ?_, Zaw X G a, Fn.kp, λ m hm => ⟨[], [], Fn.binds (B ·), .nil, λ H => by simp [Rps]⟩⟩
 refine Fn.ok S (Qg6 rfl) λ cdv A outer s H vs Q E hr h => ?_
 obtain ⟨ds, L, d, fr, rps, hl, hd, q⟩ := h
 have ok := Qlz (P := P) (w := w) (K := K) (base := base) (qual := x) (f := f) (outer := outer) (H := H) (E := E) S M tab hr
 have xk : XOk (Qb1 CX0 P w K mg base (namesOf (Qd st)) x (Qd st) f cdv A outer s H E).nox ⟨Γx, cls⟩ := ⟨rfl, rfl, rfl, λ z r e => by
  obtain ⟨f', fd', ps', h1, h2, h3, h4, h5⟩ := tabx z r e
  exact ⟨k, f', fd', ps', h1, hr, h2, h3, h4, h5⟩, hcl⟩
 have ok2 : QF (Qb1 CX0 P w K mg base (namesOf (Qd st)) x (Qd st) f cdv A outer s H E).nox (thT m st Γ cs ⟨Γx, cls⟩ sub hΓ) :=
  ⟨⟨ok.N, ok.nd, ok.lc, ok.ce, ok.fe, ok.gl, ok.units, ok.mg, ok.cs⟩, ok.calm, ok.pass, ok.fns, λ st' f' h' => Qpi ok (λ _ => rfl) xk hs (λ z r e => by
   obtain ⟨f', fd', ps', h1, h2⟩ := tabh z r e
   exact ⟨k, f', fd', ps', h1, QrN hr, h2⟩) h'⟩
 refine ⟨_, (QfG n).Ss _ _ _ g ok2 hc H L, ?_⟩
 obtain ⟨F0, rel⟩ := QdI (N := namesOf (Qd st)) rps
 unfold Qn at hd
 obtain ⟨o, ho, hd⟩ := bind1 hd
 refine ⟨_, [], F0, o, rel, ho, ?_⟩
 cases o with
 | nx ρ =>
  cases hd
  exact λ σ H' F' rel' => q .non H' [] ⟨rel'.same, .Qea, λ a ha => by simp at ha, λ _ => ⟨Zaf, rfl, λ a ha => by simp at ha⟩⟩
 | bk ρ => cases hd
 | ct ρ => cases hd
 | rt d' fr' =>
  cases hd
  exact λ v H' G r => q v H' G r
theorem Qp3 {h : Heap} {x : Str} {st : Stmt} {ps : List Str} {k : Nat} {cs : List (Str × Int)} {sub : Str -> Str -> Option Bool} {hΓ : List (Str × FnR)} {g : DS} (X : K.In h) (G : h.Ns mainGlobals mg) (F : Fact K x st) (S : QaJ (namesOf (Qd st)) ps (Qd st)) (B : QC x st ps) (M : QcP mg cs)
  (hs : Qa2 K sub) (tabh : Qc4 P w K mg base k hΓ) (hc : Qco (Qcm st [] cs) sub hΓ (QY st) = some g) : QdY P w K mg base (k + 1) x ⟨ps.length, [], Qn (namesOf (Qd st)).length g⟩ := by
 obtain ⟨f, fd, Fn, a⟩ := F.ex
 refine ⟨f, fd, ps, ?_, Zaw X G a, Fn.kp, Fn.binds (B ·)⟩
 refine Qpv Fn S (Qg6 rfl) λ cdv A outer s H vs Q E hr h => ?_
 obtain ⟨ds, L, d, fr, rps, hl, hd, q⟩ := h
 have ok : CtxB (Qb1 CX0 P w K mg base (namesOf (Qd st)) x (Qd st) f cdv A outer s H E).nox (Qcm st [] cs) :=
  ⟨rfl, S.nd, λ x h => by rw [Qaf] at h; exact h, λ x h => by rw [Qaf] at h; exact ⟨h, rfl⟩, λ x h => by rw [Qaf] at h; exact absurd rfl (S.nofree _ (ZN h)), λ x h => by rw [Qaf] at h; exact h, hr.units, M.bn, M.cs⟩
 refine ⟨_, QcS ok hs (λ z r e => by
   obtain ⟨f', fd', ps', h1, h2⟩ := tabh z r e
   exact ⟨k, f', fd', ps', h1, hr, h2⟩) _ g hc H L, ?_⟩
 obtain ⟨F0, rel⟩ := QdI (N := namesOf (Qd st)) rps
 unfold Qn at hd
 obtain ⟨o, ho, hd⟩ := bind1 hd
 refine ⟨_, [], F0, o, rel, ho, ?_⟩
 cases o with
 | nx ρ =>
  cases hd
  exact λ σ H' F' rel' => q .non H' [] ⟨rel'.same, .Qea, λ a ha => by simp at ha, λ _ => ⟨Zaf, rfl, λ a ha => by simp at ha⟩⟩
 | bk ρ => cases hd
 | ct ρ => cases hd
 | rt d' fr' =>
  cases hd
  exact λ v H' G r => q v H' G r
end
end HS
namespace HS
open PySem PySem.Spec L2 PyProof.Rows
section
variable {K : PySem.W.Frag} {x y : Str} {C C' : Addr} {v : Bool}
theorem QoK (a : PySem.W.nsIn K mainGlobals x = some (some (.ref C))) (b : PySem.W.excIn K C [.type "ValueError", .type "Exception", .type "BaseException", .type "object"] "ValueError.__new__" = true) : Qfk K x := ⟨⟨C, a, b⟩⟩
def XK1 (K : PySem.W.Frag) (x : Str) : Prop := ∃ C, ClsAt K x C /\ QdO K C
theorem Qk5 (a : PySem.W.nsIn K mainGlobals x = some (some (.ref C))) (h1 : PySem.W.isClsIn K C = true) (h2 : PySem.W.findIn K (.ref C) "__getattribute__" = some (some (.builtin "BaseException.__getattribute__"))) (h3 : PySem.W.findIn K (.ref C) "__getattr__" = some none)
  (h4 : PySem.W.findIn K (.ref C) "__class__" = some (some (.builtin "object.__class__"))) (h5 : PySem.W.mroIn K C (.type "object") = some true) (h6 : PySem.W.subIn K (.ref C) (.type "BaseException") = some true) : XK1 K x := ⟨C, a, h1, h2, h3, h4, h5, h6⟩
def Qih (K : PySem.W.Frag) (x y : Str) (b : Bool) : Prop := ∃ C c, ClsAt K x C /\ PySem.W.KtsName K y c /\ PySem.W.exmOne K (.ref C) c = some b /\ PySem.W.kitOne K (.ref C) c = some b
theorem Qay (a : PySem.W.nsIn K mainGlobals x = some (some (.ref C))) (b : PySem.W.nsIn K mainGlobals y = some (some (.ref C'))) (c : PySem.W.exmOne K (.ref C) (.ref C') = some v) (d : PySem.W.kitOne K (.ref C) (.ref C') = some v) : Qih K x y v := ⟨C, _, a, .inl b, c, d⟩
theorem QhJ (a : PySem.W.nsIn K mainGlobals x = some (some (.ref C))) (b : PySem.W.nsIn K mainGlobals "ValueError" = some none) (c : PySem.W.exmOne K (.ref C) (.type "ValueError") = some v) (d : PySem.W.kitOne K (.ref C) (.type "ValueError") = some v) : Qih K x "ValueError" v :=
 ⟨C, _, a, .inr ⟨b, PyProof.Rows.Boot.«ValueError», by decide⟩, c, d⟩
noncomputable def Qhx (K : PySem.W.Frag) (x : Str) : List (Str × Bool) -> Prop
 | [] => True
 | q :: r => Qih K x q.1 q.2 /\ Qhx K x r
noncomputable def SubL (K : PySem.W.Frag) : List (Str × List (Str × Bool)) -> Prop
 | [] => True
 | q :: r => (XK1 K q.1 /\ Qhx K q.1 q.2) /\ SubL K r
noncomputable def Qot (tab : List (Str × List (Str × Bool))) : Str -> Str -> Option Bool := λ x y => (look x tab).bind λ r => look y r
theorem Qf4 {α : Type} : ∀ {x : Str} {l : List (Str × α)} {a : α}, look x l = some a -> (x, a) ∈ l
 | x, [], a, h => by cases h
 | x, (y, b) :: r, a, h => by
  unfold look at h
  split at h
  ·rename_i e; cases h; subst e; exact Zh
  ·exact Zc _ (Qf4 h)
theorem Qhx.mem : ∀ {r : List (Str × Bool)}, Qhx K x r -> ∀ q ∈ r, Qih K x q.1 q.2
 | [], _, q, h => by simp at h
 | p :: r, h, q, hq => by
  rcases Zm.mp hq with rfl | hq
  ·exact h.1
  ·exact Qhx.mem h.2 q hq
theorem SubL.mem : ∀ {t : List (Str × List (Str × Bool))}, SubL K t -> ∀ q ∈ t, XK1 K q.1 /\ Qhx K q.1 q.2
 | [], _, q, h => by simp at h
 | p :: r, h, q, hq => by
  rcases Zm.mp hq with rfl | hq
  ·exact h.1
  ·exact SubL.mem h.2 q hq
theorem Qpg {tab : List (Str × List (Str × Bool))} (h : SubL K tab) : Qa2 K (Qot tab) := λ x y b e => by
 obtain ⟨r, h1, h2⟩ := bind1 e
 obtain ⟨⟨C, k1, k2⟩, k3⟩ := h.mem _ (Qf4 h1)
 obtain ⟨C', c, m1, m2, m3, m4⟩ := k3.mem _ (Qf4 h2)
 cases Qch k1 m1
 exact ⟨C, c, k1, m2, m3, m4, k2⟩
noncomputable def Qra (K : PySem.W.Frag) : List Str -> Prop
 | [] => True
 | x :: r => Qfk K x /\ Qra K r
theorem Qkm : ∀ {l : List Str}, Qra K l -> ∀ x ∈ l, Qfk K x
 | [], _, x, h => by simp at h
 | y :: l, h, x, hx => by
  rcases Zm.mp hx with rfl | hx
  ·exact h.1
  ·exact Qkm h.2 x hx
end
end HS
namespace HS
open PySem L2
noncomputable def pairD (p : Int × Int) : D := .tup [.int p.1, .int p.2]
noncomputable def Qm5 (p : Int × Int × Bool) : D := .tup [.int p.1, .int p.2.1, .bl p.2.2]
noncomputable def QrU (ns : List Int) : D := .lst (ns.map .int)
noncomputable def Qp (ps : List (Int × Int)) : D := .lst (ps.map pairD)
noncomputable def Qg (m : Int) (R L : List (Int × Int)) : D := .tup [.int m, Qp R, Qp L]
theorem QbI {α : Type} {f : α -> D} (h : ∀ a, (f a).flat = true) : ∀ l : List α, Qo (l.map f) = true
 | [] => rfl
 | a :: l => by simp [Qo, h a, QbI h l]
@[simp] theorem Qtb (i : Int) : (D.int i).flat = true := rfl
@[simp] theorem Qtk (i : Bool) : (D.bl i).flat = true := rfl
@[simp] theorem QsH : D.non.flat = true := rfl
@[simp] theorem QsR (x : Str) : (D.str x).flat = true := rfl
@[simp] theorem QsW (xs : List D) : (D.lst xs).flat = false := rfl
@[simp] theorem Qs4 (xs : List D) : (D.tup xs).flat = Qo xs := rfl
@[simp] theorem QsA : Qo [] = true := rfl
@[simp] theorem Qsz (d : D) (ds : List D) : Qo (d :: ds) = (d.flat && Qo ds) := rfl
@[simp] theorem QsB (p : Int × Int) : (pairD p).flat = true := rfl
@[simp] theorem Qs7 (p : Int × Int × Bool) : (Qm5 p).flat = true := rfl
@[simp] theorem QsE (ns : List Int) : (QrU ns).flat = false := rfl
@[simp] theorem Qr7 (ns : List (Int × Int)) : (Qp ns).flat = false := rfl
@[simp] theorem QrL (ps : List (Int × Int)) : Qo (ps.map pairD) = true := QbI (λ _ => rfl) _
@[simp] theorem QrQ (ps : List (Int × Int × Bool)) : Qo (ps.map Qm5) = true := QbI (λ _ => rfl) _
@[simp] theorem QkG (ns : List Int) : Qo (ns.map .int) = true := QbI (λ _ => rfl) _
@[simp] theorem QsD (xs ys : List D) : Qo (xs ++ ys) = (Qo xs && Qo ys) := Qdz xs ys
def Run (f : DS) (ρ : En) (Q : Out -> Prop) : Prop := ∃ o, f ρ = some o /\ Q o
noncomputable def Nx (Q : En -> Prop) : Out -> Prop
 | .nx ρ => Q ρ
 | _ => False
noncomputable def Rt (Q : D -> Bool -> Prop) : Out -> Prop
 | .rt d fr => Q d fr
 | _ => False
theorem Run.mono {f : DS} {ρ : En} {Q Q' : Out -> Prop} (h : Run f ρ Q) (m : ∀ o, Q o -> Q' o) : Run f ρ Q' := let ⟨o, h1, h2⟩ := h; ⟨o, h1, m o h2⟩
theorem Qu {ρ : En} {Q : Out -> Prop} (h : Q (.nx ρ)) : Run Qf ρ Q := ⟨_, rfl, h⟩
theorem run_seq {f g : DS} {ρ : En} {Q : Out -> Prop} (h : Run f ρ (Nx λ ρ' => Run g ρ' Q)) : Run (Qe f g) ρ Q := by
 obtain ⟨o, h1, h2⟩ := h
 cases o with
 | nx ρ' =>
  obtain ⟨o', h3, h4⟩ := h2
  exact ⟨o', by simp [Qe, h1, h3], h4⟩
 | _ => exact False.elim h2
theorem QL {f g : DS} {ρ : En} {Q : Out -> Prop} (h : Run f ρ λ o => match o with | .nx ρ' => Run g ρ' Q | o => Q o) : Run (Qe f g) ρ Q := by
 obtain ⟨o, h1, h2⟩ := h
 cases o with
 | nx ρ' =>
  obtain ⟨o', h3, h4⟩ := h2
  exact ⟨o', by simp [Qe, h1, h3], h4⟩
 | bk ρ' => exact ⟨_, by simp [Qe, h1], h2⟩
 | ct ρ' => exact ⟨_, by simp [Qe, h1], h2⟩
 | rt d fr => exact ⟨_, by simp [Qe, h1], h2⟩
theorem Qv {i : Nat} {fa : DE} {r : R} {ρ : En} {Q : Out -> Prop} (h : fa ρ = some r) (q : Q (.nx (asg i r ρ))) : Run (Qw i fa) ρ Q := ⟨_, by simp [Qw, h], q⟩
theorem Qdj {fa : DE} {r : R} {ρ : En} {Q : Out -> Prop} (h : fa ρ = some r) (q : Q (.rt r.d (r.norm.fr && decide r.norm.M.Nodup))) : Run (QS fa) ρ Q := ⟨_, by simp [QS, h], q⟩
theorem Qak {g : DT} {f1 f2 : DS} {b : Bool} {ρ : En} {Q : Out -> Prop} (h : g ρ = some b) (q1 : b = true -> Run f1 ρ Q) (q2 : b = false -> Run f2 ρ Q) : Run (sIf g f1 f2) ρ Q := by
 cases b with
 | true => obtain ⟨o, h1, h2⟩ := q1 rfl; exact ⟨o, by simp [sIf, h, h1], h2⟩
 | false => obtain ⟨o, h1, h2⟩ := q2 rfl; exact ⟨o, by simp [sIf, h, h1], h2⟩
theorem Qbb {k : Nat} {f : DS} {ds : List D} {d : D} {fr : Bool} (h : Run f (Qam k ds) (Rt λ d' fr' => d' = d /\ fr' = fr)) : Qn k f ds = some (d, fr) := by
 obtain ⟨o, h1, h2⟩ := h
 unfold Qn
 cases o with
 | rt d' fr' => obtain ⟨rfl, rfl⟩ := h2; rw [h1]; rfl
 | _ => exact False.elim h2
theorem Qi5 {α : Type} {t : Tg} {fb : DS} {toD : α -> D} {Q : Out -> Prop} (I : Nat -> En -> Prop) : ∀ (xs ys : List α) (ρ : En), I ys.length ρ →
  (∀ i x ρ, (ys ++ xs)[i]? = some x -> ys.length <= i -> I i ρ -> ∃ ρ1, QaQ t (toD x) ρ = some ρ1 /\ Run fb ρ1 λ o => match o with | .nx ρ2 => I (i + 1) ρ2 | .ct ρ2 => I (i + 1) ρ2 | .bk ρ2 => Q (.nx ρ2) | .rt d fr => Q (.rt d fr)) →
  (∀ ρ, I (ys ++ xs).length ρ -> Q (.nx ρ)) -> Run (QbR t fb (xs.map toD)) ρ Q
 | [], ys, ρ, h0, _, fin => ⟨_, rfl, fin ρ (by simpa using h0)⟩
 | x :: xs, ys, ρ, h0, turn, fin => by
  obtain ⟨ρ1, h1, o, h2, h3⟩ := turn ys.length x ρ (by simp) (Zj _) h0
  have next : ∀ ρ2, I (ys.length + 1) ρ2 -> Run (QbR t fb (xs.map toD)) ρ2 Q := λ ρ2 hi =>
   Qi5 I xs (ys ++ [x]) ρ2 (by simpa using hi) (λ i y ρ' e hl => turn i y ρ' (by simpa using e) (by simp at hl; omega)) (λ ρ' h => fin ρ' (by simpa using h))
  cases o with
  | nx ρ2 => obtain ⟨o', e1, e2⟩ := next ρ2 h3; exact ⟨o', by simp [QbR, h1, h2, e1], e2⟩
  | ct ρ2 => obtain ⟨o', e1, e2⟩ := next ρ2 h3; exact ⟨o', by simp [QbR, h1, h2, e1], e2⟩
  | bk ρ2 => exact ⟨_, by simp [QbR, h1, h2], h3⟩
  | rt d fr => exact ⟨_, by simp [QbR, h1, h2], h3⟩
theorem Qcg {α : Type} {fi : DI} {t : Tg} {fb : DS} {toD : α -> D} {ρ : En} {ir : IR} {Q : Out -> Prop} (xs : List α) (I : Nat -> En -> Prop) (h : fi ρ = some ir) (hx : ir.items = xs.map toD) (h0 : I 0 (QaL ir.M ρ))
  (turn : ∀ i x ρ, xs[i]? = some x -> I i ρ -> ∃ ρ1, QaQ t (toD x) ρ = some ρ1 /\ Run fb ρ1 λ o => match o with | .nx ρ2 => I (i + 1) ρ2 | .ct ρ2 => I (i + 1) ρ2 | .bk ρ2 => Q (.nx ρ2) | .rt d fr => Q (.rt d fr))
  (fin : ∀ ρ, I xs.length ρ -> Q (.nx ρ)) : Run (Qa4 fi t fb) ρ Q := by
 obtain ⟨o, h1, h2⟩ := Qi5 (t := t) (fb := fb) (toD := toD) (Q := Q) I xs [] (QaL ir.M ρ) h0 (λ i x ρ e _ => turn i x ρ (by simpa using e)) (λ ρ h => fin ρ (by simpa using h))
 exact ⟨o, by simp [Qa4, h, hx, h1], h2⟩
theorem QhW {α : Type} {t : Tg} {ft : DT} {fe : DE} {ρc : En} {toD : α -> D} {keep : α -> Bool} {out : α -> D} : ∀ (xs : List α) (acc : List D),
  (∀ x ∈ xs, ∃ ρ1, QaQ t (toD x) ρc = some ρ1 /\ ft ρ1 = some (keep x) /\ (keep x = true -> ∃ r, fe ρ1 = some r /\ r.d = out x /\ r.norm.fr = true)) →
  (xs.map toD).foldlM (QdG t ft fe ρc) (acc, true) = some (acc ++ (xs.filter keep).map out, true)
 | [], acc, _ => by simp
 | x :: xs, acc, h => by
  obtain ⟨ρ1, h1, h2, h3⟩ := h x Zh
  have ih := λ acc => QhW xs acc (λ y hy => h y (Zc _ hy))
  cases hk : keep x with
  | false =>
   have e : QdG t ft fe ρc (acc, true) (toD x) = some (acc, true) := by simp [QdG, h1, h2, hk]
   simp [Zbb, e, ih, hk]
  | true =>
   obtain ⟨r, h4, h5, h6⟩ := h3 hk
   have e : QdG t ft fe ρc (acc, true) (toD x) = some (acc ++ [out x], true) := by simp [QdG, h1, h2, hk, h4, h5, h6]
   simp [Zbb, e, ih, hk]
theorem Qfy {α : Type} {fi : DI} {t : Tg} {cap : List (Option Nat)} {ft : DT} {fe : DE} {ρ : En} {ir : IR} {toD : α -> D} {keep : α -> Bool} {out : α -> D} (xs : List α) (h : fi ρ = some ir) (hx : ir.items = xs.map toD)
  (turn : ∀ x ∈ xs, ∃ ρ1, QaQ t (toD x) (Qdd cap ρ) = some ρ1 /\ ft ρ1 = some (keep x) /\ (keep x = true -> ∃ r, fe ρ1 = some r /\ r.d = out x /\ r.norm.fr = true)) :
  Q2 fi t cap ft fe ρ = some ⟨.lst ((xs.filter keep).map out), true, []⟩ := by
 unfold Q2
 rw [h, Za, hx, QhW xs [] turn]
 simp
theorem Qce {α : Type} {fi : DI} {t : Tg} {cap : List (Option Nat)} {fe : DE} {ρ : En} {ir : IR} {toD : α -> D} {out : α -> D} (xs : List α) (h : fi ρ = some ir) (hx : ir.items = xs.map toD)
  (turn : ∀ x ∈ xs, ∃ ρ1, QaQ t (toD x) (Qdd cap ρ) = some ρ1 /\ ∃ r, fe ρ1 = some r /\ r.d = out x /\ r.norm.fr = true) :
  Q2 fi t cap Qca fe ρ = some ⟨.lst (xs.map out), true, []⟩ := by
 have := Qfy (keep := λ _ => true) (ft := Qca) xs h hx (cap := cap) (t := t) (fe := fe) (out := out) λ x hx => by
  obtain ⟨ρ1, h1, h2⟩ := turn x hx
  exact ⟨ρ1, h1, rfl, λ _ => h2⟩
 rw [this, List.filter_eq_self.mpr λ _ _ => rfl]
@[simp] theorem Qta (d : D) : R.norm ⟨d, true, []⟩ = ⟨d, true, []⟩ := by unfold R.norm; split <;> rfl
@[simp] theorem QD (i : Nat) (d : D) (ρ : En) : asg i ⟨d, true, []⟩ ρ = ρ.set i (some (d, true)) := by unfold asg; simp [kill]
theorem QnU {i : Nat} {d : D} {fr : Bool} {M : List Nat} {ρ : En} (h : d.flat = true) : asg i ⟨d, fr, M⟩ ρ = ρ.set i (some (d, true)) := by
 unfold asg R.norm; simp [h, kill]
theorem QgP {i : Nat} {ρ : En} {d : D} {b : Bool} (h : ρ[i]? = some (some (d, b))) : Qa i ρ = some (if d.flat then ⟨d, true, []⟩ else if b then ⟨d, true, [i]⟩ else ⟨d, false, []⟩) := by
 unfold Qa
 rw [h]
 dsimp only
 split
 ·simp_all
 ·split <;> simp_all
@[simp] theorem Qg3 (d : D) (ρ : En) : dC d ρ = some ⟨d, true, []⟩ := rfl
theorem Qbi {g : D -> D -> Option D} {fa fb : DE} {ρ : En} {ra rb : R} {d : D} (ha : fa ρ = some ra) (hb : fb ρ = some rb) (h : g ra.d rb.d = some d) : dOp g fa fb ρ = some ⟨d, true, []⟩ := by simp [dOp, ha, hb, h]
theorem Qm {fa : DE} {fs : DA} {ρ : En} {r : R} {rs : RA} (ha : fa ρ = some r) (hs : fs ρ = some rs) : Qb fa fs ρ = some ⟨r.d :: rs.ds, r.fr && rs.fr, r.M ++ rs.M⟩ := by simp [Qb, ha, hs]
@[simp] theorem QT (ρ : En) : Qc ρ = some ⟨[], true, []⟩ := rfl
noncomputable def vf (d : D) (b : Bool) (i : Nat) : R := if d.flat then ⟨d, true, []⟩ else if b then ⟨d, true, [i]⟩ else ⟨d, false, []⟩
@[simp] theorem Qto (d : D) (b : Bool) (i : Nat) : (vf d b i).d = d := by unfold vf; split; rfl; split <;> rfl
@[simp] theorem Qn9 (i j : Int) (h : 0 <= j) : Qfn i j = i % j := by unfold Qfn; rw [if_pos h]
@[simp] theorem Qn7 (i j : Int) (h : 0 <= j) : Qe4 i j = i / j := by unfold Qe4; rw [if_pos h]
theorem QfH {i j : Int} (h : i.natAbs < 2 ^ 64) : Qdc i j = true := by unfold Qdc; simp [h]
theorem QfE {i j : Int} (h : j.natAbs < 2 ^ 64) : Qdc i j = true := by unfold Qdc; simp [h]
theorem Qii : (sizeLine : Nat) = 16777216 := sizeLine_eq
noncomputable def Qj (m : Nat) (f : Nat -> Int) : D := .lst ((List.range m).map λ i => .int (f i))
noncomputable def QaU (m n : Nat) (f : Nat -> Nat -> Int) : D := .lst ((List.range m).map λ i => Qj n (f i))
@[simp] theorem QsK (m : Nat) (f : Nat -> Int) : (Qj m f).flat = false := rfl
@[simp] theorem Qtc (m n : Nat) (f : Nat -> Nat -> Int) : (QaU m n f).flat = false := rfl
@[simp] theorem QbK (m : Nat) (f : Nat -> Int) : Qo ((List.range m).map λ i => D.int (f i)) = true := QbI (f := λ i => D.int (f i)) (λ _ => rfl) _
noncomputable def up (f : Nat -> Int) (i : Nat) (v : Int) : Nat -> Int := λ j => if j = i then v else f j
noncomputable def up2 (f : Nat -> Nat -> Int) (i j : Nat) (v : Int) : Nat -> Nat -> Int := λ k => if k = i then up (f k) j v else f k
theorem Qd1 {n : Nat} {i : Int} (h0 : 0 <= i) (h : i < n) : ixN n i = some i.toNat := by
 unfold ixN; rw [if_pos (by omega), if_pos (by omega)]
theorem Qg8 {α : Type} {xs : List α} {i : Int} (h0 : 0 <= i) (h : i < xs.length) : atI xs i = xs[i.toNat]? := by
 unfold atI; rw [Qd1 h0 h]; rfl
theorem Qc3 {α : Type} {m : Nat} {f : Nat -> α} {i : Nat} {v : α} : ((List.range m).map f).set i v = (List.range m).map λ j => if j = i then v else f j := by
 apply List.ext_getElem?
 intro k
 rw [List.getElem?_set]
 simp only [Zs, ZV, Zx]
 by_cases hk : k < m
 ·rw [Zai hk]
  by_cases e : i = k
  ·subst e; simp [hk]
  ·simp [e, Ne.symm e]
 ·rw [Zz (by simp; omega)]
  by_cases e : i = k
  ·subst e; simp [hk]
  ·simp [e]
theorem Qj0 {m : Nat} {f : Nat -> Int} {i : Nat} {v : Int} : ((List.range m).map λ j => D.int (f j)).set i (.int v) = (List.range m).map λ j => D.int (up f i v j) := by
 rw [Qc3]
 congr 1; funext j; unfold up; split <;> rfl
theorem Qkd {m : Nat} {f : Nat -> Int} {i : Int} (h0 : 0 <= i) (h : i < m) : atI ((List.range m).map λ j => D.int (f j)) i = some (.int (f i.toNat)) := by
 rw [Qg8 h0 (by simpa using h), Zx, Zai (by omega)]; rfl
theorem Qkb {m n : Nat} {f : Nat -> Nat -> Int} {i : Int} (h0 : 0 <= i) (h : i < m) : atI ((List.range m).map λ j => Qj n (f j)) i = some (Qj n (f i.toNat)) := by
 rw [Qg8 h0 (by simpa using h), Zx, Zai (by omega)]; rfl
theorem Qm9 {x m : Nat} {f : Nat -> Int} {fi fa : DE} {ρ : En} {i : Int} {v : Int} {ri ra : R} {Q : Out -> Prop} (hx : ρ[x]? = some (some (Qj m f, true))) (hi : fi ρ = some ri) (ei : ri.d = .int i) (ha : fa ρ = some ra) (ea : ra.d = .int v) (h0 : 0 <= i) (h : i < m)
  (q : Q (.nx (ρ.set x (some (Qj m (up f i.toNat v), true))))) : Run (Qck x QaE fi fa) ρ Q := by
 refine ⟨_, ?_, q⟩
 have hn : ra.norm = ⟨.int v, true, []⟩ := by unfold R.norm; rw [ea]; rfl
 unfold Qck
 rw [ha, Za, hx]
 simp only [QaE, Za, hi, ei, QbB, Qj, Zs, ZV, Qd1 h0 h, hn, ea, QaP, Qj0]
 simp [kill]
theorem QjD {g : D -> D -> Option D} {x m n : Nat} {f : Nat -> Nat -> Int} {fp fi fa : DE} {ρ : En} {i j w : Int} {rp ri ra : R} {Q : Out -> Prop} (hx : ρ[x]? = some (some (QaU m n f, true))) (hp : fp ρ = some rp) (ep : rp.d = .int i) (hi : fi ρ = some ri) (ei : ri.d = .int j) (ha : fa ρ = some ra)
  (h0 : 0 <= i) (h : i < m) (k0 : 0 <= j) (k : j < n) (hg : g (.int (f i.toNat j.toNat)) ra.d = some (.int w)) (q : Q (.nx (ρ.set x (some (QaU m n (up2 f i.toNat j.toNat w), true))))) : Run (QdH g x (Qfv QaE fp) fi fa) ρ Q := by
 refine ⟨_, ?_, q⟩
 have hj : ((List.range n).map λ k => D.int (f i.toNat k))[j.toNat]? = some (.int (f i.toNat j.toNat)) := by rw [Zx, Zai (by omega)]; rfl
 have hd : QbB (QaU m n f) [i] = some (Qj n (f i.toNat)) := by
  simp only [QbB, QaU, D.items, Za, Qkb h0 h]
 have hu : QaP [i] (QaU m n f) (.lst (((List.range n).map λ k => D.int (f i.toNat k)).set j.toNat (.int w))) = QaU m n (up2 f i.toNat j.toNat w) := by
  simp only [QaP, QaU, Zs, ZV, Qd1 h0 h, Qj0]
  rw [Qc3]
  congr 2; funext k
  unfold up2
  split
  ·rename_i e; subst e; rfl
  ·rfl
 unfold QdH
 rw [hx]
 simp only [Qfv, QaE, Za, hp, ep, List.nil_append, hi, ei, hd, Qj, Zs, ZV, Qd1 k0 k, hj, ha, hg, ZP]
 rw [hu]
theorem Qew {fa : DE} {ρ : En} {r : R} {n : Nat} (h : fa ρ = some r) (e : r.d = .int n) (hn : n <= 16777216) : QbV fa ρ = some ⟨(List.range n).map λ (k : Nat) => .int (k : Int), []⟩ := by
 unfold QbV
 rw [h, Za, e]
 dsimp only
 rw [if_pos ⟨by omega, by omega⟩]
 simp [Qfa]
theorem Qho {α : Type} (x : α) : ∀ n : Nat, (List.replicate n [x]).flatten = (List.range n).map λ _ => x
 | 0 => rfl
 | n + 1 => by
  rw [ZQ, ZS, Qho x n, List.range_succ_eq_map, Zt, Zad]; rfl
theorem Qrw {fb : DE} {ρ : En} {r : R} {n : Nat} {z : Int} (h : fb ρ = some r) (e : r.d = .int n) (hn : n <= 16777216) : Qbf (Qae (Qb (dC (.int z)) Qc)) fb ρ = some ⟨Qj n (λ _ => z), true, []⟩ := by
 have h1 : Qae (Qb (dC (.int z)) Qc) ρ = some ⟨.lst [.int z], true, []⟩ := rfl
 unfold Qbf
 rw [h1, Za, h, Za, e]
 dsimp only
 rw [if_pos ⟨by simp [Qii]; omega, by omega, by omega, rfl⟩]
 simp only [ZR, Qho]
 rfl
noncomputable def QhH : DS := (Qe (Qw 2 (Q2 (QO (Qa 0)) (.tp [1, 2]) [none, none, none] Qca (Qa9 (Qb (Qa 1) (Qb (Qa 2) Qc))))) (Qe (Qw 3 (Q2 (QO (Qa 0)) (.tp [1, 2]) [none, none, none] Qca (Qa9 (Qb (Qa 2) (Qb (Qa 1) Qc))))) (Qe (QS (QN (QN (Qa 2) (Qa 3)) (dList (Qb (Qa 1) Qc)))) Qf)))
theorem Qj2 {fa fb : DE} {ρ : En} {ra rb : R} {A B : List (Int × Int)} (ha : fa ρ = some ra) (ea : ra.d = Qp A) (hb : fb ρ = some rb) (eb : rb.d = Qp B) (hl : A.length + B.length <= 16777216) : QN fa fb ρ = some ⟨Qp (A ++ B), true, []⟩ := by
 unfold QN
 rw [ha, Za, hb, Za, ea, eb]
 simp only [Qp, Zs, Qii, if_pos hl, Qav]
 simp
theorem Qnj {ρ : En} {A : List (Int × Int)} {fs : DA} {rs : RA} (h : fs ρ = some rs) (e : rs.ds = [Qp A]) (_ : True = True) : dList fs ρ = some ⟨Qp A, true, []⟩ := by
 unfold dList
 rw [h, Za, e]
 simp [Qp, Qav]
theorem Qaq {fa : DE} {r : R} {g : DS} {ρ : En} {Q : D -> Bool -> Prop} (h : fa ρ = some r) (q : Q r.d (r.norm.fr && decide r.norm.M.Nodup)) : Run (Qe (QS fa) g) ρ (Rt Q) := QL (Qdj h q)
theorem Ql3 {R L : List (Int × Int)} (hl : R.length + R.length + L.length <= 16777216) : Qn 4 QhH [Qp R, Qp L] = some (Qp (R ++ R.map Prod.swap ++ L), true) := by
 refine Qbb ?_
 refine run_seq (Qv (Qce (toD := pairD) (out := pairD) R rfl rfl λ x _ => ⟨[none, some (.int x.1, true), some (.int x.2, true)], rfl, ⟨pairD x, true, []⟩, rfl, rfl, rfl⟩) ?_)
 refine run_seq (Qv (Qce (toD := pairD) (out := λ x => pairD x.swap) R rfl rfl λ x _ => ⟨[none, some (.int x.1, true), some (.int x.2, true)], rfl, ⟨pairD x.swap, true, []⟩, rfl, rfl, rfl⟩) ?_)
 have e1 : (R.map λ x => pairD x.swap) = (R.map Prod.swap).map pairD := by simp [Zad, Function.comp_def]
 rw [e1]
 exact Qaq (Qj2 (Qj2 rfl rfl rfl rfl (by simpa using (by omega : R.length + R.length <= 16777216))) rfl (Qnj rfl rfl rfl) rfl (by simpa using hl)) ⟨rfl, rfl⟩
theorem QB {n : Nat} {den : Den} {dfl : List D} {fs : DA} {ρ : En} {r : RA} {d : D} (h : fs ρ = some r) (hd : den (r.ds ++ dfl) = some (d, true)) (hl : r.ds.length + dfl.length = n) : Qi n den dfl fs ρ = some ⟨d, true, []⟩ := by
 unfold Qi
 rw [h, Za, if_pos hl, hd]
 simp
theorem Qcy {fa : DE} {ρ : En} {r : R} {xs : List D} (h : fa ρ = some r) (e : r.d = .lst xs) : QO fa ρ = some ⟨xs, r.M⟩ := by
 unfold QO
 rw [h, Za, e]
noncomputable def stepT (m : Nat) (f : Nat -> Nat -> Int) (s : Int × Int) : Nat -> Nat -> Int :=
 let f1 := if s.1 < m then up2 f s.1.toNat s.1.toNat (f s.1.toNat s.1.toNat - 1) else f
 if s.1 < m /\ s.2 < m then up2 f1 s.1.toNat s.2.toNat (f1 s.1.toNat s.2.toNat + 1) else f1
noncomputable def QE (m : Nat) (S : List (Int × Int)) : Nat -> Nat -> Int := S.foldl (stepT m) λ _ _ => 0
noncomputable def Qdo (Qci : Den) : DS := (Qe (Qw 1 (Qei (Qs (Qa 0) (dC (.int 0))))) (Qe (Qw 2 (Q2 (QbV (Qa 1)) (.nm 1) [none, none, some 1] Qca (Qbf (Qae (Qb (dC (.int 0)) Qc)) (Qa 2)))) (Qe (Qa4 (QO (Qi 2 Qci [] (Qb (Qs (Qa 0) (dC (.int 1))) (Qb (Qs (Qa 0) (dC (.int 2))) Qc)))) (.tp [3, 4]) (Qe (sIf (Qt (dOp gLt (Qa 3) (Qa 1))) (Qe (QdH Qet 2 (Qfv QaE (Qa 3)) (Qa 3) (dC (.int 1))) Qf) Qf) (Qe (sIf (QhD (Qt (dOp gLt (Qa 3) (Qa 1))) (Qt (dOp gLt (Qa 4) (Qa 1)))) (Qe (QdH (gI λ i j => some (.int (i + j))) 2 (Qfv QaE (Qa 3)) (Qa 4) (dC (.int 1))) Qf) Qf) Qf))) (Qe (QS (Qa 2)) Qf))))
theorem Qnb {Qci : Den} {m : Nat} {R L S : List (Int × Int)} (hm : m <= 16777216) (hs : Qci [Qp R, Qp L] = some (Qp S, true)) (hS : ∀ s ∈ S, 0 <= s.1 /\ 0 <= s.2) : Qn 5 (Qdo Qci) [Qg m R L] = some (QaU m m (QE m S), true) := by
 refine Qbb ?_
 refine run_seq (Qv (r := ⟨.int m, false, []⟩) rfl ?_)
 refine run_seq (Qv (Qce (out := λ _ => Qj m λ _ => 0) (List.range m) (Qew (n := m) (r := ⟨.int m, true, []⟩) rfl rfl hm) rfl λ x _ => ⟨[none, some (.int x, true), some (.int m, true)], rfl, _, Qrw (r := ⟨.int m, true, []⟩) rfl rfl hm, rfl, rfl⟩) ?_)
 refine run_seq (Qcg (toD := pairD) S (λ i ρ => ∃ j1 j2, ρ = [some (Qg m R L, false), some (.int m, true), some (QaU m m (QE m (S.take i)), true), j1, j2]) (ir := ⟨S.map pairD, []⟩) ?_ rfl ⟨none, none, rfl⟩ ?_ ?_)
 ·exact Qcy (QB (r := ⟨[Qp R, Qp L], false, []⟩) (d := Qp S) rfl hs rfl) rfl
 ·rintro i s ρ hi ⟨j1, j2, rfl⟩
  refine ⟨_, rfl, ?_⟩
  obtain ⟨s1, s2⟩ := hS s (Zap hi)
  refine run_seq (f := sIf _ _ _) (Run.mono (Q := Nx λ ρ => ρ = [some (Qg m R L, false), some (.int m, true), some (QaU m m (if s.1 < m then up2 (QE m (S.take i)) s.1.toNat s.1.toNat (QE m (S.take i) s.1.toNat s.1.toNat - 1) else QE m (S.take i)), true), some (.int s.1, true), some (.int s.2, true)]) ?_ ?_)
  ·refine Qak (b := decide (s.1 < m)) rfl (λ h => ?_) (λ h => ?_)
   ·have h := of_decide_eq_true h
    rw [if_pos h]
    exact run_seq (QjD (i := s.1) (j := s.1) rfl rfl rfl rfl rfl rfl s1 h s1 h rfl (Qu rfl))
   ·have h := of_decide_eq_false h
    rw [if_neg h]
    exact Qu rfl
  ·intro o ho
   cases o with
   | nx ρ =>
    subst ho
    have fin : QE m (S.take (i + 1)) = stepT m (QE m (S.take i)) s := by
     unfold QE
     rw [List.take_add_one, hi, List.foldl_append]; rfl
    refine run_seq (f := sIf _ _ _) (Run.mono (Q := Nx λ ρ => ρ = [some (Qg m R L, false), some (.int m, true), some (QaU m m (stepT m (QE m (S.take i)) s), true), some (.int s.1, true), some (.int s.2, true)]) ?_ ?_)
    ·refine Qak (b := decide (s.1 < m /\ s.2 < m)) ?_ (λ h => ?_) (λ h => ?_)
     ·by_cases h : s.1 < (m : Int)
      ·simp [QhD, Qt, dOp, Qa, gLt, gI, D.tru, h]
      ·simp [QhD, Qt, dOp, Qa, gLt, gI, D.tru, h]
     ·have h := of_decide_eq_true h
      refine run_seq (QjD (i := s.1) (j := s.2) rfl rfl rfl rfl rfl rfl s1 h.1 s2 h.2 rfl (Qu ?_))
      unfold stepT
      rw [if_pos h]; rfl
     ·have h := of_decide_eq_false h
      refine Qu ?_
      unfold stepT
      rw [if_neg h]; rfl
    ·intro o ho
     cases o with
     | nx ρ =>
      subst ho
      exact Qu ⟨_, _, by rw [fin]⟩
     | _ => exact False.elim ho
   | _ => exact False.elim ho
 ·rintro ρ ⟨j1, j2, rfl⟩
  rw [Zbe]
  exact Qaq rfl ⟨rfl, rfl⟩
noncomputable def hit (i j : Nat) (s : Int × Int) : Int := (if s.1 = i /\ s.2 = j then 1 else 0) - (if s.1 = i /\ i = j then 1 else 0)
theorem Qj1 {f : Nat -> Nat -> Int} {a b : Nat} {v : Int} {i j : Nat} : up2 f a b v i j = if i = a /\ j = b then v else f i j := by
 unfold up2 up
 by_cases h1 : i = a
 ·by_cases h2 : j = b
  ·simp [h1, h2]
  ·simp [h1, h2]
 ·simp [h1]
theorem Qlm {m : Nat} {f : Nat -> Nat -> Int} {s : Int × Int} {i j : Nat} (hi : i < m) (hj : j < m) (h1 : 0 <= s.1) (h2 : 0 <= s.2) : stepT m f s i j = f i j + hit i j s := by
 unfold stepT hit
 have e1 : (s.1 = (i : Int)) ↔ (i = s.1.toNat) := by omega
 have e2 : (s.2 = (j : Int)) ↔ (j = s.2.toNat) := by omega
 simp only [e1, e2]
 by_cases c1 : s.1 < (m : Int)
 ·by_cases c2 : s.2 < (m : Int)
  ·simp only [c1, c2, and_self, if_true, Qj1]
   generalize s.1.toNat = a
   generalize s.2.toNat = b
   by_cases d1 : i = a
   ·subst d1
    by_cases d2 : j = b
    ·subst d2
     by_cases d3 : i = j
     ·subst d3; simp
     ·have d4 : ¬ j = i := λ z => d3 z.symm
      simp [d3, d4]
    ·by_cases d3 : i = j
     ·subst d3; simp [d2]; omega
     ·have d4 : ¬ j = i := λ z => d3 z.symm
      simp [d2, d3, d4]
   ·simp [d1]
  ·have d2 : ¬ (j = s.2.toNat) := by omega
   simp only [c1, c2, and_false, if_false, if_true, Qj1, d2]
   generalize s.1.toNat = a
   by_cases d1 : i = a
   ·subst d1
    by_cases d3 : i = j
    ·subst d3; simp; omega
    ·have d4 : ¬ j = i := λ z => d3 z.symm
     simp [d3, d4]
   ·simp [d1]
 ·have d1 : ¬ (i = s.1.toNat) := by omega
  simp [c1, d1]
theorem Qh0 {m : Nat} {i j : Nat} (hi : i < m) (hj : j < m) : ∀ (S : List (Int × Int)) (f : Nat -> Nat -> Int), (∀ s ∈ S, 0 <= s.1 /\ 0 <= s.2) -> S.foldl (stepT m) f i j = f i j + (S.map (hit i j)).sum
 | [], f, _ => by simp
 | s :: S, f, h => by
  obtain ⟨h1, h2⟩ := h s Zh
  rw [List.foldl_cons, Qh0 hi hj S _ (λ t ht => h t (Zc _ ht)), Qlm hi hj h1 h2, Zt, Zae]
  omega
theorem Qdw {m : Nat} {S : List (Int × Int)} {i j : Nat} (hi : i < m) (hj : j < m) (h : ∀ s ∈ S, 0 <= s.1 /\ 0 <= s.2) : QE m S i j = (S.map (hit i j)).sum := by
 unfold QE
 rw [Qh0 hi hj S _ h]; simp
noncomputable def isI (i : Nat) (a : Int) : Int := if a = i then 1 else 0
noncomputable def Qa7 (R L : List (Int × Int)) (i : Nat) : Int := (R.map λ r => isI i r.1 + isI i r.2).sum + (L.map λ l => isI i l.1).sum
theorem sum_neg (S : List (Int × Int)) (i : Nat) (h : ∀ s ∈ S, s.1 ≠ s.2) : (S.map (hit i i)).sum = - (S.map λ s => isI i s.1).sum := by
 induction S with
 | nil => rfl
 | cons s S ih =>
  rw [Zt, Zae, ih λ t ht => h t (Zc _ ht), Zt, Zae]
  have hn := h s Zh
  unfold hit isI
  by_cases e : s.1 = (i : Int)
  ·have : ¬ (s.2 = (i : Int)) := λ z => hn (e.trans z.symm)
   simp [e, this]; omega
  ·simp [e]
noncomputable def QQ (R L : List (Int × Int)) : List (Int × Int) := R ++ R.map Prod.swap ++ L
theorem Qh4 (R L : List (Int × Int)) (i : Nat) : ((QQ R L).map λ s => isI i s.1).sum = Qa7 R L i := by
 unfold QQ Qa7
 rw [Zaa, Zaa, ZaU, ZaU]
 have : (R.map λ r => isI i r.1 + isI i r.2).sum = (R.map λ s => isI i s.1).sum + ((R.map Prod.swap).map λ s => isI i s.1).sum := by
  induction R with
  | nil => rfl
  | cons r R ih => simp only [Zt, Zae, ih, Prod.fst_swap]; omega
 omega
def Good (m : Nat) (s : Int × Int) : Prop := 0 <= s.1 /\ 0 <= s.2 /\ s.1 <= m /\ s.2 <= m /\ s.1 ≠ s.2
theorem Qdb {m : Nat} {R L : List (Int × Int)} (hR : ∀ s ∈ R, Good m s) (hL : ∀ s ∈ L, Good m s) : ∀ s ∈ QQ R L, Good m s := λ s hs => by
 unfold QQ at hs
 rcases ZD.mp hs with hs | hs
 ·rcases ZD.mp hs with hs | hs
  ·exact hR s hs
  ·obtain ⟨t, ht, rfl⟩ := ZH.mp hs
   obtain ⟨h1, h2, h3, h4, h5⟩ := hR t ht
   exact ⟨h2, h1, h4, h3, λ z => h5 z.symm⟩
 ·exact hL s hs
def QeT (d : Den) : Prop := ∀ (m : Nat) (R L : List (Int × Int)), m <= 1000 -> R.length + R.length + L.length <= 1000000 -> (∀ s ∈ R, Good m s) -> (∀ s ∈ L, Good m s) -> d [Qg m R L] = some (QaU m m (QE m (QQ R L)), true)
theorem Qo5 : QeT (Qn 5 (Qdo (Qn 4 QhH))) := λ m R L hm hl hR hL => by
 refine Qnb (by omega) (Ql3 (by omega)) λ s hs => ?_
 obtain ⟨h1, h2, _⟩ := Qdb hR hL s hs
 exact ⟨h1, h2⟩
noncomputable def QdV (QR : Den) : DS := (Qe (QS (Q2 (Qgh (Qi 1 QR [] (Qb (Qa 0) Qc))) (.tp [1, 2]) [none, none, none] Qca (dOp Qet (dC (.int 0)) (Qs (Qa 2) (Qa 1))))) Qf)
theorem QkY {α : Type} (m : Nat) (f : Nat -> D) : Qde ((List.range m).map f) = (List.range m).map λ i => .tup [.int i, f i] := by
 apply List.ext_getElem?
 intro k
 unfold Qde
 simp only [Zx, List.getElem?_zipIdx, Nat.zero_add]
 by_cases hk : k < m
 ·rw [Zai hk]; rfl
 ·rw [Zz (by simp; omega)]; rfl
theorem Qnf {d : Den} (hd : QeT d) {m : Nat} {R L : List (Int × Int)} (hm : m <= 1000) (hl : R.length + R.length + L.length <= 1000000) (hR : ∀ s ∈ R, Good m s) (hL : ∀ s ∈ L, Good m s) : Qn 1 (QdV d) [Qg m R L] = some (Qj m (Qa7 R L), true) := by
 refine Qbb ?_
 refine Qaq (Qce (toD := λ (i : Nat) => .tup [.int i, Qj m (QE m (QQ R L) i)]) (out := λ (i : Nat) => .int (Qa7 R L i)) (ir := ⟨Qde ((List.range m).map λ i => Qj m (QE m (QQ R L) i)), []⟩) (List.range m) ?_ ?_ λ i hi => ?_) ⟨rfl, rfl⟩
 ·unfold Qgh
  rw [QB (n := 1) (fs := Qb (Qa 0) Qc) (ρ := Qam 1 [Qg m R L]) (dfl := []) (r := ⟨[Qg m R L], false, []⟩) rfl (hd m R L hm hl hR hL) rfl]; rfl
 ·exact QkY (α := Nat) m _
 ·have hi := ZX.mp hi
  refine ⟨[none, some (.int i, true), some (Qj m (QE m (QQ R L) i), false)], rfl, ⟨.int (0 - QE m (QQ R L) i i), true, []⟩, ?_, ?_, rfl⟩
  ·have e : Qs (Qa 2) (Qa 1) [none, some (.int (i : Int), true), some (Qj m (QE m (QQ R L) i), false)] = some ⟨.int (QE m (QQ R L) i i), true, []⟩ := by
    show ((D.items (Qj m (QE m (QQ R L) i))).bind λ xs => (atI xs (i : Int)).map λ d => (HS.R.norm ⟨d, false, []⟩)) = _
    unfold Qj
    rw [show D.items (.lst ((List.range m).map λ j => D.int (QE m (QQ R L) i j))) = some ((List.range m).map λ j => D.int (QE m (QQ R L) i j)) from rfl, Za, Qkd (by omega) (by omega)]
    rfl
   exact Qbi (rfl) e rfl
  ·have g := Qdb hR hL
   rw [Qdw hi hi λ s hs => ⟨(g s hs).1, (g s hs).2.1⟩, sum_neg _ i λ s hs => (g s hs).2.2.2.2, Qh4]
   show D.int (0 - -(Qa7 R L i)) = _
   rw [show (0 : Int) - -(Qa7 R L i) = Qa7 R L i by omega]
theorem Qhi (a b : Int) : deq (.int a) (.int b) = decide (a = b) := by
 show PyData.eqv (.int a) (.int b) = _
 unfold PyData.eqv
 exact Bool.beq_eq_decide_eq a b
theorem Qi4 {fa fb : DE} {ρ : En} {ra rb : R} {a b : Int} (ha : fa ρ = some ra) (ea : ra.d = .int a) (hb : fb ρ = some rb) (eb : rb.d = .int b) : dOp gEq fa fb ρ = some ⟨.bl (decide (a = b)), true, []⟩ := by
 refine Qbi ha hb ?_
 rw [ea, eb]
 show some (D.bl (deq (.int a) (.int b))) = _
 rw [Qhi]
theorem Qgx {fa fb : DE} {ρ : En} {ra rb : R} {a b : Int} (ha : fa ρ = some ra) (ea : ra.d = .int a) (hb : fb ρ = some rb) (eb : rb.d = .int b) : dOp gNe fa fb ρ = some ⟨.bl (!decide (a = b)), true, []⟩ := by
 refine Qbi ha hb ?_
 rw [ea, eb]
 show some (D.bl (!deq (.int a) (.int b))) = _
 rw [Qhi]
theorem Qfb {fa fb : DE} {ρ : En} {a b : Bool} (ha : fa ρ = some ⟨.bl a, true, []⟩) (hb : fb ρ = some ⟨.bl b, true, []⟩) : QdE fa fb ρ = some ⟨.bl (a && b), true, []⟩ := by
 unfold QdE
 rw [ha]
 cases a <;> simp [D.tru, hb]
theorem QaA {fa : DE} {ρ : En} {r : R} {b : Bool} (ha : fa ρ = some r) (e : r.d = .bl b) : Qt fa ρ = some b := by
 unfold Qt
 rw [ha, Za, e]; rfl
theorem Qe6 {g : DT} {ρ : En} {b : Bool} (h : g ρ = some b) : Qdp g ρ = some (!b) := by unfold Qdp; rw [h]; rfl
theorem QcT {fa fb : DE} {ρ : En} {ra rb : R} {a b : Int} (ha : fa ρ = some ra) (ea : ra.d = .int a) (hb : fb ρ = some rb) (eb : rb.d = .int b) (h : Qdc a b = true) : Qbf fa fb ρ = some ⟨.int (a * b), true, []⟩ := by
 unfold Qbf
 rw [ha, Za, hb, Za, ea, eb]
 simp [h]
theorem Qal {fa fb : DE} {ρ : En} {ra rb : R} {a b : Int} (ha : fa ρ = some ra) (ea : ra.d = .int a) (hb : fb ρ = some rb) (eb : rb.d = .int b) : QN fa fb ρ = some ⟨.int (a + b), true, []⟩ := by
 unfold QN
 rw [ha, Za, hb, Za, ea, eb]
theorem Q8 {fa fb : DE} {ρ : En} {ra rb : R} {a b : Int} (ha : fa ρ = some ra) (ea : ra.d = .int a) (hb : fb ρ = some rb) (eb : rb.d = .int b) (h : 0 < b) : dOp Qaa fa fb ρ = some ⟨.int (a % b), true, []⟩ := by
 refine Qbi ha hb ?_
 rw [ea, eb]
 show (if b ≠ 0 then some (D.int (Qfn a b)) else none) = _
 rw [if_pos (by omega), Qn9 _ _ (by omega)]
theorem QdC {fa fb : DE} {ρ : En} {ra rb : R} {a b : Int} (ha : fa ρ = some ra) (ea : ra.d = .int a) (hb : fb ρ = some rb) (eb : rb.d = .int b) (h : 0 < b) (h2 : b < 2 ^ 64) : dOp QcD fa fb ρ = some ⟨.int (a / b), true, []⟩ := by
 refine Qbi ha hb ?_
 rw [ea, eb]
 have : Qem b = true := by
  unfold Qem
  have h3 : b.natAbs < 2 ^ 8000 := Zo (by omega : b.natAbs < 2 ^ 64) (ZaO (by decide) (by decide))
  simp only [Zf, decide_eq_true_eq]
  exact ⟨by omega, h3⟩
 show (if Qem b = true then some (D.int (Qe4 a b)) else none) = _
 rw [if_pos this, Qn7 _ _ (by omega)]
theorem Qpy {fa fb : DE} {ρ : En} {ra rb : R} {m : Nat} {f : Nat -> Int} {i : Int} (ha : fa ρ = some ra) (ea : ra.d = Qj m f) (hb : fb ρ = some rb) (eb : rb.d = .int i) (h0 : 0 <= i) (h : i < m) : Qs fa fb ρ = some ⟨.int (f i.toNat), true, []⟩ := by
 unfold Qs
 rw [ha, Za, hb, Za, ea, eb]
 simp only [Qj, D.items, Za, Qkd h0 h, ZP]
 rfl
theorem QpB {fa fb : DE} {ρ : En} {ra rb : R} {ns : List Int} {i : Int} {v : Int} (ha : fa ρ = some ra) (ea : ra.d = .lst (ns.map .int)) (hb : fb ρ = some rb) (eb : rb.d = .int i) (h0 : 0 <= i) (h : ns[i.toNat]? = some v) : Qs fa fb ρ = some ⟨.int v, true, []⟩ := by
 have hl : i < ns.length := by have := (Zi.mp h).1; omega
 unfold Qs
 rw [ha, Za, hb, Za, ea, eb]
 simp only [D.items, Za]
 rw [Qg8 h0 (by simpa using hl), Zx, h]
 rfl
noncomputable def Qej : DS := (Qe (sIf (Qt (dOp gLt (Qa 1) (dBf QcF (Qb (Qa 0) Qc)))) (Qe (QS (Qs (Qa 0) (Qa 1))) Qf) Qf) (Qe (QS (dC (.int 0))) Qf))
def Qfm (d : Den) : Prop := ∀ (ns : List Int) (k : Nat), d [.lst (ns.map .int), .int k] = some (.int (ns.getD k 0), true)
theorem QoT : Qfm (Qn 2 Qej) := λ ns k => by
 refine Qbb ?_
 refine QL (Qak (b := decide ((k : Int) < ns.length)) ?_ (λ h => ?_) (λ h => ?_))
 ·refine QaA (r := ⟨.bl (decide ((k : Int) < ns.length)), true, []⟩) (Qbi (ra := ⟨.int k, true, []⟩) (rb := ⟨.int ns.length, true, []⟩) rfl ?_ rfl) rfl
  show some (HS.R.mk (.int ((ns.map D.int).length : Int)) true []) = _
  rw [Zs]
 ·have h := of_decide_eq_true h
  have hk : k < ns.length := by omega
  have e : ns[k]? = some (ns.getD k 0) := by rw [ZY, ZaZ hk]; rfl
  exact QL (Qdj (QpB (ns := ns) (i := k) rfl rfl rfl rfl (by omega) (by simpa using e)) ⟨rfl, rfl⟩)
 ·have h := of_decide_eq_false h
  have e : ns.getD k 0 = 0 := by rw [ZY, Zz (by omega)]; rfl
  rw [e]
  exact Qu (Qaq rfl ⟨rfl, rfl⟩)
noncomputable def QaO (t k : Int) : Int := (t + 17) * (k * k + 7 * k + 11) * 69621 % 2147483647
noncomputable def Qc2 (m t k : Int) : Int := if QaO t k % (k + 1) < k then (QaO t k % (k + 1) + t) % m else m
noncomputable def Qc5 (m t kind : Int) (k : Int) : Int × Int × Bool := ((k + t) % m, Qc2 m t k, decide (kind = 2) || (decide (kind = 3) && decide (QaO t k / 64 % 2 = 1)))
noncomputable def QaX (m : Nat) (t kind : Int) : List (Int × Int × Bool) := (List.range m).map λ (k : Nat) => Qc5 m t kind k
def GoodW (m : Nat) (w : Int × Int × Bool) : Prop := Good m (w.1, w.2.1) /\ (w.2.2 = true -> w.1 < m)
noncomputable def Qsp (W : List (Int × Int × Bool)) : D := .lst (W.map Qm5)
@[simp] theorem Qr2 (W : List (Int × Int × Bool)) : (Qsp W).flat = false := rfl
theorem Qmc {a x n : Int} (h1 : 0 < x) (h2 : x < n) : (a + x) % n ≠ a % n := λ h => by
 have h3 : (a + x - a) % n = 0 := Int.emod_eq_emod_iff_emod_sub_eq_zero.mp h
 rw [show a + x - a = x by omega, ZaY (by omega) h2] at h3
 omega
theorem Qmy {m : Nat} {t kind : Int} {k : Nat} (hk : k < m) : GoodW m (Qc5 m t kind k) := by
 have hm : (0 : Int) < m := by omega
 have h1 := ZC ((k : Int) + t) (by omega : (m : Int) ≠ 0)
 have h2 := ZE ((k : Int) + t) hm
 unfold Qc5 Qc2
 split
 ·rename_i hlt
  have h3 := ZC (QaO t k) (by omega : ((k : Int) + 1) ≠ 0)
  have h4 := ZC (QaO t k % (k + 1) + t) (by omega : (m : Int) ≠ 0)
  have h5 := ZE (QaO t k % (k + 1) + t) hm
  refine ⟨⟨h1, h4, by dsimp only; omega, by dsimp only; omega, ?_⟩, λ _ => by dsimp only; omega⟩
  dsimp only
  have h6 := Qmc (a := QaO t k % (k + 1) + t) (x := k - QaO t k % (k + 1)) (n := m) (by omega) (by omega)
  rw [show QaO t k % (k + 1) + t + (k - QaO t k % (k + 1)) = k + t by omega] at h6
  exact h6
 ·exact ⟨⟨h1, by dsimp only; omega, by dsimp only; omega, by dsimp only; omega, by dsimp only; omega⟩, λ _ => by dsimp only; omega⟩
theorem QjX {x : Nat} {fa : DE} {ρ : En} {r : R} {xs : List D} {Q : Out -> Prop} (hx : ρ[x]? = some (some (.lst xs, true))) (ha : fa ρ = some r) (hf : r.d.flat = true) (hl : xs.length < 16777216) (q : Q (.nx (ρ.set x (some (.lst (xs ++ [r.d]), true))))) : Run (Qdq x QaE fa) ρ Q := by
 refine ⟨_, ?_, q⟩
 have hn : r.norm = ⟨r.d, true, []⟩ := by unfold HS.R.norm; rw [if_pos hf]
 unfold Qdq
 rw [hx]
 simp only [QaE, Za, ha, QbB, Qil, hn, QaP, kill, Qii]
 simp [hl]
theorem Run.nx {f : DS} {ρ : En} {Q Q' : En -> Prop} (h : Run f ρ (Nx Q)) (m : ∀ ρ, Q ρ -> Q' ρ) : Run f ρ (Nx Q') := h.mono λ o ho => by
 cases o with
 | nx ρ => exact m ρ ho
 | _ => exact ho.elim
theorem QcL {f g : DS} {ρ : En} {P : En -> Prop} {Q : Out -> Prop} (h : Run f ρ (Nx P)) (k : ∀ ρ', P ρ' -> Run g ρ' Q) : Run (Qe f g) ρ Q := run_seq (h.nx k)
noncomputable def Qb0 (c : Int) : Int := c * 48271 % 2147483647
noncomputable def mStart (m c : Int) : Int := Qb0 c % (m + 1)
noncomputable def Qny (m c : Int) : Int := (mStart m c + 1 + Qb0 c / 9 % m) % (m + 1)
noncomputable def Qcn (m kind c : Int) : Int × Int × Bool := (mStart m c, Qny m c, decide (mStart m c < m) && (decide (kind = 2) || (decide (kind = 3) && decide (Qb0 c / 72 % 3 = 1))))
theorem QlC {m : Nat} (hm : 0 < m) (kind c : Int) : GoodW m (Qcn m kind c) := by
 have h1 := ZC (Qb0 c) (by omega : (m : Int) + 1 ≠ 0)
 have h2 := ZE (Qb0 c) (by omega : (0 : Int) < m + 1)
 have h3 := ZC (Qb0 c / 9) (by omega : (m : Int) ≠ 0)
 have h4 := ZE (Qb0 c / 9) (by omega : (0 : Int) < m)
 have h5 := ZC (mStart m c + 1 + Qb0 c / 9 % m) (by omega : (m : Int) + 1 ≠ 0)
 have h6 := ZE (mStart m c + 1 + Qb0 c / 9 % m) (by omega : (0 : Int) < m + 1)
 have h7 := Qmc (a := mStart m c) (x := 1 + Qb0 c / 9 % m) (n := (m : Int) + 1) (by omega) (by omega)
 rw [← Int.add_assoc, show mStart m c % ((m : Int) + 1) = mStart m c from ZaY h1 h2] at h7
 refine ⟨⟨h1, h5, ?_, ?_, λ z => h7 z.symm⟩, λ h => ?_⟩
 ·show mStart m c <= m; unfold mStart; omega
 ·show Qny m c <= m; unfold Qny; omega
 ·have : (Qcn m kind c).2.2 = (decide (mStart m c < m) && (decide (kind = 2) || (decide (kind = 3) && decide (Qb0 c / 72 % 3 = 1)))) := rfl
  rw [this, Zf, decide_eq_true_eq] at h
  exact h.1
noncomputable def Qbn (w : Int × Int × Bool) : Int × Int := (if w.2.1 < w.1 then w.2.1 else w.1, if w.2.1 > w.1 then w.2.1 else w.1)
noncomputable def Qa1 (w : Int × Int × Bool) : Int × Int := (w.1, w.2.1)
noncomputable def Qcf (W : List (Int × Int × Bool)) : List (Int × Int) := (W.filter λ w => !w.2.2).map Qbn
noncomputable def Qcz (W : List (Int × Int × Bool)) : List (Int × Int) := (W.filter λ w => w.2.2).map Qa1
theorem Qev {m : Nat} {W : List (Int × Int × Bool)} (h : ∀ w ∈ W, GoodW m w) : ∀ s ∈ Qcf W, Good m s /\ s.1 < s.2 := λ s hs => by
 obtain ⟨w, hw, rfl⟩ := ZH.mp hs
 obtain ⟨⟨h1, h2, h3, h4, h5⟩, _⟩ := h w (ZZ.mp hw).1
 simp only at h1 h2 h3 h4 h5
 unfold Qbn Good
 simp only
 split <;> split <;> omega
theorem Qeo {m : Nat} {W : List (Int × Int × Bool)} (h : ∀ w ∈ W, GoodW m w) : ∀ s ∈ Qcz W, Good m s /\ s.1 < m := λ s hs => by
 obtain ⟨w, hw, rfl⟩ := ZH.mp hs
 obtain ⟨h1, h2⟩ := h w (ZZ.mp hw).1
 exact ⟨h1, h2 (by simpa using (ZZ.mp hw).2)⟩
theorem Qh2 (W : List (Int × Int × Bool)) : (Qcf W).length <= W.length := by unfold Qcf; rw [Zs]; exact List.length_filter_le _ _
theorem Qh3 (W : List (Int × Int × Bool)) : (Qcz W).length <= W.length := by unfold Qcz; rw [Zs]; exact List.length_filter_le _ _
structure Qqq (m : Nat) (t kind : Int) (R L : List (Int × Int)) : Prop where
 ex : ∃ W, (∀ w ∈ QaX m t kind, w ∈ W) /\ (∀ w ∈ W, GoodW m w) /\ W.length <= 100 /\ R = Qcf W /\ L = Qcz W
theorem Qqq.good {m : Nat} {t kind : Int} {R L : List (Int × Int)} (h : Qqq m t kind R L) : (∀ s ∈ R, Good m s) /\ (∀ s ∈ L, Good m s) /\ R.length <= 100 /\ L.length <= 100 := by
 obtain ⟨W, _, h2, h3, rfl, rfl⟩ := h.ex
 exact ⟨λ s hs => (Qev h2 s hs).1, λ s hs => (Qeo h2 s hs).1, Zv (Qh2 W) h3, Zv (Qh3 W) h3⟩
theorem QnH {fa : DE} {ρ : En} {r : R} {ns : List Int} {a b : Int} (h : fa ρ = some r) (e : r.d = .lst (ns.map .int)) : ∃ cs : List Int, cs.length <= ns.length /\ QbA fa (QaR (dC (.int a))) (QaR (dC (.int b))) ρ = some ⟨.lst (cs.map .int), true, []⟩ := by
 refine ⟨(ns.drop (HT.sIx ns.length 0 (some a))).take (HT.sIx ns.length ns.length (some b) - HT.sIx ns.length 0 (some a)), by rw [Zaj, Zat]; omega, ?_⟩
 unfold QbA QaR
 rw [h, Za, e]
 simp only [Qg3, Za, cutD, Qav, Zs, ← List.map_drop, ← List.map_take, QkG, if_true]
theorem QnV {m : Nat} {t kind : Int} : ∀ w ∈ QaX m t kind, GoodW m w := λ w hw => by
 obtain ⟨k, hk, rfl⟩ := ZH.mp hw
 exact Qmy (ZX.mp hk)
theorem QiI (m : Nat) (t kind : Int) : (QaX m t kind).length = m := by simp [QaX]
theorem QfJ {fa : DE} {ρ : En} {r : R} {m : Int} {R L : List (Int × Int)} (h : fa ρ = some r) (e : r.d = Qg m R L) :
  Qs fa (dC (.int 0)) ρ = some ⟨.int m, true, []⟩ /\ Qs fa (dC (.int 1)) ρ = some ⟨Qp R, r.fr, r.M⟩ /\ Qs fa (dC (.int 2)) ρ = some ⟨Qp L, r.fr, r.M⟩ := by
 unfold Qs
 rw [h]
 simp only [Za, e, Qg3]
 exact ⟨rfl, rfl, rfl⟩
theorem Qfp {fa : DE} {ρ : En} {r : R} {xs : List D} (h : fa ρ = some r) (e : r.d = .lst xs) : dBf QcF (Qb fa Qc) ρ = some ⟨.int xs.length, true, []⟩ := by
 unfold dBf
 rw [Qm h (QT _), Za]
 simp [e, QcF]
def Qi8 (d : Den) : Prop := ∀ (m : Nat) (R L : List (Int × Int)), m <= 1000 -> R.length + R.length + L.length <= 1000000 -> (∀ s ∈ R, Good m s) -> (∀ s ∈ L, Good m s) -> d [Qg m R L] = some (Qj m (Qa7 R L), true)
theorem Qo2 {d : Den} (h : QeT d) : Qi8 (Qn 1 (QdV d)) := λ m R L h1 h2 h3 h4 => Qnf h h1 h2 h3 h4
def Esc (m : Nat) (W : List (Int × Int × Bool)) : Prop := ∀ A : Nat -> Prop, (∃ p, p < m /\ A p) -> ∃ w ∈ W, w.1 < m /\ A w.1.toNat /\ (w.2.1 = m ∨ ¬ A w.2.1.toNat)
theorem Esc.mono {m : Nat} {W W' : List (Int × Int × Bool)} (h : Esc m W) (s : ∀ w ∈ W, w ∈ W') : Esc m W' := λ A hA => let ⟨w, hw, r⟩ := h A hA; ⟨w, s w hw, r⟩
def Qno (m : Nat) (O : List Int) (w : Int × Int × Bool) (j : Nat) : Prop := O[j]? = some w.1 /\ (w.2.1 = m ∨ ∃ i, i < j /\ O[i]? = some w.2.1)
theorem Qno.app {m : Nat} {O O' : List Int} {w : Int × Int × Bool} {j : Nat} (h : Qno m O w j) : Qno m (O ++ O') w j := by
 obtain ⟨h1, h2⟩ := h
 have hj : j < O.length := (Zi.mp h1).1
 refine ⟨by rw [Zab hj]; exact h1, ?_⟩
 rcases h2 with h2 | ⟨i, hi, h2⟩
 ·exact .inl h2
 ·exact .inr ⟨i, hi, by rw [Zab (by omega)]; exact h2⟩
noncomputable def Qah (m : Nat) (g : Nat -> Int) : Int := ((List.range m).map g).sum
theorem QbL (m : Nat) (g : Nat -> Int) : Qah (m + 1) g = Qah m g + g m := by
 unfold Qah; rw [Zbh, Zaa, ZaU]; simp
theorem Qct {m : Nat} {f g : Nat -> Int} (h : ∀ i, i < m -> f i = g i) : Qah m f = Qah m g := by
 unfold Qah; rw [Zas λ i hi => h i (ZX.mp hi)]
theorem QfZ (m : Nat) (f g : Nat -> Int) : Qah m (λ i => f i + g i) = Qah m f + Qah m g := by
 induction m with
 | zero => rfl
 | succ m ih => rw [QbL, QbL, QbL, ih]; omega
theorem QcW (m : Nat) : Qah m (λ _ => 0) = 0 := by
 induction m with
 | zero => rfl
 | succ m ih => rw [QbL, ih]; rfl
theorem QdW {m : Nat} {p : Nat} (hp : p < m) (v : Int) (f : Nat -> Int) : Qah m (λ i => (if i = p then v else 0) * f i) = v * f p := by
 induction m with
 | zero => omega
 | succ m ih =>
  rw [QbL]
  by_cases h : p = m
  ·subst h
   rw [if_pos rfl, Qct (g := λ _ => 0) λ i hi => by rw [if_neg (by omega)]; simp, QcW]; simp
  ·rw [ih (by omega), if_neg (λ z => h z.symm)]; simp
noncomputable def Qf7 (m : Nat) (T : Nat -> Nat -> Int) (f c : Nat -> Int) : Nat -> Int := λ j => f j + Qah m λ i => c i * T i j
noncomputable def Qb7 : DS := (Qe (Qa4 (QO (Qa 1)) (.nm 2) (Qe (sIf (Qt (dOp gNe (dBf QcF (Qb (Qa 2) Qc)) (Qs (Qa 0) (dC (.int 0))))) (Qe Qx Qf) Qf) Qf)) Qf)
def QgN (d : Den) : Prop := ∀ (m : Nat) (R L : List (Int × Int)) (fs : List (Nat -> Int)), d [Qg m R L, .lst (fs.map λ f => Qj m f)] = some (.non, true)
theorem QpE : QgN (Qn 3 Qb7) := λ m R L fs => by
 have key : Run Qb7 (Qam 3 [Qg m R L, .lst (fs.map λ f => Qj m f)]) (Nx λ _ => True) := by
  refine run_seq (Qcg (toD := λ f => Qj m f) fs (λ _ ρ => ∃ j2, ρ = [some (Qg m R L, false), some (.lst (fs.map λ f => Qj m f), false), j2]) (ir := ⟨fs.map λ f => Qj m f, []⟩) rfl rfl ⟨none, rfl⟩ ?_ ?_)
  ·rintro i f ρ _ ⟨j2, rfl⟩
   refine ⟨_, rfl, ?_⟩
   refine run_seq (Qak (b := false) (QaA (Qgx (Qfp (xs := (List.range m).map λ i => .int (f i)) (r := ⟨Qj m f, false, []⟩) rfl rfl) rfl (QfJ (m := m) (R := R) (L := L) (r := ⟨Qg m R L, false, []⟩) rfl rfl).1 rfl) (by simp)) (λ h => by cases h) (λ _ => Qu (Qu ⟨_, rfl⟩)))
  ·rintro ρ ⟨j2, rfl⟩
   exact Qu trivial
 obtain ⟨o, h1, h2⟩ := key
 unfold Qn
 rw [h1]
 cases o with
 | nx ρ => rfl
 | _ => exact h2.elim
theorem QcA {fa : DE} {r : R} {ρ : En} {Q : Out -> Prop} (h : fa ρ = some r) (q : Q (.nx ρ)) : Run (QG fa) ρ Q := ⟨_, by simp [QG, h], q⟩
theorem QkZ {m : Nat} (f g : Nat -> D) : Qfq ((List.range m).map f) ((List.range m).map g) = (List.range m).map λ i => .tup [f i, g i] := by
 generalize List.range m = l
 induction l with
 | nil => rfl
 | cons n ns ih => unfold Qfq at ih ⊢; simp only [Zt, List.zip_cons_cons, ih]
theorem QnF {ρ : En} {m : Nat} {f : Nat -> Int} {fs : DA} {rs : RA} (h : fs ρ = some rs) (e : rs.ds = [Qj m f]) : dList fs ρ = some ⟨Qj m f, true, []⟩ := by
 unfold dList
 rw [h, Za, e]
 simp [Qj, Qav]
theorem Qpl {fa fb : DE} {ρ : En} {ra rb : R} {m : Nat} {f g : Nat -> D} (ha : fa ρ = some ra) (ea : ra.d = .lst ((List.range m).map f)) (hb : fb ρ = some rb) (eb : rb.d = .lst ((List.range m).map g)) : QeB fa fb ρ = some ⟨(List.range m).map λ i => .tup [f i, g i], ra.M ++ rb.M⟩ := by
 unfold QeB
 rw [ha, Za, hb, Za, ea, eb]
 simp only [QkZ]
theorem Qoz (i j : Nat) (s : Int × Int) : (hit i j s).natAbs <= 1 := by unfold hit; split <;> split <;> decide
theorem QfV (i j : Nat) : ∀ S : List (Int × Int), ((S.map (hit i j)).sum).natAbs <= S.length
 | [] => by simp
 | s :: S => by
  have := QfV i j S
  have := Qoz i j s
  rw [Zt, Zae, ZJ]
  omega
structure QeE (m : Nat) (R L : List (Int × Int)) : Prop where
 ex : ∃ W, Esc m W /\ (∀ w ∈ W, GoodW m w) /\ W.length <= 200 /\ R = Qcf W /\ L = Qcz W
theorem QeE.good {m : Nat} {R L : List (Int × Int)} (h : QeE m R L) : (∀ s ∈ R, Good m s) /\ (∀ s ∈ L, Good m s) /\ R.length <= 200 /\ L.length <= 200 /\ (∀ s ∈ R, s.1 < s.2) /\ ∀ s ∈ L, s.1 < m := by
 obtain ⟨W, _, h2, h3, rfl, rfl⟩ := h.ex
 exact ⟨λ s hs => (Qev h2 s hs).1, λ s hs => (Qeo h2 s hs).1, Zv (Qh2 W) h3, Zv (Qh3 W) h3, λ s hs => (Qev h2 s hs).2, λ s hs => (Qeo h2 s hs).2⟩
theorem QiB {x : Nat} {fa : DE} {ρ : En} {r : R} {A : List (Int × Int)} {p : Int × Int} {Q : Out -> Prop} (hx : ρ[x]? = some (some (Qp A, true))) (ha : fa ρ = some r) (hf : r.d = pairD p) (hl : A.length < 16777216) (q : Q (.nx (ρ.set x (some (Qp (A ++ [p]), true))))) : Run (Qdq x QaE fa) ρ Q := by
 refine QjX (xs := A.map pairD) hx ha (by rw [hf]; rfl) (by simpa using hl) ?_
 rw [hf]
 unfold Qp at q
 rw [Zaa] at q
 exact q
theorem QhQ {α : Type} (m : Nat) (g : Nat -> α -> Int) : ∀ S : List α, Qah m (λ j => (S.map (g j)).sum) = (S.map λ s => Qah m λ j => g j s).sum
 | [] => by simp [QcW]
 | s :: S => by
  simp only [Zt, Zae]
  rw [QfZ, QhQ m g S]
theorem Qke {α : Type} (c : Int) (f : α -> Int) : ∀ S : List α, c * (S.map f).sum = (S.map λ s => c * f s).sum
 | [] => by simp
 | s :: S => by simp only [Zt, Zae, Int.mul_add, Qke c f S]
structure TP (m : Nat) (T : Nat -> Nat -> Int) : Prop where
 neg : ∀ p, p < m -> T p p < 0
 pos : ∀ i j, i < m -> j < m -> i ≠ j -> 0 <= T i j
 bnd : ∀ i j, i < m -> j < m -> (T i j).natAbs < 2 ^ 64
 wt : ∃ w : Nat -> Int, (∀ j, 0 <= w j) /\ ∀ i, i < m -> Qah m (λ j => T i j * w j) <= -1
inductive Leg (m : Nat) (T : Nat -> Nat -> Int) (f : Nat -> Int) : (Nat -> Int) -> Prop where
 | nil : Leg m T f λ _ => 0
 | step {c : Nat -> Int} {p : Nat} {t : Int} : Leg m T f c -> p < m -> 0 <= t -> t * (0 - T p p) <= Qf7 m T f c p -> Leg m T f (up c p (c p + t))
def Stb (m : Nat) (T : Nat -> Nat -> Int) (g : Nat -> Int) : Prop := ∀ p, p < m -> g p < 0 - T p p
theorem Qkf {m : Nat} {f g : Nat -> Int} (h : ∀ i, i < m -> f i <= g i) : Qah m f <= Qah m g := by
 induction m with
 | zero => exact Int.le_refl _
 | succ m ih =>
  rw [QbL, QbL]
  have := ih λ i hi => h i (by omega)
  have := h m (by omega)
  omega
theorem Leg.least {m : Nat} {T : Nat -> Nat -> Int} (tp : TP m T) {f c : Nat -> Int} (h : Leg m T f c) {c' : Nat -> Int} (h0 : ∀ i, i < m -> 0 <= c' i) (hs : Stb m T (Qf7 m T f c')) : ∀ i, i < m -> c i <= c' i := by
 induction h with
 | nil => exact h0
 | @step c p t _ hp ht hle ih =>
  intro i hi
  unfold up
  split
  ·rename_i e
   subst e
   have key : Qf7 m T f c i + (c' i - c i) * T i i <= Qf7 m T f c' i := by
    unfold Qf7
    have e1 : Qah m (λ k => c k * T k i) + (c' i - c i) * T i i = Qah m (λ k => c k * T k i + (if k = i then c' i - c i else 0) * T k i) := by rw [QfZ, QdW hi]
    have e2 : Qah m (λ k => c k * T k i + (if k = i then c' i - c i else 0) * T k i) <= Qah m (λ k => c' k * T k i) := by
     refine Qkf λ k hk => ?_
     by_cases hki : k = i
     ·subst hki; rw [if_pos rfl, ← ZaP]; rw [show c k + (c' k - c k) = c' k by omega]; exact Int.le_refl _
     ·rw [if_neg hki, Int.zero_mul, Int.add_zero]
      exact ZaM (ih k hk) (tp.pos k i hk hi hki)
    omega
   have h1 := hs i hi
   have h2 := tp.neg i hi
   by_cases hlt : c i + t <= c' i
   ·exact hlt
   ·exfalso
    have h3 : (c' i - c i + 1) <= t := by omega
    have h4 : (c' i - c i + 1) * (0 - T i i) <= t * (0 - T i i) := ZaM h3 (by omega)
    have h5 : (c' i - c i + 1) * (0 - T i i) = (0 - T i i) - (c' i - c i) * T i i := by rw [ZaP, Int.one_mul, Int.mul_sub, Int.mul_zero]; omega
    omega
  ·exact ih i hi
theorem Qjz {fa fb : DE} {ρ : En} {ra rb : R} {m : Nat} {f : Nat -> Int} {i : Nat} (ha : fa ρ = some ra) (ea : ra.d = Qj m f) (hb : fb ρ = some rb) (eb : rb.d = .int i) (h : i < m) : Qs fa fb ρ = some ⟨.int (f i), true, []⟩ := by
 have := Qpy ha ea hb eb (by omega) (by omega)
 rw [ZR] at this
 exact this
def QkL (m : Nat) (S : List (Int × Int)) : Prop := ∀ A : Nat -> Prop, (∃ p, p < m /\ A p) -> ∃ s ∈ S, s.1 < m /\ A s.1.toNat /\ (s.2 = m ∨ ¬ A s.2.toNat)
theorem Ql9 {m : Nat} {W : List (Int × Int × Bool)} (h : Esc m W) : QkL m (QQ (Qcf W) (Qcz W)) := λ A hA => by
 obtain ⟨w, hw, h1, h2, h3⟩ := h A hA
 refine ⟨(w.1, w.2.1), ?_, h1, h2, h3⟩
 unfold QQ
 cases e : w.2.2 with
 | true => exact Ze _ (ZH.mpr ⟨w, ZZ.mpr ⟨hw, e⟩, rfl⟩)
 | false =>
  have hr : Qbn w ∈ Qcf W := ZH.mpr ⟨w, ZZ.mpr ⟨hw, by simp [e]⟩, rfl⟩
  by_cases hlt : w.2.1 < w.1
  ·refine Zd _ (Ze _ (ZH.mpr ⟨Qbn w, hr, ?_⟩))
   unfold Qbn
   rw [if_pos hlt, if_neg (by omega)]; rfl
  ·refine Zd _ (Zd _ ?_)
   have : Qbn w = (w.1, w.2.1) := by
    unfold Qbn
    rw [if_neg hlt]
    by_cases hgt : w.2.1 > w.1
    ·rw [if_pos hgt]
    ·rw [if_neg hgt]; rw [show w.2.1 = w.1 by omega]
   rw [← this]; exact hr
inductive Rk (m : Nat) (S : List (Int × Int)) : Nat -> Nat -> Prop where
 | pit {s : Int × Int} {n : Nat} : s ∈ S -> s.2 = m -> Rk m S (n + 1) s.1.toNat
 | step {s : Int × Int} {k n : Nat} : s ∈ S -> s.2 ≠ m -> Rk m S k s.2.toNat -> k < n -> Rk m S n s.1.toNat
theorem QiT {P : Nat -> Prop} (h : ∃ n, P n) : ∃ n, P n /\ ∀ k, k < n -> ¬ P k := by
 obtain ⟨n, hn⟩ := h
 induction n using Nat.strongRecOn with
 | _ n ih =>
  by_cases h : ∃ k, k < n /\ P k
  ·obtain ⟨k, hk, h⟩ := h; exact ih k hk h
  ·exact ⟨n, hn, λ k hk hx => h ⟨k, hk, hx⟩⟩
theorem QrX {m : Nat} {S : List (Int × Int)} (he : QkL m S) : ∀ p, p < m -> ∃ n, Rk m S n p := λ p hp => by
 by_cases h : ∃ n, Rk m S n p
 ·exact h
 ·exfalso
  obtain ⟨s, hs, h1, h2, h3⟩ := he (λ p => ¬ ∃ n, Rk m S n p) ⟨p, hp, h⟩
  by_cases e : s.2 = m
  ·exact h2 ⟨1, .pit hs e⟩
  ·rcases h3 with h3 | h3
   ·exact e h3
   ·have : ∃ n, Rk m S n s.2.toNat := Classical.byContradiction λ z => h3 z
    obtain ⟨k, hk⟩ := this
    exact h2 ⟨k + 1, .step hs e hk (by omega)⟩
theorem Qo4 {m : Nat} {S : List (Int × Int)} (hg : ∀ s ∈ S, Good m s) (he : QkL m S) : ∃ r : Nat -> Nat, r m = 0 /\ ∀ p, p < m -> ∃ s ∈ S, s.1 = p /\ r s.2.toNat < r p := by
 have h : ∀ p, ∃ n, (p < m -> Rk m S n p /\ ∀ k, k < n -> ¬ Rk m S k p) /\ (p = m -> n = 0) := λ p => by
  by_cases hp : p < m
  ·obtain ⟨n, hn⟩ := QiT (QrX he p hp)
   exact ⟨n, λ _ => hn, λ z => by omega⟩
  ·exact ⟨0, λ z => absurd z hp, λ _ => rfl⟩
 obtain ⟨r, hr⟩ := Classical.axiomOfChoice h
 refine ⟨r, (hr m).2 rfl, λ p hp => ?_⟩
 have h1 := ((hr p).1 hp).1
 generalize r p = n at h1
 cases h1 with
 | @pit s n hs e =>
  obtain ⟨g1, g2, g3, g4, g5⟩ := hg s hs
  exact ⟨s, hs, by omega, by rw [e, ZR, (hr m).2 rfl]; omega⟩
 | @step s k n hs e hk hkn =>
  obtain ⟨g1, g2, g3, g4, g5⟩ := hg s hs
  refine ⟨s, hs, by omega, ?_⟩
  have hl : s.2.toNat < m := by omega
  have := ((hr s.2.toNat).1 hl).2 k
  have : ¬ k < r s.2.toNat := λ z => this z hk
  omega
theorem Qjf (r : Nat -> Nat) : ∀ m : Nat, ∃ N, ∀ p, p <= m -> r p <= N
 | 0 => ⟨r 0, λ p hp => by rw [show p = 0 by omega]; exact Zj _⟩
 | m + 1 => by
  obtain ⟨N, hN⟩ := Qjf r m
  refine ⟨N + r (m + 1), λ p hp => ?_⟩
  by_cases e : p = m + 1
  ·subst e; omega
  ·have := hN p (by omega); omega
theorem Qle {m : Nat} {i : Nat} {s : Int × Int} (hi : i < m) (g : Good m s) (w : Nat -> Int) (hw : w m = 0) : Qah m (λ j => hit i j s * w j) = if s.1 = i then w s.2.toNat - w i else 0 := by
 obtain ⟨g1, g2, g3, g4, g5⟩ := g
 by_cases h : s.1 = i
 ·rw [if_pos h]
  have e : Qah m (λ j => hit i j s * w j) = Qah m (λ j => (if j = s.2.toNat then 1 else 0) * w j + (if j = i then -1 else 0) * w j) := Qct λ j _ => by
   have : hit i j s = (if j = s.2.toNat then 1 else 0) + (if j = i then -1 else 0) := by
    unfold hit
    by_cases a : s.2 = j
    ·by_cases b : i = j
     ·rw [if_pos ⟨h, a⟩, if_pos ⟨h, b⟩, if_pos (by omega), if_pos b.symm]; omega
     ·rw [if_pos ⟨h, a⟩, if_neg (λ z => b z.2), if_pos (by omega), if_neg (λ z => b z.symm)]; omega
    ·by_cases b : i = j
     ·rw [if_neg (λ z => a z.2), if_pos ⟨h, b⟩, if_neg (by omega), if_pos b.symm]; omega
     ·rw [if_neg (λ z => a z.2), if_neg (λ z => b z.2), if_neg (by omega), if_neg (λ z => b z.symm)]; omega
   rw [this, ZaP]
  rw [e, QfZ, QdW hi]
  by_cases hm : s.2.toNat < m
  ·rw [QdW hm]; omega
  ·have e2 : Qah m (λ j => (if j = s.2.toNat then 1 else 0) * w j) = 0 := by
    rw [Qct (g := λ _ => 0) λ j hj => by rw [if_neg (by omega), Int.zero_mul], QcW]
   rw [e2, show s.2.toNat = m by omega, hw]; omega
 ·rw [if_neg h]
  rw [Qct (g := λ _ => 0) λ j hj => by
   unfold hit
   rw [if_neg (λ z => h z.1), if_neg (λ z => h z.1)]; rw [Int.sub_self, Int.zero_mul], QcW]
theorem QgV {α : Type} {g : α -> Int} {X : Int} : ∀ S : List α, (∀ s ∈ S, g s <= X) -> (S.map g).sum <= S.length * X
 | [], _ => by simp
 | a :: S, h => by
  have h1 := h a (by simp)
  have h2 := QgV S λ s hs => h s (by simp [hs])
  simp only [Zt, Zae, ZJ, Int.natCast_add, ZaP]
  rw [show ((1 : Nat) : Int) * X = X by simp]
  omega
theorem QgO {α : Type} {g : α -> Int} {X Y : Int} : ∀ (S : List α), (∀ s ∈ S, g s <= X) -> (∃ s ∈ S, g s <= Y) -> (S.map g).sum <= S.length * X - X + Y
 | [], _, h => by obtain ⟨s, hs, _⟩ := h; exact absurd hs (by simp)
 | a :: S, h, h2 => by
  obtain ⟨s, hs, hy⟩ := h2
  have hb : ∀ s ∈ S, g s <= X := λ s hs => h s (by simp [hs])
  simp only [Zt, Zae, ZJ, Int.natCast_add, ZaP]
  rw [show ((1 : Nat) : Int) * X = X by simp]
  rcases Zm.mp hs with e | hs
  ·subst e
   have := QgV S hb
   omega
  ·have := QgO S hb ⟨s, hs, hy⟩
   have := h a (by simp)
   omega
theorem QgB {α : Type} {g : α -> Int} : ∀ S : List α, (∀ s ∈ S, 0 <= g s) -> 0 <= (S.map g).sum
 | [], _ => by simp
 | a :: S, h => by
  have h1 := h a (by simp)
  have h2 := QgB S λ s hs => h s (by simp [hs])
  simp only [Zt, Zae]
  omega
theorem QnZ {m : Nat} {S : List (Int × Int)} (hg : ∀ s ∈ S, Good m s) (he : QkL m S) (hl : S.length < 2 ^ 60) : TP m (QE m S) := by
 have hn : ∀ s ∈ S, 0 <= s.1 /\ 0 <= s.2 := λ s hs => ⟨(hg s hs).1, (hg s hs).2.1⟩
 have pos : ∀ i j, i < m -> j < m -> i ≠ j -> 0 <= QE m S i j := λ i j hi hj hij => by
  rw [Qdw hi hj hn]
  refine QgB S λ s _ => ?_
  unfold hit
  rw [if_neg (λ z => hij z.2) (c := s.1 = i /\ i = j)]
  split <;> omega
 obtain ⟨r, r0, hr⟩ := Qo4 hg he
 obtain ⟨N, hN⟩ := Qjf r m
 have M1 : 1 <= S.length + 1 := by omega
 have wt : ∃ w : Nat -> Int, (∀ j, 0 <= w j) /\ ∀ i, i < m -> Qah m (λ j => QE m S i j * w j) <= -1 := by
  refine ⟨λ v => (((S.length + 1) ^ N : Nat) : Int) - (((S.length + 1) ^ (N - r v) : Nat) : Int), λ j => ?_, λ i hi => ?_⟩
  ·have := ZaO M1 (Nat.sub_le N (r j))
   show (0 : Int) <= (((S.length + 1) ^ N : Nat) : Int) - (((S.length + 1) ^ (N - r j) : Nat) : Int)
   omega
  ·generalize hw : (λ v => (((S.length + 1) ^ N : Nat) : Int) - (((S.length + 1) ^ (N - r v) : Nat) : Int)) = w
   have hw' : ∀ v, w v = (((S.length + 1) ^ N : Nat) : Int) - (((S.length + 1) ^ (N - r v) : Nat) : Int) := λ v => by rw [← hw]
   have wm : w m = 0 := by rw [hw', r0, Nat.sub_zero]; omega
   have e : Qah m (λ j => QE m S i j * w j) = (S.map λ s => if s.1 = (i : Int) then w s.2.toNat - w i else 0).sum := by
    rw [Qct (g := λ j => (S.map λ s => hit i j s * w j).sum) λ j hj => by
     rw [Qdw hi hj hn, Int.mul_comm, Qke]
     congr 1
     exact Zas λ s _ => Int.mul_comm _ _]
    rw [QhQ m (λ j s => hit i j s * w j) S]
    congr 1
    exact Zas λ s hs => Qle hi (hg s hs) w wm
   rw [e]
   obtain ⟨s0, hs0, e0, hlt⟩ := hr i hi
   generalize hX : (((S.length + 1) ^ (N - r i) : Nat) : Int) = X
   have X1 : 1 <= X := by
    have : 0 < (S.length + 1) ^ (N - r i) := Nat.pow_pos (by omega)
    omega
   have key := QgO (g := λ s : Int × Int => if s.1 = i then w s.2.toNat - w i else 0) (X := X) (Y := X - (S.length + 1) * X) S (λ s _ => by
    show (if s.1 = i then w s.2.toNat - w i else 0) <= X
    split
    ·rw [hw', hw' i, hX]
     have : 0 <= (((S.length + 1) ^ (N - r s.2.toNat) : Nat) : Int) := Int.natCast_nonneg _
     omega
    ·omega) ⟨s0, hs0, by
    show (if s0.1 = i then w s0.2.toNat - w i else 0) <= _
    rw [if_pos e0, hw', hw' i, hX]
    have hb := hN i (by omega)
    have h1 : (S.length + 1) ^ (N - r i + 1) <= (S.length + 1) ^ (N - r s0.2.toNat) := ZaO M1 (by omega)
    rw [Nat.pow_succ] at h1
    have h2 : ((((S.length + 1) ^ (N - r i) * (S.length + 1) : Nat)) : Int) <= (((S.length + 1) ^ (N - r s0.2.toNat) : Nat) : Int) := by exact_mod_cast h1
    rw [Int.natCast_mul, hX, Int.mul_comm] at h2
    rw [show ((S.length + 1 : Nat) : Int) = (S.length : Int) + 1 by omega] at h2
    omega⟩
   have : ((S.length : Int) + 1) * X = S.length * X + X := by rw [ZaP, Int.one_mul]
   omega
 refine ⟨λ p hp => ?_, pos, λ i j hi hj => ?_, wt⟩
 ·obtain ⟨w, w0, hw⟩ := wt
  have h1 := hw p hp
  by_cases hneg : QE m S p p < 0
  ·exact hneg
  ·exfalso
   have : 0 <= Qah m (λ j => QE m S p j * w j) := by
    have := Qkf (m := m) (f := λ _ => 0) (g := λ j => QE m S p j * w j) λ j hj => by
     by_cases e : p = j
     ·subst e; exact Zbj (by omega) (w0 _)
     ·exact Zbj (pos p j hp hj e) (w0 _)
    rw [QcW] at this
    exact this
   omega
 ·rw [Qdw hi hj hn]
  have := QfV i j S
  omega
theorem QeE.tp {m : Nat} {R L : List (Int × Int)} (h : QeE m R L) : TP m (QE m (QQ R L)) := by
 have hg := h.good
 refine QnZ (Qdb hg.1 hg.2.1) ?_ ?_
 ·obtain ⟨W, h1, _, _, rfl, rfl⟩ := h.ex
  exact Ql9 h1
 ·unfold QQ
  simp only [Zp, Zs]
  omega
theorem QeE.neg {m : Nat} {R L : List (Int × Int)} (h : QeE m R L) {i : Nat} (hi : i < m) : 0 - QE m (QQ R L) i i = Qa7 R L i := by
 have hg := h.good
 have hs := Qdb hg.1 hg.2.1
 rw [Qdw hi hi (λ s z => ⟨(hs s z).1, (hs s z).2.1⟩), sum_neg _ _ (λ s z => (hs s z).2.2.2.2), Qh4]
 omega
theorem QlS (m : Nat) (f : Nat -> Int) : Qj m f = .lst (((List.range m).map f).map D.int) := by
 unfold Qj; rw [Zad]; rfl
theorem Qkq : ∀ {ns : List Int}, ns ≠ [] -> ∃ m, QfY ns = some m
 | [], h => absurd rfl h
 | [n], _ => ⟨n, rfl⟩
 | n :: k :: r, _ => by
  obtain ⟨m, hm⟩ := Qkq (ns := k :: r) (by simp)
  exact ⟨if m < n then m else n, by simp only [QfY, hm, ZP]⟩
theorem Qqj {m : Nat} (h : 0 < m) (f : Nat -> Int) : (List.range m).map f ≠ [] := by
 intro z
 have := congrArg List.length z
 simp at this
 omega
theorem Qj3 {m : Nat} (m0 : 0 < m) (f : Nat -> Int) : ∃ v, (∃ i, i < m /\ v = f i) /\ (∀ i, i < m -> v <= f i) /\ ∀ {fa : DE} {ρ : En} {r : R}, fa ρ = some r -> r.d = Qj m f -> dBf QbE (Qb fa Qc) ρ = some ⟨.int v, true, []⟩ := by
 obtain ⟨v, hv⟩ := Qkq (Qqj m0 f)
 obtain ⟨h1, h2⟩ := Qft hv
 refine ⟨v, ?_, λ i hi => h2 _ (ZH.mpr ⟨i, ZX.mpr hi, rfl⟩), λ {fa ρ r} h e => ?_⟩
 ·obtain ⟨i, hi, e⟩ := ZH.mp h1
  exact ⟨i, ZX.mp hi, e.symm⟩
 ·unfold dBf
  rw [Qm h (QT _), Za]
  simp only [e, QlS, QbE, Qf9, Za, hv, ZP]
noncomputable def QbO (Q6 : Den) : DS := (Qe (QG (Qi 2 Q6 [] (Qb (Qa 0) (Qb (Qa 1) Qc)))) (Qe (Qa4 (QO (Qa 1)) (.nm 2) (Qe (sIf (Qt (dOp gLt (dBf QbE (Qb (Qa 2) Qc)) (dC (.int 0)))) (Qe Qx Qf) Qf) Qf)) Qf))
def Qhr (d : Den) : Prop := ∀ (m : Nat) (R L : List (Int × Int)) (fs : List (Nat -> Int)), 0 < m -> (∀ f ∈ fs, ∀ j, j < m -> 0 <= f j) -> d [Qg m R L, .lst (fs.map λ f => Qj m f)] = some (.non, true)
theorem Qn8 {dn : Den} (hn : QgN dn) : Qhr (Qn 3 (QbO dn)) := λ m R L fs m0 hf => by
 have key : Run (QbO dn) (Qam 3 [Qg m R L, .lst (fs.map λ f => Qj m f)]) (Nx λ _ => True) := by
  refine run_seq (QcA (QB (r := ⟨[Qg m R L, .lst (fs.map λ f => Qj m f)], false, []⟩) rfl (hn m R L fs) rfl) ?_)
  refine run_seq (Qcg (toD := λ f => Qj m f) fs (λ _ ρ => ∃ j2, ρ = [some (Qg m R L, false), some (.lst (fs.map λ f => Qj m f), false), j2]) (ir := ⟨fs.map λ f => Qj m f, []⟩) rfl rfl ⟨none, rfl⟩ ?_ ?_)
  ·rintro i f ρ hi ⟨j2, rfl⟩
   refine ⟨_, rfl, ?_⟩
   obtain ⟨v, ⟨q, hq, e⟩, _, hv⟩ := Qj3 m0 f
   have h0 := hf f (Zap hi) q hq
   refine run_seq (Qak (b := false) (QaA (Qbi (rb := ⟨.int 0, true, []⟩) (d := .bl (decide (v < 0))) (hv (r := ⟨Qj m f, false, []⟩) rfl rfl) rfl rfl) ?_) (λ h => by cases h) (λ _ => Qu (Qu ⟨_, rfl⟩)))
   show D.bl _ = _
   rw [decide_eq_false (by omega)]
  ·rintro ρ ⟨j2, rfl⟩
   exact Qu trivial
 obtain ⟨o, h1, h2⟩ := key
 unfold Qn
 rw [h1]
 cases o with
 | nx ρ => rfl
 | _ => exact h2.elim
structure Told (m : Nat) (T : Nat -> Nat -> Int) (f c : Nat -> Int) : Prop where
 leg : Leg m T f c
 pos : ∀ j, j < m -> 0 <= Qf7 m T f c j
 stb : Stb m T (Qf7 m T f c)
theorem QmT {m : Nat} {t kind : Int} : Esc m (QaX m t kind) := λ A ⟨p, hp, hA⟩ => by
 have ex : ∃ j : Nat, j < m /\ A (((j : Int) + t) % m).toNat := by
  have h1 := ZC ((p : Int) - t) (by omega : (m : Int) ≠ 0)
  have h2 := ZE ((p : Int) - t) (by omega : (0 : Int) < m)
  refine ⟨(((p : Int) - t) % m).toNat, by omega, ?_⟩
  have e : (((((p : Int) - t) % m).toNat : Int) + t) % m = p := by
   rw [Int.toNat_of_nonneg h1, Int.emod_add_emod, Int.sub_add_cancel]
   exact ZaY (by omega) (by omega)
  rw [e, ZR]; exact hA
 obtain ⟨j, ⟨hj, hAj⟩, hmin⟩ := QiT ex
 have s1 := ZC ((j : Int) + t) (by omega : (m : Int) ≠ 0)
 have s2 := ZE ((j : Int) + t) (by omega : (0 : Int) < m)
 refine ⟨Qc5 m t kind j, ZH.mpr ⟨j, ZX.mpr hj, rfl⟩, ?_, hAj, ?_⟩
 ·exact s2
 ·show Qc2 m t j = m ∨ ¬ A (Qc2 m t j).toNat
  unfold Qc2
  split
  ·rename_i h
   have n1 := ZC (QaO t j) (by omega : (j : Int) + 1 ≠ 0)
   right
   intro z
   refine hmin (QaO t j % ((j : Int) + 1)).toNat (by omega) ⟨by omega, ?_⟩
   rw [Int.toNat_of_nonneg n1]
   exact z
  ·exact .inl rfl
theorem Qko {a : Int} {k : Nat} {ρ : En} (h1 : a.natAbs < 2 ^ 200) (h2 : k <= 1000) : dOp QiH (dC (.int a)) (dC (.int k)) ρ = some ⟨.int (a ^ k), true, []⟩ := by
 refine Qbi (ra := ⟨.int a, true, []⟩) (rb := ⟨.int k, true, []⟩) rfl rfl ?_
 show (if 0 <= (k : Int) /\ (k : Int) <= 1000 /\ a.natAbs < 2 ^ 200 then some (D.int (a ^ (k : Int).toNat)) else none) = _
 rw [if_pos ⟨by omega, by omega, h1⟩, ZR]
theorem Qnw {i : Nat} {g : Nat -> Int} {v : Int} : ((List.range i).map λ k => D.int (g k)) ++ [.int v] = (List.range (i + 1)).map λ k => D.int (up g i v k) := by
 rw [Zbh, Zaa]
 congr 1
 ·refine Zas λ k hk => ?_
  have := ZX.mp hk
  unfold up
  rw [if_neg (by omega)]
 ·show _ = [D.int (up g i v i)]
  unfold up
  rw [if_pos rfl]
theorem Qn2 {x : Nat} {fa : DE} {ρ : En} {r : R} {i : Nat} {g : Nat -> Int} {v : Int} {Q : Out -> Prop} (hx : ρ[x]? = some (some (Qj i g, true))) (ha : fa ρ = some r) (e : r.d = .int v) (hl : i < 16777216) (q : Q (.nx (ρ.set x (some (Qj (i + 1) (up g i v), true))))) : Run (Qdq x QaE fa) ρ Q := by
 refine QjX (xs := (List.range i).map λ k => D.int (g k)) hx ha (by rw [e]; rfl) (by simpa using hl) ?_
 rw [e, Qnw]
 exact q
theorem QgK {fs : DA} {ρ : En} {rs : RA} (h : fs ρ = some rs) (hl : rs.ds.length <= 64) : Qae fs ρ = some ⟨.lst rs.ds, rs.fr, rs.M⟩ := by
 unfold Qae
 rw [h, Za, if_pos hl]
theorem QpS {fa fb : DE} {ρ : En} {ra rb : R} {m n : Nat} {f : Nat -> Nat -> Int} {i : Int} (ha : fa ρ = some ra) (ea : ra.d = QaU m n f) (hb : fb ρ = some rb) (eb : rb.d = .int i) (h0 : 0 <= i) (h : i < m) : Qs fa fb ρ = some ⟨Qj n (f i.toNat), ra.fr, ra.M⟩ := by
 unfold Qs
 rw [ha, Za, hb, Za, ea, eb]
 simp only [QaU, D.items, Za, Qkb h0 h, ZP]
 rfl
noncomputable def Qgn : DS := (Qe (QS (dOp gEq (dBf QcF (Qb (Qs (Qa 0) (dC (.int 2))) Qc)) (dC (.int 0)))) Qf)
def QfD (d : Den) : Prop := ∀ (m : Int) (R L : List (Int × Int)), d [Qg m R L] = some (.bl (decide ((L.length : Int) = 0)), true)
theorem Qnq : QfD (Qn 1 Qgn) := λ m R L => by
 refine Qbb ?_
 refine Qaq (Qi4 (Qfp (QfJ (r := ⟨Qg m R L, false, []⟩) rfl rfl).2.2 rfl) rfl rfl rfl) ⟨?_, rfl⟩
 simp
noncomputable def Q7 (l : List Nat) : D := .lst (l.map λ (p : Nat) => .int (p : Int))
noncomputable def QgG (T : Nat -> Nat -> Int) (p : Nat) (l : List Nat) : Int := ((l.filter λ o => decide (o ≠ p)).map (T p)).sum
noncomputable def Qad (T : Nat -> Nat -> Int) (a : Nat -> Int) (l : List Nat) : List Nat := l.filter λ p => decide (QgG T p l <= a p)
noncomputable def Qg1 (T : Nat -> Nat -> Int) (a : Nat -> Int) (l : List Nat) : List Nat := l.filter λ p => !(Qad T a l).contains p
theorem Qpc {fa : DE} {ρ : En} {r : R} {ns : List Int} (h : fa ρ = some r) (e : r.d = .lst (ns.map D.int)) : dBf Qfs (Qb fa Qc) ρ = some ⟨.int ns.sum, true, []⟩ := by
 unfold dBf
 rw [Qm h (QT _), Za]
 simp only [e, Qfs, Qf9, ZP]
noncomputable def QeL : DS := (Qe (QS (dBf Qfs (Qb (Q2 (QO (Qa 2)) (.nm 1) [none, none, some 1, some 0] (Qt (dOp gNe (Qa 1) (Qa 2))) (Qs (Qa 3) (Qa 1))) Qc))) Qf)
def Qhh (d : Den) : Prop := ∀ (m : Nat) (t : Nat -> Int) (p : Nat) (l : List Nat), (∀ o ∈ l, o < m) -> d [Qj m t, .int p, Q7 l] = some (.int (((l.filter λ o => decide (o ≠ p)).map t).sum), true)
theorem Qns : Qhh (Qn 3 QeL) := λ m t p l hl => by
 refine Qbb ?_
 have e := Qfy (fi := QO (Qa 2)) (t := .nm 1) (cap := [none, none, some 1, some 0]) (ft := Qt (dOp gNe (Qa 1) (Qa 2))) (fe := Qs (Qa 3) (Qa 1)) (ρ := [some (Qj m t, false), some (.int p, true), some (Q7 l, false)])
  (toD := λ (o : Nat) => .int (o : Int)) (keep := λ o => decide (o ≠ p)) (out := λ (o : Nat) => .int (t o)) l (Qcy (r := ⟨Q7 l, false, []⟩) rfl rfl) rfl λ o ho => by
   refine ⟨[none, some (.int o, true), some (.int p, true), some (Qj m t, false)], rfl, ?_, λ _ => ⟨_, Qjz (m := m) (f := t) (i := o) (ra := ⟨Qj m t, false, []⟩) rfl rfl rfl rfl (hl o ho), rfl, rfl⟩⟩
   refine (QaA (Qgx (a := o) (b := p) rfl rfl rfl rfl) rfl).trans ?_
   congr 1
   by_cases h : o = p
   ·subst h; simp
   ·simp [h]
    omega
 refine Qaq (Qpc (ns := (l.filter λ o => decide (o ≠ p)).map t) e ?_) ⟨rfl, rfl⟩
 show D.lst _ = D.lst _
 rw [Zad]; rfl
noncomputable def QbJ (Qas : Den) : DS := (Qe (sIf (Qdp (Qt (Qi 1 Qas [] (Qb (Qa 0) Qc)))) (Qe Qx Qf) Qf) Qf)
def Qfu (d : Den) : Prop := ∀ (m : Nat) (R : List (Int × Int)), d [Qg m R []] = some (.non, true)
theorem Qm1 {dp : Den} (hp : QfD dp) : Qfu (Qn 1 (QbJ dp)) := λ m R => by
 have key : Run (QbJ dp) (Qam 1 [Qg m R []]) (Nx λ _ => True) := by
  refine run_seq (Qak (b := false) (Qe6 (b := true) (QaA (b := true) (QB (r := ⟨[Qg m R []], false, []⟩) rfl (hp m R []) rfl) rfl)) (λ h => by cases h) (λ _ => Qu (Qu trivial)))
 obtain ⟨o, h1, h2⟩ := key
 unfold Qn
 rw [h1]
 cases o with
 | nx ρ => rfl
 | _ => exact h2.elim
theorem QoR {o : Nat} {l : List Nat} : (l.map λ (p : Nat) => D.int (p : Int)).any (λ y => deq y (.int o)) = l.contains o := by
 induction l with
 | nil => rfl
 | cons a l ih =>
  rw [Zt, List.any_cons, ih, Qhi, List.contains_cons]
  congr 1
  by_cases h : a = o
  ·subst h; simp
  ·rw [decide_eq_false (by omega)]
   exact (beq_eq_false_iff_ne.mpr (λ z => h z.symm)).symm
theorem QnW (n : Nat) (l : List Nat) : (Q7 l).sim (n + 1) = true := by
 unfold Q7
 simp only [D.sim, List.all_map, ZW]
 intro p _
 cases n <;> rfl
theorem Qq1 {neg : Bool} {fa fb : DE} {ρ : En} {ra rb : R} {o : Nat} {l : List Nat} (ha : fa ρ = some ra) (ea : ra.d = .int o) (hb : fb ρ = some rb) (eb : rb.d = Q7 l) : dOp (gIn neg) fa fb ρ = some ⟨.bl (if neg then !l.contains o else l.contains o), true, []⟩ := by
 refine Qbi ha hb ?_
 rw [ea, eb]
 have : (D.int (o : Int)).sim 8 = true := rfl
 show (if (D.int (o : Int)).sim 8 && (Q7 l).sim 8 then some (D.bl (if neg then !((l.map λ (p : Nat) => D.int (p : Int)).any λ y => deq y (.int o)) else (l.map λ (p : Nat) => D.int (p : Int)).any λ y => deq y (.int o))) else none) = _
 rw [this, QnW 7 l, QoR]
 rfl
noncomputable def QiN (w : Int × Int × Bool) : Int × Int × Bool := (w.1, w.2.1, false)
theorem Qlr {m : Nat} {W : List (Int × Int × Bool)} (he : Esc m W) (hg : ∀ w ∈ W, GoodW m w) (hl : W.length <= 200) : QeE m (W.map Qbn) [] := by
 refine ⟨W.map QiN, λ A hA => ?_, λ w hw => ?_, by rw [Zs]; exact hl, ?_, ?_⟩
 ·obtain ⟨w, h1, h2⟩ := he A hA
  exact ⟨QiN w, ZH.mpr ⟨w, h1, rfl⟩, h2⟩
 ·obtain ⟨w', h1, rfl⟩ := ZH.mp hw
  exact ⟨(hg w' h1).1, λ z => by cases z⟩
 ·unfold Qcf
  rw [List.filter_eq_self.mpr λ w hw => by obtain ⟨w', _, rfl⟩ := ZH.mp hw; rfl, Zad]
  rfl
 ·unfold Qcz
  rw [List.filter_eq_nil_iff.mpr λ w hw => by obtain ⟨w', _, rfl⟩ := ZH.mp hw; simp [QiN]]
  rfl
noncomputable def Qda : Option Int -> D
 | none => .non
 | some i => .int i
@[simp] theorem QnT (o : Option Int) : (Qda o).flat = true := by cases o <;> rfl
noncomputable def QaT (m : Nat) (F : Nat -> Option Int) : D := .lst ((List.range m).map λ i => Qda (F i))
@[simp] theorem Qti (m : Nat) (F : Nat -> Option Int) : (QaT m F).flat = false := rfl
@[simp] theorem QsC (m : Nat) (F : Nat -> Option Int) : Qo ((List.range m).map λ i => Qda (F i)) = true := QbI (f := λ i => Qda (F i)) (λ _ => QnT _) _
noncomputable def upO (F : Nat -> Option Int) (i : Nat) (v : Option Int) : Nat -> Option Int := λ j => if j = i then v else F j
theorem Qn3 {x m : Nat} {F : Nat -> Option Int} {fi fa : DE} {ρ : En} {i v : Int} {ri ra : R} {Q : Out -> Prop} (hx : ρ[x]? = some (some (QaT m F, true))) (hi : fi ρ = some ri) (ei : ri.d = .int i) (ha : fa ρ = some ra) (ea : ra.d = .int v) (h0 : 0 <= i) (h : i < m)
  (q : Q (.nx (ρ.set x (some (QaT m (upO F i.toNat (some v)), true))))) : Run (Qck x QaE fi fa) ρ Q := by
 refine ⟨_, ?_, q⟩
 have hn : ra.norm = ⟨.int v, true, []⟩ := by unfold HS.R.norm; rw [ea]; rfl
 have hs : ((List.range m).map λ j => Qda (F j)).set i.toNat (.int v) = (List.range m).map λ j => Qda (upO F i.toNat (some v) j) := by
  rw [Qc3]
  congr 1; funext j; unfold upO; split <;> rfl
 unfold Qck
 rw [ha, Za, hx]
 simp only [QaE, Za, hi, ei, QbB, QaT, Zs, ZV, Qd1 h0 h, hn, ea, QaP, hs]
 simp [kill]
theorem QoO {fb : DE} {ρ : En} {r : R} {n : Nat} (h : fb ρ = some r) (e : r.d = .int n) (hn : n <= 16777216) : Qbf (Qae (Qb (dC .non) Qc)) fb ρ = some ⟨QaT n (λ _ => none), true, []⟩ := by
 have h1 : Qae (Qb (dC .non) Qc) ρ = some ⟨.lst [.non], true, []⟩ := rfl
 unfold Qbf
 rw [h1, Za, h, Za, e]
 dsimp only
 rw [if_pos ⟨by simp [Qii]; omega, by omega, by omega, rfl⟩]
 simp only [ZR, Qho]
 rfl
noncomputable def QdK (T : Nat -> Nat -> Int) (h : Nat -> Int) (m : Nat) : Nat -> List Nat
 | 0 => List.range m
 | k + 1 => Qg1 T h (QdK T h m k)
noncomputable def Qa8 (T : Nat -> Nat -> Int) (h : Nat -> Int) (m : Nat) : Nat -> Nat -> Option Int
 | 0, _ => none
 | k + 1, p => if p ∈ Qad T h (QdK T h m k) then some ((k : Int) + 1) else Qa8 T h m k p
theorem Qnh {T : Nat -> Nat -> Int} {h : Nat -> Int} {l : List Nat} {p : Nat} : p ∈ Qg1 T h l ↔ p ∈ l /\ p ∉ Qad T h l := by
 unfold Qg1
 rw [ZZ]
 simp
theorem Qmk {T : Nat -> Nat -> Int} {h : Nat -> Int} {l : List Nat} {p : Nat} : p ∈ Qad T h l ↔ p ∈ l /\ QgG T p l <= h p := by
 unfold Qad
 rw [ZZ]
 simp
theorem QmR {T : Nat -> Nat -> Int} {h : Nat -> Int} {m : Nat} {k j : Nat} (hkj : k <= j) {p : Nat} (hp : p ∈ QdK T h m j) : p ∈ QdK T h m k := by
 induction j with
 | zero => rw [show k = 0 by omega]; exact hp
 | succ j ih =>
  by_cases e : k = j + 1
  ·rw [e]; exact hp
  ·exact ih (by omega) (Qnh.mp hp).1
theorem Qpb {T : Nat -> Nat -> Int} {h : Nat -> Int} {m k p : Nat} (hp : p ∈ QdK T h m k) : p < m := ZX.mp (QmR (ZL k) hp)
noncomputable def QgI (QZ : Den) (Q0 : Den) (QR : Den) (QP : Den) : DS := (Qe (QG (Qi 1 QZ [] (Qb (Qa 0) Qc))) (Qe (QG (Qi 2 Q0 [] (Qb (Qa 0) (Qb (Qae (Qb (Qa 1) Qc)) Qc)))) (Qe (Qw 2 (Qi 1 QR [] (Qb (Qa 0) Qc))) (Qe (Qw 3 (Qbf (Qae (Qb (dC .non) Qc)) (Qs (Qa 0) (dC (.int 0))))) (Qe (Qw 4 (QeG (Qs (Qa 0) (dC (.int 0))))) (Qe (Qa4 (QcE (dC (.int 1)) (QN (Qs (Qa 0) (dC (.int 0))) (dC (.int 1)))) (.nm 5) (Qe (Qw 7 (Q2 (QO (Qa 4)) (.nm 1) [none, none, some 4, some 1, some 2] (Qt (dOp gGe (Qs (Qa 3) (Qa 1)) (Qi 3 QP [] (Qb (Qs (Qa 4) (Qa 1)) (Qb (Qa 1) (Qb (Qa 2) Qc)))))) (Qa 1))) (Qe (Qa4 (QO (Qa 7)) (.nm 6) (Qe (Qck 3 QaE (Qa 6) (Qa 5)) Qf)) (Qe (Qw 4 (Q2 (QO (Qa 4)) (.nm 1) [none, none, some 7] (Qt (dOp (gIn true) (Qa 1) (Qa 2))) (Qa 1))) Qf)))) (Qe (QS (Qa 3)) Qf)))))))
theorem QmB {fa fb : DE} {ρ : En} {ra rb : R} {i j : Int} {n : Nat} (ha : fa ρ = some ra) (ea : ra.d = .int i) (hb : fb ρ = some rb) (eb : rb.d = .int j) (hn : (n : Int) = j - i) (hl : n <= 16777216) (h1 : -(2 ^ 62) <= i) (h2 : i < 2 ^ 61) : QcE fa fb ρ = some ⟨(List.range n).map λ (k : Nat) => .int (i + k), []⟩ := by
 unfold QcE
 rw [ha, Za, hb, Za, ea, eb]
 show (if j - i <= 16777216 /\ _ then _ else _) = _
 rw [if_pos ⟨by omega, by omega, by omega, by omega, by omega⟩]
 rw [show (j - i).toNat = n by omega]
 rfl
def Qgf (d : Den) : Prop := ∀ (m : Nat) (R : List (Int × Int)) (h : Nat -> Int), 0 < m -> m <= 1000 -> R.length <= 1000 -> (∀ s ∈ R, Good m s) -> (∀ j, j < m -> 0 <= h j) -> d [Qg m R [], Qj m h] = some (QaT m (Qa8 (QE m (QQ R [])) h m m), true)
theorem Qpd {fa : DE} {ρ : En} {r : R} {n : Nat} (h : fa ρ = some r) (e : r.d = .int n) (hn : n <= 1000000) : QeG fa ρ = some ⟨Q7 (List.range n), true, []⟩ := by
 unfold QeG
 rw [h, Za, e]
 show (if 0 <= (n : Int) /\ (n : Int) <= 1000000 then some (HS.R.mk (.lst ((List.range (n : Int).toNat).map λ (k : Nat) => .int (k : Int))) true []) else none) = _
 rw [if_pos ⟨by omega, by omega⟩, ZR]
 rfl
theorem Qp9 {m : Nat} {F G : Nat -> Option Int} (h : ∀ i, i < m -> F i = G i) : QaT m F = QaT m G := by
 unfold QaT
 congr 1
 exact Zas λ i hi => by rw [h i (ZX.mp hi)]
theorem QoF {dp dh dt da : Den} (hp : Qfu dp) (hh : Qhr dh) (ht : QeT dt) (ha : Qhh da) : Qgf (Qn 8 (QgI dp dh dt da)) := λ m R h m0 hm hRl hR hpos => by
 have htoll := ht m R [] hm (by simp; omega) hR (λ s hs => absurd hs (by simp))
 have hneed := hh m R [] [h] m0 (λ g hg' j hj => by rw [Zw.mp hg']; exact hpos j hj)
 generalize QE m (QQ R []) = T at *
 refine Qbb ?_
 refine run_seq (QcA (QB (r := ⟨[Qg m R []], false, []⟩) rfl (hp m R) rfl) ?_)
 refine run_seq (QcA (QB (r := ⟨[Qg m R [], .lst [Qj m h]], false, []⟩) rfl hneed rfl) ?_)
 refine run_seq (Qv (QB (r := ⟨[Qg m R []], false, []⟩) rfl htoll rfl) ?_)
 rw [QD]
 refine run_seq (Qv (QoO (n := m) (r := ⟨.int m, true, []⟩) rfl rfl (by omega)) ?_)
 rw [QD]
 refine run_seq (Qv (Qpd (n := m) (r := ⟨.int m, true, []⟩) rfl rfl (by omega)) ?_)
 rw [QD]
 refine QcL (P := λ ρ => ∃ j4 j5 j6 j7, ρ = [some (Qg m R [], false), some (Qj m h, false), some (QaU m m T, true), some (QaT m (Qa8 T h m m), true), j4, j5, j6, j7]) ?_ ?_
 ·refine Qcg (toD := λ (k : Nat) => .int (1 + (k : Int))) (List.range m) (λ k ρ => ∃ j5 j6 j7, ρ = [some (Qg m R [], false), some (Qj m h, false), some (QaU m m T, true), some (QaT m (Qa8 T h m k), true), some (Q7 (QdK T h m k), true), j5, j6, j7]) (QmB (n := m) (i := 1) (j := (m : Int) + 1) rfl rfl (Qal (a := m) (b := 1) rfl rfl rfl rfl) rfl (by omega) (by omega) (by decide) (by decide)) rfl ⟨none, none, none, rfl⟩ ?_ ?_
  ·rintro k k' ρ hk ⟨j5, j6, j7, rfl⟩
   have hk' : k < m /\ k = k' := by
    obtain ⟨h1, h2⟩ := Zi.mp hk
    simp at h1 h2; exact ⟨h1, h2⟩
   obtain ⟨hkm, rfl⟩ := hk'
   refine ⟨_, rfl, ?_⟩
   generalize el : QdK T h m k = l
   have hl : ∀ p ∈ l, p < m := λ p hp => by rw [← el] at hp; exact Qpb hp
   have enext : QdK T h m (k + 1) = Qg1 T h l := by rw [← el]; rfl
   have efire : ∀ p, Qa8 T h m (k + 1) p = if p ∈ Qad T h l then some ((k : Int) + 1) else Qa8 T h m k p := λ p => by rw [← el]; rfl
   rw [enext]
   refine run_seq (Qv (r := ⟨Q7 (Qad T h l), true, []⟩) ?_ ?_)
   ·refine Qfy (fi := QO (Qa 4)) (t := .nm 1) (cap := [none, none, some 4, some 1, some 2]) (ft := Qt (dOp gGe (Qs (Qa 3) (Qa 1)) (Qi 3 da [] (Qb (Qs (Qa 4) (Qa 1)) (Qb (Qa 1) (Qb (Qa 2) Qc)))))) (fe := Qa 1) (ρ := [some (Qg m R [], false), some (Qj m h, false), some (QaU m m T, true), some (QaT m (Qa8 T h m k), true), some (Q7 l, true), some (.int (1 + (k : Int)), true), j6, j7])
     (toD := λ (p : Nat) => .int (p : Int)) (keep := λ p => decide (QgG T p l <= h p)) (out := λ (p : Nat) => .int (p : Int)) l (Qcy (r := ⟨Q7 l, true, [4]⟩) rfl rfl) rfl λ p hp => ⟨[none, some (.int p, true), some (Q7 l, false), some (Qj m h, false), some (QaU m m T, false)], rfl, ?_, λ _ => ⟨_, rfl, rfl, rfl⟩⟩
    have hpm := hl p hp
    refine QaA (Qbi (d := .bl (decide (QgG T p l <= h p))) (Qjz (m := m) (f := h) (i := p) (ra := ⟨Qj m h, false, []⟩) rfl rfl rfl rfl hpm) (QB (Qm (QpS (m := m) (n := m) (f := T) (i := p) (ra := ⟨QaU m m T, false, []⟩) rfl rfl rfl rfl (by omega) (by omega)) (rs := ⟨[.int p, Q7 l], false, []⟩) rfl) (ha m (T (p : Int).toNat) p l λ o ho => hl o ho) rfl) ?_) rfl
    show some (D.bl (decide (((l.filter λ o => decide (o ≠ p)).map (T (p : Int).toNat)).sum <= h p))) = _
    rw [ZR]
    rfl
   rw [QD]
   refine QcL (P := λ ρ => ∃ j6 b7, ρ = [some (Qg m R [], false), some (Qj m h, false), some (QaU m m T, true), some (QaT m (Qa8 T h m (k + 1)), true), some (Q7 l, true), some (.int (1 + (k : Int)), true), j6, some (Q7 (Qad T h l), b7)]) ?_ ?_
   ·refine Qcg (toD := λ (p : Nat) => .int (p : Int)) (Qad T h l) (λ i ρ => ∃ F j6, (∀ p, F p = if p ∈ (Qad T h l).take i then some ((k : Int) + 1) else Qa8 T h m k p) /\ ρ = [some (Qg m R [], false), some (Qj m h, false), some (QaU m m T, true), some (QaT m F, true), some (Q7 l, true), some (.int (1 + (k : Int)), true), j6, some (Q7 (Qad T h l), false)]) (Qcy (r := ⟨Q7 (Qad T h l), true, [7]⟩) rfl rfl) rfl ⟨Qa8 T h m k, j6, λ p => by simp, rfl⟩ ?_ ?_
    ·rintro i p ρ hi ⟨F, j6, hF, rfl⟩
     have hpm := hl p (Qmk.mp (Zap hi)).1
     refine ⟨_, rfl, run_seq (Qn3 (m := m) (F := F) (i := p) (v := 1 + (k : Int)) rfl rfl rfl rfl rfl (by omega) (by omega) (Qu ⟨_, _, λ q => ?_, rfl⟩))⟩
     have etake : (Qad T h l).take (i + 1) = (Qad T h l).take i ++ [p] := by
      rw [List.take_succ, hi]; rfl
     rw [etake]
     unfold upO
     rw [ZR]
     by_cases hq : q = p
     ·subst hq
      rw [if_pos rfl, if_pos (by simp)]
      congr 1; omega
     ·rw [if_neg hq, hF q]
      by_cases h2 : q ∈ (Qad T h l).take i
      ·rw [if_pos h2, if_pos (Zd _ h2)]
      ·rw [if_neg h2, if_neg (λ z => by
        rcases ZD.mp z with z | z
        ·exact h2 z
        ·exact hq (Zw.mp z))]
    ·rintro ρ ⟨F, j6, hF, rfl⟩
     rw [Zbe] at hF
     refine ⟨j6, false, ?_⟩
     rw [Qp9 (F := F) (G := Qa8 T h m (k + 1)) λ p _ => by rw [hF p, efire p]]
   rintro ρ ⟨j6, b7, rfl⟩
   refine run_seq (Qv (r := ⟨Q7 (Qg1 T h l), true, []⟩) ?_ (Qu ?_))
   ·refine Qfy (fi := QO (Qa 4)) (t := .nm 1) (cap := [none, none, some 7]) (ft := Qt (dOp (gIn true) (Qa 1) (Qa 2))) (fe := Qa 1)
     (toD := λ (p : Nat) => .int (p : Int)) (keep := λ p => !(Qad T h l).contains p) (out := λ (p : Nat) => .int (p : Int)) l (Qcy (r := ⟨Q7 l, true, [4]⟩) rfl rfl) rfl λ p hp => ⟨[none, some (.int p, true), some (Q7 (Qad T h l), false)], by cases b7 <;> rfl, QaA (Qq1 (neg := true) (o := p) (l := Qad T h l) rfl rfl (rb := ⟨Q7 (Qad T h l), false, []⟩) rfl rfl) rfl, λ _ => ⟨_, rfl, rfl, rfl⟩⟩
   rw [QD]
   exact ⟨_, _, _, rfl⟩
  ·rintro ρ ⟨j5, j6, j7, rfl⟩
   rw [ZV]
   exact ⟨_, _, _, _, rfl⟩
 rintro ρ ⟨j4, j5, j6, j7, rfl⟩
 exact Qaq (r := ⟨QaT m (Qa8 T h m m), true, [3]⟩) rfl ⟨rfl, rfl⟩
noncomputable def Qdn (Qy : Den) : DS := (Qe (Qw 1 (QN (dC (.int 1)) (dOp Qaa (Qi 2 Qy [] (Qb (Qa 0) (Qb (dC (.int 0)) Qc))) (dC (.int 8))))) (Qe (Qw 2 (dOp Qaa (Qi 2 Qy [] (Qb (Qa 0) (Qb (dC (.int 1)) Qc))) (dC (.int 1000003)))) (Qe (Qw 3 (Qae Qc)) (Qe (Qa4 (QbV (Qa 1)) (.nm 4) (Qe (Qw 5 (dOp Qaa (Qbf (Qbf (QN (Qa 2) (dC (.int 17))) (QN (QN (Qbf (Qa 4) (Qa 4)) (Qbf (dC (.int 7)) (Qa 4))) (dC (.int 11)))) (dC (.int 69621))) (dC (.int 2147483647)))) (Qe (Qw 6 (Qei (Qa 1))) (Qe (sIf (Qt (dOp gLt (dOp Qaa (Qa 5) (QN (Qa 4) (dC (.int 1)))) (Qa 4))) (Qe (Qw 6 (dOp Qaa (QN (dOp Qaa (Qa 5) (QN (Qa 4) (dC (.int 1)))) (Qa 2)) (Qa 1))) Qf) Qf) (Qe (Qdq 3 QaE (Qa9 (Qb (dOp Qaa (QN (Qa 4) (Qa 2)) (Qa 1)) (Qb (Qa 6) Qc)))) Qf))))) (Qe (Qa4 (QO (QbA (Qa 0) (QaR (dC (.int 2))) (QaR (dC (.int 26))))) (.nm 7) (Qe (Qw 5 (dOp Qaa (Qbf (Qa 7) (dC (.int 48271))) (dC (.int 2147483647)))) (Qe (Qw 8 (dOp Qaa (Qa 5) (QN (Qa 1) (dC (.int 1))))) (Qe (Qdq 3 QaE (Qa9 (Qb (Qa 8) (Qb (dOp Qaa (QN (QN (Qa 8) (dC (.int 1))) (dOp Qaa (dOp QcD (Qa 5) (dC (.int 9))) (Qa 1))) (QN (Qa 1) (dC (.int 1)))) Qc)))) Qf)))) (Qe (sIf (Qt (dOp gEq (dOp Qaa (Qa 2) (dC (.int 2))) (dC (.int 1)))) (Qe (Qw 3 (QiU (Qa 3) (Qi1 (dC (.int 1))))) Qf) Qf) (Qe (QS (Qa9 (Qb (Qa 1) (Qb (Q2 (QO (Qa 3)) (.nm 1) [none, none] Qca (Qa9 (Qb (dBf QbE (Qb (Qa 1) Qc)) (Qb (dBf Qes (Qb (Qa 1) Qc)) Qc)))) (Qb (Qae Qc) Qc))))) Qf)))))))
def Qjj (d : Den) : Prop := ∀ ns : List Int, ns.length <= 63 -> ∃ (m : Nat) (R : List (Int × Int)), d [.lst (ns.map .int)] = some (Qg m R [], true) /\ 0 < m /\ m <= 8 /\ QeE m R []
noncomputable def prs (W : List (Int × Int × Bool)) : List (Int × Int) := W.map Qa1
theorem QnX {fa : DE} {ρ : En} {r : R} {s : Int × Int} (h : fa ρ = some r) (e : r.d = pairD s) : dBf QbE (Qb fa Qc) ρ = some ⟨.int (if s.2 < s.1 then s.2 else s.1), true, []⟩ := by
 unfold dBf
 rw [Qm h (QT _), Za]
 simp only [e, pairD, QbE]
 rfl
theorem Qng {fa : DE} {ρ : En} {r : R} {s : Int × Int} (h : fa ρ = some r) (e : r.d = pairD s) : dBf Qes (Qb fa Qc) ρ = some ⟨.int (if s.1 < s.2 then s.2 else s.1), true, []⟩ := by
 unfold dBf
 rw [Qm h (QT _), Za]
 simp only [e, pairD, Qes]
 rfl
theorem QmE {x : Nat} {A : List (Int × Int)} {ρ : En} {b : Bool} (h : ρ[x]? = some (some (Qp A, b))) : QiU (Qa x) (Qi1 (dC (.int 1))) ρ = some ⟨Qp A.reverse, true, []⟩ := by
 unfold QiU
 rw [QgP h, Za]
 have e : (if (Qp A).flat = true then HS.R.mk (Qp A) true [] else if b = true then HS.R.mk (Qp A) true [x] else HS.R.mk (Qp A) false []).d = Qp A := by cases b <;> rfl
 rw [e]
 show some (Qav (A.map pairD).reverse _) = _
 rw [← List.map_reverse]
 unfold Qav
 rw [if_pos (QbI (λ _ => rfl) _)]; rfl
theorem QoP {dc : Den} (hc : Qfm dc) : Qjj (Qn 9 (Qdn dc)) := λ ns hl => by
 have b1 := ZC (ns.getD 0 0) (by decide : (8 : Int) ≠ 0)
 have b2 := ZE (ns.getD 0 0) (by decide : (0 : Int) < 8)
 obtain ⟨m, em⟩ : ∃ m : Nat, (m : Int) = 1 + ns.getD 0 0 % 8 := ⟨(1 + ns.getD 0 0 % 8).toNat, by omega⟩
 have m0 : 0 < m := by omega
 have m8 : m <= 8 := by omega
 have t1 := ZC (ns.getD 1 0) (by decide : (1000003 : Int) ≠ 0)
 have t2 := ZE (ns.getD 1 0) (by decide : (0 : Int) < 1000003)
 generalize et : ns.getD 1 0 % 1000003 = t at t1 t2
 have key : Run (Qdn dc) (Qam 9 [.lst (ns.map .int)]) (Rt λ d fr => ∃ R, d = Qg m R [] /\ fr = true /\ QeE m R []) := by
  have cell : ∀ (ρ : En) (k : Nat), ρ[0]? = some (some (.lst (ns.map .int), false)) -> Qi 2 dc [] (Qb (Qa 0) (Qb (dC (.int k)) Qc)) ρ = some ⟨.int (ns.getD k 0), true, []⟩ := λ ρ k h0 => by
   refine QB (Qm (QgP h0) (Qm (Qg3 _ _) (QT _))) ?_ rfl
   exact hc ns k
  refine run_seq (Qv (Qal (a := 1) rfl rfl (Q8 (b := 8) (cell _ 0 rfl) rfl rfl rfl (by decide)) rfl) ?_)
  rw [QD, ← em]
  refine run_seq (Qv (Q8 (b := 1000003) (cell _ 1 rfl) rfl rfl rfl (by decide)) ?_)
  rw [QD, et]
  refine run_seq (Qv (r := ⟨Qp [], true, []⟩) rfl ?_)
  rw [QD]
  refine QcL (P := λ ρ => ∃ j4 j5 j6, ρ = [some (.lst (ns.map .int), false), some (.int m, true), some (.int t, true), some (Qp (prs (QaX m t 0)), true), j4, j5, j6, none, none]) ?_ ?_
  ·refine Qcg (toD := λ (k : Nat) => .int (k : Int)) (List.range m) (λ i ρ => ∃ j4 j5 j6, ρ = [some (.lst (ns.map .int), false), some (.int m, true), some (.int t, true), some (Qp (prs ((List.range i).map λ (k : Nat) => Qc5 m t 0 k)), true), j4, j5, j6, none, none]) (Qew (n := m) (r := ⟨.int m, true, []⟩) rfl rfl (by omega)) rfl ⟨none, none, none, rfl⟩ ?_ ?_
   ·rintro i k ρ hi ⟨j4, j5, j6, rfl⟩
    have hk : i < m /\ i = k := by
     obtain ⟨h1, h2⟩ := Zi.mp hi
     simp at h1 h2; exact ⟨h1, h2⟩
    obtain ⟨hk, rfl⟩ := hk
    refine ⟨_, rfl, ?_⟩
    have n1 : (t + 17).natAbs < 2 ^ 64 := by omega
    have n2 : (69621 : Int).natAbs < 2 ^ 64 := by decide
    refine run_seq (Qv (r := ⟨.int (QaO t i), true, []⟩) ?_ ?_)
    ·exact Q8 (QcT (QcT (Qal (a := t) (b := 17) rfl rfl rfl rfl) rfl (Qal (Qal (QcT (a := (i : Int)) (b := i) rfl rfl rfl rfl (QfH (by omega))) rfl (QcT (a := 7) (b := (i : Int)) rfl rfl rfl rfl (QfH (by decide))) rfl) rfl (Qg3 (.int 11) _) rfl) rfl (QfH n1)) rfl (Qg3 (.int 69621) _) rfl (QfE n2)) rfl (Qg3 (.int 2147483647) _) rfl (by decide)
    ·rw [QD]
     refine run_seq (Qv (r := ⟨.int m, false, []⟩) rfl ?_)
     rw [QnU rfl]
     refine QcL (P := λ ρ => ρ = [some (.lst (ns.map .int), false), some (.int m, true), some (.int t, true), some (Qp (prs ((List.range i).map λ (k : Nat) => Qc5 m t 0 k)), true), some (.int i, true), some (.int (QaO t i), true), some (.int (Qc2 m t i), true), none, none]) ?_ ?_
     ·have e1 : ∀ (ρ : En), ρ = [some (.lst (ns.map .int), false), some (.int m, true), some (.int t, true), some (Qp (prs ((List.range i).map λ (k : Nat) => Qc5 m t 0 k)), true), some (.int i, true), some (.int (QaO t i), true), some (.int m, true), none, none] -> dOp Qaa (Qa 5) (QN (Qa 4) (dC (.int 1))) ρ = some ⟨.int (QaO t i % (i + 1)), true, []⟩ := by
       rintro ρ rfl
       exact Q8 (a := QaO t i) (b := (i : Int) + 1) rfl rfl (Qal (a := (i : Int)) (b := 1) rfl rfl rfl rfl) rfl (by omega)
      refine Qak (b := decide (QaO t i % (i + 1) < i)) (QaA (Qbi (e1 _ rfl) rfl rfl) rfl) (λ h => ?_) (λ h => ?_)
      ·have h := of_decide_eq_true h
       refine run_seq (Qv (Q8 (a := QaO t i % (i + 1) + t) (b := m) (Qal (a := QaO t i % (i + 1)) (b := t) (e1 _ rfl) rfl rfl rfl) rfl rfl rfl (by omega)) (Qu ?_))
       rw [QD]
       unfold Qc2
       rw [if_pos h]; rfl
      ·have h := of_decide_eq_false h
       refine Qu ?_
       unfold Qc2
       rw [if_neg h]; rfl
     rintro ρ rfl
     refine run_seq (QiB (A := prs ((List.range i).map λ (k : Nat) => Qc5 m t 0 k)) (p := Qa1 (Qc5 m t 0 i)) (r := ⟨pairD (Qa1 (Qc5 m t 0 i)), true, []⟩) rfl ?_ rfl (by simp [prs]; omega) (Qu ⟨some (.int i, true), some (.int (QaO t i), true), some (.int (Qc2 m t i), true), ?_⟩))
     ·have e2 : dOp Qaa (QN (Qa 4) (Qa 2)) (Qa 1) [some (.lst (ns.map .int), false), some (.int m, true), some (.int t, true), some (Qp (prs ((List.range i).map λ (k : Nat) => Qc5 m t 0 k)), true), some (.int i, true), some (.int (QaO t i), true), some (.int (Qc2 m t i), true), none, none] = some ⟨.int ((i + t) % m), true, []⟩ :=
       Q8 (a := (i : Int) + t) (b := m) (Qal (a := (i : Int)) (b := t) rfl rfl rfl rfl) rfl rfl rfl (by omega)
      unfold Qa9
      refine (congrArg (λ z => Option.bind z _) (Qm e2 (Qm (r := ⟨.int (Qc2 m t i), true, []⟩) rfl (QT _)))).trans ?_
      rfl
     ·show _ = [some (.lst (ns.map .int), false), some (.int m, true), some (.int t, true), some (Qp (prs ((List.range (i + 1)).map λ (k : Nat) => Qc5 m t 0 k)), true), some (.int i, true), some (.int (QaO t i), true), some (.int (Qc2 m t i), true), none, none]
      unfold prs
      rw [Zbh, Zaa, Zaa]
      rfl
   ·rintro ρ ⟨j4, j5, j6, rfl⟩
    rw [ZV]
    exact ⟨_, _, _, rfl⟩
  rintro ρ ⟨j4, j5, j6, rfl⟩
  obtain ⟨cs, hcs, esl⟩ := QnH (a := 2) (b := 26) (fa := Qa 0) (ns := ns) (ρ := [some (.lst (ns.map .int), false), some (.int m, true), some (.int t, true), some (Qp (prs (QaX m t 0)), true), j4, j5, j6, none, none]) rfl rfl
  refine QcL (P := λ ρ => ∃ j5 j6 j7 j8 j4, ρ = [some (.lst (ns.map .int), false), some (.int m, true), some (.int t, true), some (Qp (prs (QaX m t 0 ++ cs.map (Qcn m 0))), true), j4, j5, j6, j7, j8]) ?_ ?_
  ·refine Qcg (toD := D.int) cs (λ i ρ => ∃ j5 j7 j8, ρ = [some (.lst (ns.map .int), false), some (.int m, true), some (.int t, true), some (Qp (prs (QaX m t 0 ++ (cs.take i).map (Qcn m 0))), true), j4, j5, j6, j7, j8]) (Qcy esl rfl) rfl ⟨j5, none, none, ?_⟩ ?_ ?_
   ·rw [Zbk, ZaE, Zah]; rfl
   ·rintro i c ρ hi ⟨j5, j7, j8, rfl⟩
    have hil : i < cs.length := (Zi.mp hi).1
    refine ⟨_, rfl, ?_⟩
    refine run_seq (Qv (Q8 (b := 2147483647) (QcT (a := c) (b := 48271) rfl rfl rfl rfl (QfE (by decide))) rfl rfl rfl (by decide)) ?_)
    rw [QD]
    refine run_seq (Qv (Q8 (a := Qb0 c) (b := (m : Int) + 1) rfl rfl (Qal (a := (m : Int)) (b := 1) rfl rfl rfl rfl) rfl (by omega)) ?_)
    rw [QD]
    refine run_seq (QiB (A := prs (QaX m t 0 ++ (cs.take i).map (Qcn m 0))) (p := Qa1 (Qcn m 0 c)) (r := ⟨pairD (Qa1 (Qcn m 0 c)), true, []⟩) rfl ?_ rfl (by simp [prs, QiI]; omega) (Qu ⟨some (.int (Qb0 c), true), some (.int c, true), some (.int (mStart m c), true), ?_⟩))
    ·unfold Qa9
     refine (congrArg (λ z => Option.bind z _) (Qm (r := ⟨.int (mStart m c), true, []⟩) rfl (Qm (Q8 (a := mStart m c + 1 + Qb0 c / 9 % m) (b := (m : Int) + 1) (Qal (Qal (a := mStart m c) (b := 1) rfl rfl rfl rfl) rfl (Q8 (a := Qb0 c / 9) (b := m) (QdC (a := Qb0 c) (b := 9) rfl rfl rfl rfl (by decide) (by decide)) rfl rfl rfl (by omega)) rfl) rfl (Qal (a := (m : Int)) (b := 1) rfl rfl rfl rfl) rfl (by omega)) (QT _)))).trans ?_
     rfl
    ·have et : cs.take (i + 1) = cs.take i ++ [c] := by rw [List.take_succ, hi]; rfl
     rw [et]
     have ep : prs (QaX m t 0 ++ (cs.take i ++ [c]).map (Qcn m 0)) = prs (QaX m t 0 ++ (cs.take i).map (Qcn m 0)) ++ [Qa1 (Qcn m 0 c)] := by
      unfold prs
      simp only [Zaa, Zax, Zt, ZaE]
     rw [ep]
     rfl
   ·rintro ρ ⟨j5, j7, j8, rfl⟩
    rw [Zbe]
    exact ⟨_, _, _, _, _, rfl⟩
  rintro ρ ⟨j5, j6, j7, j8, j4, rfl⟩
  have hbase : ∀ w ∈ QaX m t 0 ++ cs.map (Qcn m 0), GoodW m w := λ w hw => by
   rcases ZD.mp hw with h | h
   ·exact QnV w h
   ·obtain ⟨c, _, rfl⟩ := ZH.mp h
    exact QlC m0 0 c
  have hlen : (QaX m t 0 ++ cs.map (Qcn m 0)).length <= 200 := by rw [Zp, QiI, Zs]; omega
  refine QcL (P := λ ρ => ∃ W b, (∀ w ∈ QaX m t 0, w ∈ W) /\ (∀ w ∈ W, GoodW m w) /\ W.length <= 200 /\ ρ = [some (.lst (ns.map .int), false), some (.int m, true), some (.int t, true), some (Qp (prs W), b), j4, j5, j6, j7, j8]) ?_ ?_
  ·refine Qak (QaA (Qi4 (b := 1) (Q8 (a := t) (b := 2) rfl rfl rfl rfl (by decide)) rfl rfl rfl) rfl) (λ _ => ?_) (λ _ => ?_)
   ·refine run_seq (Qv (QmE (x := 3) (A := prs (QaX m t 0 ++ cs.map (Qcn m 0))) rfl) (Qu ?_))
    rw [QD]
    refine ⟨(QaX m t 0 ++ cs.map (Qcn m 0)).reverse, true, λ w hw => List.mem_reverse.mpr (Zd _ hw), λ w hw => hbase w (List.mem_reverse.mp hw), by rw [ZaT]; exact hlen, ?_⟩
    unfold prs
    rw [List.map_reverse]; rfl
   ·exact Qu ⟨_, true, λ w hw => Zd _ hw, hbase, hlen, rfl⟩
  rintro ρ ⟨W, b, w1, w2, w3, rfl⟩
  have er := Qce (fi := QO (Qa 3)) (t := .nm 1) (cap := [none, none]) (fe := Qa9 (Qb (dBf QbE (Qb (Qa 1) Qc)) (Qb (dBf Qes (Qb (Qa 1) Qc)) Qc))) (ρ := [some (.lst (ns.map .int), false), some (.int m, true), some (.int t, true), some (Qp (prs W), b), j4, j5, j6, j7, j8])
   (toD := λ w => pairD (Qa1 w)) (out := λ w => pairD (Qbn w)) W (Qcy (QgP rfl) (by cases b <;> rfl)) (by show List.map pairD (W.map Qa1) = _; rw [Zad]; rfl) λ w _ => ⟨[none, some (pairD (Qa1 w), true)], rfl, ⟨pairD (Qbn w), true, []⟩, by
    unfold Qa9
    refine (congrArg (λ z => Option.bind z _) (Qm (QnX (s := Qa1 w) (r := ⟨pairD (Qa1 w), true, []⟩) rfl rfl) (Qm (Qng (s := Qa1 w) (r := ⟨pairD (Qa1 w), true, []⟩) rfl rfl) (QT _)))).trans ?_
    rfl, rfl, rfl⟩
  refine Qaq (r := ⟨Qg m (W.map Qbn) [], true, []⟩) ?_ ⟨W.map Qbn, rfl, rfl, Qlr (QmT.mono w1) w2 w3⟩
  unfold Qa9
  refine (congrArg (λ z => Option.bind z _) (Qm (r := ⟨.int m, true, []⟩) rfl (Qm er (Qm (r := ⟨.lst [], true, []⟩) rfl (QT _))))).trans ?_
  show some _ = some _
  congr 2
  unfold Qg Qp
  rw [Zad]
  rfl
 obtain ⟨o, h1, h2⟩ := key
 cases o with
 | rt d fr =>
  obtain ⟨R, rfl, rfl, h3⟩ := h2
  exact ⟨m, R, by unfold Qn; rw [h1]; rfl, m0, m8, h3⟩
 | _ => exact h2.elim
theorem Qkn : ∀ bs : List Bool, Qhn (bs.map D.bl) = some bs
 | [] => rfl
 | b :: bs => by
  show Option.bind (some b) (λ i => (Qhn (bs.map D.bl)).map λ r => i :: r) = _
  rw [Qkn bs]; rfl
theorem QpC {fa : DE} {ρ : En} {r : R} {m : Nat} {g : Nat -> Bool} (h : fa ρ = some r) (e : r.d = .lst ((List.range m).map λ i => .bl (g i))) : dBf Qep (Qb fa Qc) ρ = some ⟨.bl ((List.range m).all g), true, []⟩ := by
 unfold dBf
 rw [Qm h (QT _), Za]
 have : ((List.range m).map λ i => D.bl (g i)) = (((List.range m).map g).map D.bl) := by rw [Zad]; rfl
 simp only [e, Qep, this, Qkn, ZP]
 rw [List.all_map]; rfl
theorem Qp2 (n m : Nat) (F : Nat -> Option Int) : (QaT m F).sim (n + 1) = true := by
 unfold QaT
 simp only [D.sim, List.all_map, ZW]
 intro p _
 show (Qda (F p)).sim n = true
 cases F p <;> cases n <;> rfl
theorem QpN {m : Nat} {F : Nat -> Option Int} : ((List.range m).map λ i => Qda (F i)).any (λ y => deq y .non) = (List.range m).any λ i => (F i).isNone := by
 rw [List.any_map]
 congr 1
 funext i
 show deq (Qda (F i)) .non = (F i).isNone
 cases F i <;> rfl
theorem Ql8 {neg : Bool} {fb : DE} {ρ : En} {rb : R} {m : Nat} {F : Nat -> Option Int} (hb : fb ρ = some rb) (eb : rb.d = QaT m F) : dOp (gIn neg) (dC .non) fb ρ = some ⟨.bl (if neg then !((List.range m).any λ i => (F i).isNone) else (List.range m).any λ i => (F i).isNone), true, []⟩ := by
 refine Qbi (ra := ⟨.non, true, []⟩) rfl hb ?_
 rw [eb]
 show (if D.non.sim 8 && (QaT m F).sim 8 then some (D.bl (if neg then !(((List.range m).map λ i => Qda (F i)).any λ y => deq y .non) else ((List.range m).map λ i => Qda (F i)).any λ y => deq y .non)) else none) = _
 rw [Qp2 7 m F, QpN]
 rfl
noncomputable def Qb9 (QM : Den) (Qar : Den) : DS := (Qe (Qw 2 (Qi 2 QM [] (Qb (Qa 0) (Qb (Qa 1) Qc)))) (Qe (Qw 3 (dBf Qep (Qb (Q2 (QeB (Qa 1) (Qi 1 Qar [] (Qb (Qa 0) Qc))) (.tp [1, 2]) [none, none, none] Qca (dOp gLt (Qa 1) (Qa 2))) Qc))) (Qe (QS (QdE (Qa 3) (dOp (gIn true) (dC .non) (Qa 2)))) Qf)))
noncomputable def Ql5 (R : List (Int × Int)) (m : Nat) (h : Nat -> Int) (F : Nat -> Option Int) : Bool := (List.range m).all (λ j => decide (h j < Qa7 R [] j)) && !((List.range m).any λ i => (F i).isNone)
def QhG (d : Den) : Prop := ∀ (m : Nat) (R : List (Int × Int)) (h : Nat -> Int), 0 < m -> m <= 1000 -> R.length <= 1000 -> (∀ s ∈ R, Good m s) -> (∀ j, j < m -> 0 <= h j) -> d [Qg m R [], Qj m h] = some (.bl (Ql5 R m h (Qa8 (QE m (QQ R [])) h m m)), true)
theorem QmP {df ds : Den} (hf : Qgf df) (hs : Qi8 ds) : QhG (Qn 4 (Qb9 df ds)) := λ m R h m0 hm hRl hR hpos => by
 have ef := hf m R h m0 hm hRl hR hpos
 have es := hs m R [] hm (by simp; omega) hR (λ s hs => absurd hs (by simp))
 generalize Qa8 (QE m (QQ R [])) h m m = F at *
 refine Qbb ?_
 refine run_seq (Qv (QB (r := ⟨[Qg m R [], Qj m h], false, []⟩) rfl ef rfl) ?_)
 rw [QD]
 have ec := Qce (fi := QeB (Qa 1) (Qi 1 ds [] (Qb (Qa 0) Qc))) (t := .tp [1, 2]) (cap := [none, none, none]) (fe := dOp gLt (Qa 1) (Qa 2)) (ρ := [some (Qg m R [], false), some (Qj m h, false), some (QaT m F, true), none])
  (toD := λ (i : Nat) => .tup [.int (h i), .int (Qa7 R [] i)]) (out := λ (i : Nat) => .bl (decide (h i < Qa7 R [] i))) (List.range m) (Qpl (ra := ⟨Qj m h, false, []⟩) rfl rfl (QB (r := ⟨[Qg m R []], false, []⟩) rfl es rfl) rfl) rfl λ i _ => ⟨[none, some (.int (h i), true), some (.int (Qa7 R [] i), true)], rfl, ⟨.bl (decide (h i < Qa7 R [] i)), true, []⟩, rfl, rfl, rfl⟩
 refine run_seq (Qv (QpC (m := m) (g := λ i => decide (h i < Qa7 R [] i)) ec rfl) ?_)
 rw [QD]
 exact Qaq (Qfb (a := (List.range m).all λ j => decide (h j < Qa7 R [] j)) (b := !((List.range m).any λ i => (F i).isNone)) rfl (Ql8 (neg := true) (m := m) (F := F) (rb := ⟨QaT m F, true, [2]⟩) rfl rfl)) ⟨rfl, rfl⟩
end HS
namespace HS
open PySem PySem.Spec L2
def Ap (f : DS) (fx : DX) : Prop := ∀ ρ, fx ρ ≠ none -> f ρ = none
def ApF (d : Den) (xd : List D -> Option Str) : Prop := ∀ ds, xd ds ≠ none -> d ds = none
theorem QaS {f : DS} : Ap f xNo := λ ρ h => absurd rfl h
theorem QU {x : Str} {fs : DA} : Ap Qx (QcY x fs) := λ ρ h => rfl
theorem Qaj {f g : DS} {fx gx : DX} (a : Ap f fx) (b : Ap g gx) : Ap (Qe f g) (QA f fx gx) := λ ρ h => by
 unfold QA at h
 unfold Qe
 split at h
 ·rename_i ρ' e
  rw [e]
  exact b ρ' h
 ·exact absurd rfl h
 ·rename_i e
  rw [e]; rfl
theorem QbF {c : DT} {f g : DS} {fx gx : DX} (a : Ap f fx) (b : Ap g gx) : Ap (sIf c f g) (xIf c fx gx) := λ ρ h => by
 unfold xIf at h
 unfold sIf
 cases e : c ρ with
 | none => rfl
 | some v =>
  rw [e, Za] at h
  rw [Za]
  cases v with
  | true => rw [if_pos rfl] at h ⊢; exact a ρ h
  | false => rw [if_neg ZO] at h ⊢; exact b ρ h
theorem QaM {fi : DI} {t : Tg} {fb : DS} {fx : DX} (a : Ap fb fx) : Ap (Qa4 fi t fb) (QdU fi t fb fx) := λ ρ h => by
 unfold QdU at h
 unfold Qa4
 cases e : fi ρ with
 | none => rfl
 | some ir =>
  rw [e, Za] at h
  rw [Za]
  clear e
  revert h
  generalize ir.items = ds
  generalize QaL ir.M ρ = ρ0
  induction ds generalizing ρ0 with
  | nil => exact λ h => absurd rfl h
  | cons d ds ih =>
   intro h
   unfold QcN at h
   unfold QbR
   cases e1 : QaQ t d ρ0 with
   | none => rfl
   | some ρ1 =>
    rw [e1, Za] at h
    rw [Za]
    split at h
    ·rename_i ρ2 e2; rw [e2, Za]; exact ih ρ2 h
    ·rename_i ρ2 e2; rw [e2, Za]; exact ih ρ2 h
    ·exact absurd rfl h
    ·rename_i e2; rw [e2]; rfl
theorem Qhu {n : Nat} {d : Den} {xd : List D -> Option Str} {fs : DA} (a : ApF d xd) {ρ : En} (h : QX n xd fs ρ ≠ none) : Qi n d [] fs ρ = none := by
 unfold QX at h
 unfold Qi
 cases e : fs ρ with
 | none => rfl
 | some r =>
  rw [e, Za] at h
  rw [Za]
  split at h
  ·rename_i hl
   rw [if_pos (by simpa using hl), Zah, a r.ds (λ z => h (by rw [z]; rfl))]; rfl
  ·exact absurd rfl h
theorem QK {n : Nat} {d : Den} {xd : List D -> Option Str} {fs : DA} (a : ApF d xd) : Ap (QG (Qi n d [] fs)) (QX n xd fs) := λ ρ h => by unfold QG; rw [Qhu a h]; rfl
theorem Qaz {n i : Nat} {d : Den} {xd : List D -> Option Str} {fs : DA} (a : ApF d xd) : Ap (Qw i (Qi n d [] fs)) (QX n xd fs) := λ ρ h => by unfold Qw; rw [Qhu a h]; rfl
theorem Qba {n : Nat} {d : Den} {xd : List D -> Option Str} {fs : DA} (a : ApF d xd) : Ap (QS (Qi n d [] fs)) (QX n xd fs) := λ ρ h => by unfold QS; rw [Qhu a h]; rfl
theorem Qgg {k : Nat} {f : DS} {fx : DX} (a : Ap f fx) : ApF (Qn k f) (Qax k fx) := λ ds h => by
 unfold Qax at h
 unfold Qn
 rw [a _ λ z => h (by rw [z]; rfl)]; rfl
def QcC (f : DX) (ρ : En) (x : Str) : Prop := ∃ ρ', f ρ = some (x, ρ')
theorem QfX {x : Str} {fs : DA} {ρ : En} {r : RA} (h : fs ρ = some r) (hl : r.ds.length <= 1) : QcC (QcY x fs) ρ x := ⟨ρ, by unfold QcY; rw [h, Za, if_pos hl]⟩
theorem QcJ {n : Nat} {xd : List D -> Option Str} {fs : DA} {ρ : En} {r : RA} {x : Str} (h : fs ρ = some r) (hl : r.ds.length = n) (hx : xd r.ds = some x) : QcC (QX n xd fs) ρ x := ⟨ρ, by unfold QX; rw [h, Za, if_pos hl, hx]; rfl⟩
theorem Qk3 {g : DT} {fa fb : DX} {b : Bool} {ρ : En} {x : Str} (h : g ρ = some b) (q1 : b = true -> QcC fa ρ x) (q2 : b = false -> QcC fb ρ x) : QcC (xIf g fa fb) ρ x := by
 cases b with
 | true => obtain ⟨o, h1⟩ := q1 rfl; exact ⟨o, by simp [xIf, h, h1]⟩
 | false => obtain ⟨o, h1⟩ := q2 rfl; exact ⟨o, by simp [xIf, h, h1]⟩
theorem Qan {f : DS} {fx fr : DX} {ρ : En} {x : Str} (a : Ap f fx) (q : QcC fx ρ x) : QcC (QA f fx fr) ρ x := by
 obtain ⟨o, h⟩ := q
 exact ⟨o, by unfold QA; rw [a ρ (by rw [h]; exact λ z => by cases z)]; exact h⟩
theorem QhC {f : DS} {fx fr : DX} {ρ : En} {x : Str} (h : Run f ρ (Nx λ ρ' => QcC fr ρ' x)) : QcC (QA f fx fr) ρ x := by
 obtain ⟨o, h1, h2⟩ := h
 cases o with
 | nx ρ' => obtain ⟨o, h3⟩ := h2; exact ⟨o, by unfold QA; rw [h1]; exact h3⟩
 | _ => exact h2.elim
theorem QlH {α : Type} {fi : DI} {t : Tg} {fb : DS} {fx : DX} {toD : α -> D} {ρ : En} {ir : IR} {c : Str} (a : Ap fb fx) (xs : List α) (I : Nat -> En -> Prop) (k : Nat) (hk : k < xs.length) (h : fi ρ = some ir) (hx : ir.items = xs.map toD) (h0 : I 0 (QaL ir.M ρ))
  (turn : ∀ i x ρ, i < k -> xs[i]? = some x -> I i ρ -> ∃ ρ1, QaQ t (toD x) ρ = some ρ1 /\ Run fb ρ1 (Nx λ ρ2 => I (i + 1) ρ2))
  (here : ∀ x ρ, xs[k]? = some x -> I k ρ -> ∃ ρ1, QaQ t (toD x) ρ = some ρ1 /\ QcC fx ρ1 c) : QcC (QdU fi t fb fx) ρ c := by
 unfold QcC QdU
 rw [h, Za, hx]
 clear h hx
 have gen : ∀ (n : Nat) (i : Nat) (ρ : En), k - i = n -> i <= k -> I i ρ -> ∃ ρ', QcN t fb fx ((xs.drop i).map toD) ρ = some (c, ρ') := by
  intro n
  induction n with
  | zero =>
   intro i ρ e hi hI
   obtain rfl : i = k := by omega
   rw [ZI hk, Zt]
   unfold QcN
   obtain ⟨ρ1, e1, ρ2, e2⟩ := here xs[i] ρ (by simp [hk]) hI
   refine ⟨ρ2, ?_⟩
   rw [e1, Za, a ρ1 (by rw [e2]; exact λ z => by cases z)]
   exact e2
  | succ n ih =>
   intro i ρ e hi hI
   have hlt : i < xs.length := by omega
   rw [ZI hlt, Zt]
   unfold QcN
   obtain ⟨ρ1, e1, o, e2, e3⟩ := turn i xs[i] ρ (by omega) (by simp [hlt]) hI
   cases o with
   | nx ρ2 =>
    obtain ⟨ρ', e4⟩ := ih (i + 1) ρ2 (by omega) (by omega) e3
    exact ⟨ρ', by rw [e1, Za, e2]; exact e4⟩
   | _ => exact e3.elim
 have := gen (k - 0) 0 _ rfl (ZL _) h0
 simpa using this
theorem QcQ {k : Nat} {f : DX} {ds : List D} {x : Str} (h : QcC f (Qam k ds) x) : Qax k f ds = some x := by
 obtain ⟨ρ, e⟩ := h
 unfold Qax
 rw [e]; rfl
theorem Qf3 {f : DS} {fx : DX} {sub : Str -> Str -> Option Bool} {y : Str} {h : DS} {r : List Hd} {x : Str} {ρ ρ' : En} {Q : Out -> Prop} (a : Ap f fx) (e : fx ρ = some (x, ρ')) (hs : sub x y = some true) (q : Run h ρ' Q) : Run (QdD f fx sub ((y, none, h) :: r)) ρ Q := by
 obtain ⟨o, h1, h2⟩ := q
 refine ⟨o, ?_, h2⟩
 unfold QdD
 rw [a ρ (by rw [e]; exact λ z => by cases z)]
 dsimp only
 rw [e, Za]
 unfold Qjs
 rw [hs, Za, if_pos rfl]
 exact h1
theorem Qn0 {f : DS} {fx : DX} {sub : Str -> Str -> Option Bool} {y : Str} {i : Nat} {h : DS} {r : List Hd} {x : Str} {ρ ρ' : En} {Q : Out -> Prop} (a : Ap f fx) (e : fx ρ = some (x, ρ')) (hs : sub x y = some true) (q : Run h (ρ'.set i (some (.exc x, true))) λ o => Q (Qqr i o)) : Run (QdD f fx sub ((y, some i, h) :: r)) ρ Q := by
 obtain ⟨o, h1, h2⟩ := q
 refine ⟨_, ?_, h2⟩
 unfold QdD
 rw [a ρ (by rw [e]; exact λ z => by cases z)]
 dsimp only
 rw [e, Za]
 unfold Qjs
 rw [hs, Za, if_pos rfl]
 dsimp only
 rw [h1]; rfl
noncomputable def QcR : DX := (QA (Qa4 (QO (Qa 1)) (.nm 2) (Qe (sIf (Qt (dOp gNe (dBf QcF (Qb (Qa 2) Qc)) (Qs (Qa 0) (dC (.int 0))))) (Qe Qx Qf) Qf) Qf)) (QdU (QO (Qa 1)) (.nm 2) (Qe (sIf (Qt (dOp gNe (dBf QcF (Qb (Qa 2) Qc)) (Qs (Qa 0) (dC (.int 0))))) (Qe Qx Qf) Qf) Qf) (QA (sIf (Qt (dOp gNe (dBf QcF (Qb (Qa 2) Qc)) (Qs (Qa 0) (dC (.int 0))))) (Qe Qx Qf) Qf) (xIf (Qt (dOp gNe (dBf QcF (Qb (Qa 2) Qc)) (Qs (Qa 0) (dC (.int 0))))) (QA Qx (QcY "NoRow" (Qb (dC (.str "a row has one number for each place of the net, a full row one more")) Qc)) xNo) xNo) xNo)) xNo)
theorem Qpt : ApF (Qn 3 Qb7) (Qax 3 QcR) := Qgg (by unfold Qb7 QcR; repeat (first | exact QaS | exact QU | assumption | apply Qaj | apply QbF | apply QaM | apply QK | apply Qaz | apply Qba))
def QkE (xd : List D -> Option Str) : Prop := ∀ (m : Int) (R L : List (Int × Int)) (xs : List (List D)) (k : Nat), k < xs.length -> (∀ i x, i < k -> xs[i]? = some x -> (x.length : Int) = m) -> (∀ x, xs[k]? = some x -> (x.length : Int) ≠ m) -> xd [Qg m R L, .lst (xs.map .lst)] = some "NoRow"
theorem QmS : QkE (Qax 3 QcR) := λ m R L xs k hk h1 h2 => by
 refine QcQ (Qan (QaM (by repeat (first | exact QaS | exact QU | assumption | apply Qaj | apply QbF | apply QaM | apply QK | apply Qaz | apply Qba))) (QlH (by repeat (first | exact QaS | exact QU | assumption | apply Qaj | apply QbF | apply QaM | apply QK | apply Qaz | apply Qba)) (toD := λ x => .lst x) xs (λ _ ρ => ∃ j2, ρ = [some (Qg m R L, false), some (.lst (xs.map .lst), false), j2]) k hk (ir := ⟨xs.map .lst, []⟩) rfl rfl ⟨none, rfl⟩ ?_ ?_))
 ·rintro i x ρ hi hx ⟨j2, rfl⟩
  refine ⟨_, rfl, ?_⟩
  refine run_seq (Qak (b := false) (QaA (Qgx (Qfp (xs := x) (r := ⟨.lst x, false, []⟩) rfl rfl) rfl (QfJ (m := m) (R := R) (L := L) (r := ⟨Qg m R L, false, []⟩) rfl rfl).1 rfl) (by simp [h1 i x hi hx])) (λ h => by cases h) (λ _ => Qu (Qu ⟨_, rfl⟩)))
 ·rintro x ρ hx ⟨j2, rfl⟩
  refine ⟨_, rfl, ?_⟩
  refine Qan (by repeat (first | exact QaS | exact QU | assumption | apply Qaj | apply QbF | apply QaM | apply QK | apply Qaz | apply Qba)) (Qk3 (b := true) (QaA (Qgx (Qfp (xs := x) (r := ⟨.lst x, false, []⟩) rfl rfl) rfl (QfJ (m := m) (R := R) (L := L) (r := ⟨Qg m R L, false, []⟩) rfl rfl).1 rfl) (by simp [h2 x hx])) (λ _ => ?_) (λ h => by cases h))
  exact Qan QU (QfX rfl (Zj _))
end HS
namespace HS
open PySem L2
theorem Qd9 {n : Nat} {d : Den} {xd : List D -> Option Str} {fs : DA} {ρ : En} {r : RA} {x : Str} (a : ApF d xd) (h : fs ρ = some r) (hl : r.ds.length = n) (hx : xd r.ds = some x) : QA (QG (Qi n d [] fs)) (QX n xd fs) xNo ρ = some (x, ρ) := by
 have e : QX n xd fs ρ = some (x, ρ) := by unfold QX; rw [h, Za, if_pos hl, hx]; rfl
 unfold QA
 rw [QK a ρ (by rw [e]; exact λ z => by cases z)]
 exact e
theorem Qgv {sub : Str -> Str -> Option Bool} {ys : List Str} {fa : DE} {ρ : En} {x : Str} {b : Bool} (h : fa ρ = some ⟨.exc x, true, []⟩) (hs : anyS sub x ys = some b) : QdX sub ys fa ρ = some ⟨.bl b, true, []⟩ := by
 unfold QdX
 rw [h, Za]
 dsimp only
 rw [hs]; rfl
theorem any_cons {sub : Str -> Str -> Option Bool} {x y : Str} {ys : List Str} {b c : Bool} (h : sub x y = some b) (t : anyS sub x ys = some c) : anyS sub x (y :: ys) = some (b || c) := by
 unfold anyS
 rw [h, Za, t]; rfl
theorem QiA {fa fb : DE} {ρ : En} {ra rb : R} {xs ys : List D} (ha : fa ρ = some ra) (ea : ra.d = .lst xs) (hb : fb ρ = some rb) (eb : rb.d = .lst ys) (hf : Qo (xs ++ ys) = true) (hl : xs.length + ys.length <= 16777216) : QN fa fb ρ = some ⟨.lst (xs ++ ys), true, []⟩ := by
 unfold QN
 rw [ha, Za, hb, Za, ea, eb]
 dsimp only
 rw [if_pos (by exact hl)]
 unfold Qav
 rw [if_pos hf]
theorem Qiy {fa : DE} {lo hi : DO} {ρ : En} {ra : R} {xs : List D} {l h : Option Int} (ha : fa ρ = some ra) (ea : ra.d = .lst xs) (hl : lo ρ = some l) (hh : hi ρ = some h) (hf : Qo xs = true) : QbA fa lo hi ρ = some ⟨.lst (cutD xs l h), true, []⟩ := by
 unfold QbA
 rw [ha, Za, hl, Za, hh, Za, ea]
 dsimp only
 unfold Qav
 rw [if_pos]
 unfold cutD
 generalize HT.sIx xs.length 0 l = a
 generalize HT.sIx xs.length xs.length h - a = b
 have d1 : ∀ (n : Nat) (xs : List D), Qo xs = true -> Qo (xs.drop n) = true := λ n => by
  induction n with
  | zero => exact λ xs h => by simpa using h
  | succ n ih => exact λ xs h => by cases xs with
   | nil => rfl
   | cons d ds => simp only [Qo, Zf] at h; exact ih ds h.2
 have d2 : ∀ (n : Nat) (xs : List D), Qo xs = true -> Qo (xs.take n) = true := λ n => by
  induction n with
  | zero => exact λ xs h => by rw [Zbk]; rfl
  | succ n ih => exact λ xs h => by cases xs with
   | nil => rfl
   | cons d ds => simp only [Qo, Zf] at h; rw [ZaA]; simp only [Qo, Zf]; exact ⟨h.1, ih ds h.2⟩
 exact d2 _ _ (d1 _ _ hf)
theorem QnR (xs : List D) : (cutD xs (some 1) none).length = xs.length - 1 := by
 unfold cutD
 rw [show HT.sIx xs.length 0 (some 1) = min 1 xs.length from HT.Qhd _ _ 1, HT.Qf0, Zaj, Zat]
 omega
noncomputable def Qcp (Q6 : Den) (x_need_rows : List D -> Option Str) : DX := (QA (QG (Qi 2 Q6 [] (Qb (Qa 0) (Qb (Qa 1) Qc)))) (QX 2 x_need_rows (Qb (Qa 0) (Qb (Qa 1) Qc))) (QA (Qa4 (QO (Qa 1)) (.nm 2) (Qe (sIf (Qt (dOp gLt (dBf QbE (Qb (Qa 2) Qc)) (dC (.int 0)))) (Qe Qx Qf) Qf) Qf)) (QdU (QO (Qa 1)) (.nm 2) (Qe (sIf (Qt (dOp gLt (dBf QbE (Qb (Qa 2) Qc)) (dC (.int 0)))) (Qe Qx Qf) Qf) Qf) (QA (sIf (Qt (dOp gLt (dBf QbE (Qb (Qa 2) Qc)) (dC (.int 0)))) (Qe Qx Qf) Qf) (xIf (Qt (dOp gLt (dBf QbE (Qb (Qa 2) Qc)) (dC (.int 0)))) (QA Qx (QcY "NoHeap" (Qb (dC (.str "a heap has no number below 0")) Qc)) xNo) xNo) xNo)) xNo))
theorem Qn6 {dn : Den} {xn : List D -> Option Str} (h : ApF dn xn) : ApF (Qn 3 (QbO dn)) (Qax 3 (Qcp dn xn)) := Qgg (by unfold QbO Qcp; repeat (first | exact QaS | exact QU | assumption | apply Qaj | apply QbF | apply QaM | apply QK | apply Qaz | apply Qba))
structure QiK (xd : List D -> Option Str) : Prop where
 row : ∀ (m : Int) (R L : List (Int × Int)) (xs : List D), (xs.length : Int) ≠ m -> xd [Qg m R L, .lst [.lst xs]] = some "NoRow"
 heap : ∀ (m : Nat) (R L : List (Int × Int)) (f : Nat -> Int) (j : Nat), j < m -> f j < 0 -> xd [Qg m R L, .lst [Qj m f]] = some "NoHeap"
theorem QlL {dn : Den} {xn : List D -> Option Str} (h : ApF dn xn) (hn : QgN dn) (hx : QkE xn) : QiK (Qax 3 (Qcp dn xn)) where
 row := λ m R L xs hm => by
  refine QcQ (Qan (QK h) (QcJ (r := ⟨[Qg m R L, .lst [.lst xs]], _, _⟩) rfl rfl ?_))
  exact hx m R L [xs] 0 (by simp) (λ i x hi e => by omega) (λ x e => by cases e; exact hm)
 heap := λ m R L f j hj hf => by
  obtain ⟨v, _, hle, hv⟩ := Qj3 (by omega : 0 < m) f
  have h0 := hle j hj
  refine QcQ (QhC (QcA (QB (r := ⟨[Qg m R L, .lst [Qj m f]], false, []⟩) rfl (hn m R L [f]) rfl) ?_))
  refine Qan (QaM (by repeat (first | exact QaS | exact QU | assumption | apply Qaj | apply QbF | apply QaM | apply QK | apply Qaz | apply Qba))) (QlH (by repeat (first | exact QaS | exact QU | assumption | apply Qaj | apply QbF | apply QaM | apply QK | apply Qaz | apply Qba)) (toD := λ f => Qj m f) [f] (λ _ ρ => ρ = [some (Qg m R L, false), some (.lst [Qj m f], false), none]) 0 (by simp) (ir := ⟨[Qj m f], []⟩) rfl rfl rfl (λ i x ρ hi => absurd hi (by omega)) ?_)
  rintro x ρ hx rfl
  cases hx
  refine ⟨_, rfl, ?_⟩
  refine Qan (by repeat (first | exact QaS | exact QU | assumption | apply Qaj | apply QbF | apply QaM | apply QK | apply Qaz | apply Qba)) (Qk3 (b := true) (QaA (Qbi (rb := ⟨.int 0, true, []⟩) (d := .bl (decide (v < 0))) (hv (r := ⟨Qj m f, false, []⟩) rfl rfl) rfl rfl) ?_) (λ _ => Qan QU (QfX rfl (Zj _))) (λ h => by cases h))
  show D.bl _ = _
  rw [decide_eq_true (by omega)]
noncomputable def Qcq (Qas : Den) : DX := (QA (sIf (Qdp (Qt (Qi 1 Qas [] (Qb (Qa 0) Qc)))) (Qe Qx Qf) Qf) (xIf (Qdp (Qt (Qi 1 Qas [] (Qb (Qa 0) Qc)))) (QA Qx (QcY "NotPlain" (Qb (dC (.str "this is told of nets without lanes alone")) Qc)) xNo) xNo) xNo)
theorem QnJ {dp : Den} : ApF (Qn 1 (QbJ dp)) (Qax 1 (Qcq dp)) := Qgg (by unfold QbJ Qcq; repeat (first | exact QaS | exact QU | assumption | apply Qaj | apply QbF | apply QaM | apply QK | apply Qaz | apply Qba))
def Qix (xd : List D -> Option Str) : Prop := ∀ (m : Int) (R L : List (Int × Int)), L ≠ [] -> xd [Qg m R L] = some "NotPlain"
theorem QmA {dp : Den} (hp : QfD dp) : Qix (Qax 1 (Qcq dp)) := λ m R L hL => by
 have : decide ((L.length : Int) = 0) = false := decide_eq_false (by cases L with | nil => exact absurd rfl hL | cons a l => simp; omega)
 refine QcQ (Qan (by repeat (first | exact QaS | exact QU | assumption | apply Qaj | apply QbF | apply QaM | apply QK | apply Qaz | apply Qba)) (Qk3 (b := true) (Qe6 (b := false) (QaA (b := false) (QB (r := ⟨[Qg m R L], false, []⟩) rfl (hp m R L) rfl) ?_)) (λ _ => Qan QU (QfX rfl (Zj _))) (λ h => by cases h)))
 show D.bl _ = _
 rw [this]
noncomputable def QgQ (QP : Den) (QR : Den) (Q0 : Den) (QZ : Den) (x_need_heaps : List D -> Option Str) (x_need_plain : List D -> Option Str) : DX := (QA (QG (Qi 1 QZ [] (Qb (Qa 0) Qc))) (QX 1 x_need_plain (Qb (Qa 0) Qc)) (QA (QG (Qi 2 Q0 [] (Qb (Qa 0) (Qb (Qae (Qb (Qa 1) Qc)) Qc)))) (QX 2 x_need_heaps (Qb (Qa 0) (Qb (Qae (Qb (Qa 1) Qc)) Qc))) (QA (Qw 2 (Qi 1 QR [] (Qb (Qa 0) Qc))) xNo (QA (Qw 3 (Qbf (Qae (Qb (dC .non) Qc)) (Qs (Qa 0) (dC (.int 0))))) xNo (QA (Qw 4 (QeG (Qs (Qa 0) (dC (.int 0))))) xNo (QA (Qa4 (QcE (dC (.int 1)) (QN (Qs (Qa 0) (dC (.int 0))) (dC (.int 1)))) (.nm 5) (Qe (Qw 7 (Q2 (QO (Qa 4)) (.nm 1) [none, none, some 4, some 1, some 2] (Qt (dOp gGe (Qs (Qa 3) (Qa 1)) (Qi 3 QP [] (Qb (Qs (Qa 4) (Qa 1)) (Qb (Qa 1) (Qb (Qa 2) Qc)))))) (Qa 1))) (Qe (Qa4 (QO (Qa 7)) (.nm 6) (Qe (Qck 3 QaE (Qa 6) (Qa 5)) Qf)) (Qe (Qw 4 (Q2 (QO (Qa 4)) (.nm 1) [none, none, some 7] (Qt (dOp (gIn true) (Qa 1) (Qa 2))) (Qa 1))) Qf)))) (QdU (QcE (dC (.int 1)) (QN (Qs (Qa 0) (dC (.int 0))) (dC (.int 1)))) (.nm 5) (Qe (Qw 7 (Q2 (QO (Qa 4)) (.nm 1) [none, none, some 4, some 1, some 2] (Qt (dOp gGe (Qs (Qa 3) (Qa 1)) (Qi 3 QP [] (Qb (Qs (Qa 4) (Qa 1)) (Qb (Qa 1) (Qb (Qa 2) Qc)))))) (Qa 1))) (Qe (Qa4 (QO (Qa 7)) (.nm 6) (Qe (Qck 3 QaE (Qa 6) (Qa 5)) Qf)) (Qe (Qw 4 (Q2 (QO (Qa 4)) (.nm 1) [none, none, some 7] (Qt (dOp (gIn true) (Qa 1) (Qa 2))) (Qa 1))) Qf))) (QA (Qw 7 (Q2 (QO (Qa 4)) (.nm 1) [none, none, some 4, some 1, some 2] (Qt (dOp gGe (Qs (Qa 3) (Qa 1)) (Qi 3 QP [] (Qb (Qs (Qa 4) (Qa 1)) (Qb (Qa 1) (Qb (Qa 2) Qc)))))) (Qa 1))) xNo (QA (Qa4 (QO (Qa 7)) (.nm 6) (Qe (Qck 3 QaE (Qa 6) (Qa 5)) Qf)) (QdU (QO (Qa 7)) (.nm 6) (Qe (Qck 3 QaE (Qa 6) (Qa 5)) Qf) (QA (Qck 3 QaE (Qa 6) (Qa 5)) xNo xNo)) (QA (Qw 4 (Q2 (QO (Qa 4)) (.nm 1) [none, none, some 7] (Qt (dOp (gIn true) (Qa 1) (Qa 2))) (Qa 1))) xNo xNo)))) (QA (QS (Qa 3)) xNo xNo)))))))
theorem Qps {dp dh dt da : Den} {xh xp : List D -> Option Str} (h1 : ApF dh xh) (h2 : ApF dp xp) : ApF (Qn 8 (QgI dp dh dt da)) (Qax 8 (QgQ da dt dh dp xh xp)) := Qgg (by unfold QgI QgQ; repeat (first | exact QaS | exact QU | assumption | apply Qaj | apply QbF | apply QaM | apply QK | apply Qaz | apply Qba))
structure Qey (xd : List D -> Option Str) : Prop where
 plain : ∀ (m : Int) (R L : List (Int × Int)) (xs : List D), L ≠ [] -> xd [Qg m R L, .lst xs] = some "NotPlain"
 row : ∀ (m : Nat) (R : List (Int × Int)) (xs : List D), xs.length ≠ m -> xd [Qg m R [], .lst xs] = some "NoRow"
 heap : ∀ (m : Nat) (R : List (Int × Int)) (f : Nat -> Int) (j : Nat), j < m -> f j < 0 -> xd [Qg m R [], Qj m f] = some "NoHeap"
theorem Qnd {dp dh dt da : Den} {xh xp : List D -> Option Str} (h1 : ApF dh xh) (h2 : ApF dp xp) (hp : Qfu dp) (hx : QiK xh) (px : Qix xp) : Qey (Qax 8 (QgQ da dt dh dp xh xp)) where
 plain := λ m R L xs hL => QcQ (Qan (QK h2) (QcJ (r := ⟨[Qg m R L], _, _⟩) rfl rfl (px m R L hL)))
 row := λ m R xs hl => by
  refine QcQ (QhC (QcA (QB (r := ⟨[Qg m R []], false, []⟩) rfl (hp m R) rfl) ?_))
  exact Qan (QK h1) (QcJ (r := ⟨[Qg m R [], .lst [.lst xs]], _, _⟩) rfl rfl (hx.row m R [] xs (by omega)))
 heap := λ m R f j hj hf => by
  refine QcQ (QhC (QcA (QB (r := ⟨[Qg m R []], false, []⟩) rfl (hp m R) rfl) ?_))
  exact Qan (QK h1) (QcJ (r := ⟨[Qg m R [], .lst [Qj m f]], _, _⟩) rfl rfl (hx.heap m R [] f j hj hf))
noncomputable def Qb8 (Qar : Den) (QM : Den) (x_fire : List D -> Option Str) : DX := (QA (Qw 2 (Qi 2 QM [] (Qb (Qa 0) (Qb (Qa 1) Qc)))) (QX 2 x_fire (Qb (Qa 0) (Qb (Qa 1) Qc))) (QA (Qw 3 (dBf Qep (Qb (Q2 (QeB (Qa 1) (Qi 1 Qar [] (Qb (Qa 0) Qc))) (.tp [1, 2]) [none, none, none] Qca (dOp gLt (Qa 1) (Qa 2))) Qc))) xNo (QA (QS (QdE (Qa 3) (dOp (gIn true) (dC .non) (Qa 2)))) xNo xNo)))
theorem QnS {df ds : Den} {xf : List D -> Option Str} (h1 : ApF df xf) : ApF (Qn 4 (Qb9 df ds)) (Qax 4 (Qb8 ds df xf)) := Qgg (by unfold Qb9 Qb8; repeat (first | exact QaS | exact QU | assumption | apply Qaj | apply QbF | apply QaM | apply QK | apply Qaz | apply Qba))
theorem Qme {df ds : Den} {xf : List D -> Option Str} (h1 : ApF df xf) (hx : Qey xf) : Qey (Qax 4 (Qb8 ds df xf)) where
 plain := λ m R L xs hL => QcQ (Qan (Qaz h1) (QcJ (r := ⟨[Qg m R L, .lst xs], _, _⟩) rfl rfl (hx.plain m R L xs hL)))
 row := λ m R xs hl => QcQ (Qan (Qaz h1) (QcJ (r := ⟨[Qg m R [], .lst xs], _, _⟩) rfl rfl (hx.row m R xs hl)))
 heap := λ m R f j hj hf => QcQ (Qan (Qaz h1) (QcJ (r := ⟨[Qg m R [], Qj m f], _, _⟩) rfl rfl (hx.heap m R f j hj hf)))
noncomputable def QdM (sub : Str -> Str -> Option Bool) : DS := (Qe (QS (Qae (Qb (QdX sub ["ValueError"] (Qa 0)) (Qb (QdX sub ["NotPlain"] (Qa 0)) (Qb (QdX sub ["NoRow"] (Qa 0)) (Qb (QdX sub ["NoHeap"] (Qa 0)) Qc)))))) Qf)
structure QcO (sub : Str -> Str -> Option Bool) (x : Str) (w : Nat) : Prop where
 he : sub x "HeapError" = some true
 ve : sub x "ValueError" = some true
 np : sub x "NotPlain" = some (decide (w = 1))
 nr : sub x "NoRow" = some (decide (w = 2))
 nh : sub x "NoHeap" = some (decide (w = 3))
noncomputable def QeW (w : Nat) : D := .lst [.bl true, .bl (decide (w = 1)), .bl (decide (w = 2)), .bl (decide (w = 3))]
def Qiv (sub : Str -> Str -> Option Bool) (d : Den) : Prop := ∀ x w, QcO sub x w -> d [.exc x] = some (QeW w, true)
theorem Qlo {sub : Str -> Str -> Option Bool} : Qiv sub (Qn 1 (QdM sub)) := λ x w h => by
 refine Qbb ?_
 refine Qaq ((QgK (Qm (Qgv (x := x) rfl (any_cons h.ve (ys := []) rfl)) (Qm (Qgv (x := x) rfl (any_cons h.np (ys := []) rfl)) (Qm (Qgv (x := x) rfl (any_cons h.nr (ys := []) rfl)) (Qm (Qgv (x := x) rfl (any_cons h.nh (ys := []) rfl)) (QT _))))) (by simp)).trans rfl) ⟨?_, rfl⟩
 simp only [Bool.or_false]
 rfl
noncomputable def QdL (QM : Den) (QJ : Den) (Qbv : Den) (x_fire : List D -> Option Str) (x_comes_again : List D -> Option Str) (sub : Str -> Str -> Option Bool) : DS := (Qe (QdD (Qe (sIf (Qt (Qa 2)) (Qe (QG (Qi 2 QM [] (Qb (Qa 0) (Qb (Qa 1) Qc)))) Qf) (Qe (QG (Qi 2 QJ [] (Qb (Qa 0) (Qb (Qa 1) Qc)))) Qf)) Qf) (QA (sIf (Qt (Qa 2)) (Qe (QG (Qi 2 QM [] (Qb (Qa 0) (Qb (Qa 1) Qc)))) Qf) (Qe (QG (Qi 2 QJ [] (Qb (Qa 0) (Qb (Qa 1) Qc)))) Qf)) (xIf (Qt (Qa 2)) (QA (QG (Qi 2 QM [] (Qb (Qa 0) (Qb (Qa 1) Qc)))) (QX 2 x_fire (Qb (Qa 0) (Qb (Qa 1) Qc))) xNo) (QA (QG (Qi 2 QJ [] (Qb (Qa 0) (Qb (Qa 1) Qc)))) (QX 2 x_comes_again (Qb (Qa 0) (Qb (Qa 1) Qc))) xNo)) xNo) sub [("HeapError", some 3, (Qe (QS (Qi 1 Qbv [] (Qb (Qa 3) Qc))) Qf))]) (Qe (QS (Qae Qc)) Qf))
def Qjq (sub : Str -> Str -> Option Bool) (xf xc : List D -> Option Str) (d : Den) : Prop := ∀ (m : Int) (R L : List (Int × Int)) (xs : List D) (x : Str) (w : Nat) (b : Bool), QcO sub x w -> xf [Qg m R L, .lst xs] = some x -> xc [Qg m R L, .lst xs] = some x -> d [Qg m R L, .lst xs, .bl b] = some (QeW w, true)
theorem QlI {df dc dk : Den} {xf xc : List D -> Option Str} {sub : Str -> Str -> Option Bool} (h1 : ApF df xf) (h2 : ApF dc xc) (hk : Qiv sub dk) : Qjq sub xf xc (Qn 4 (QdL df dc dk xf xc sub)) := λ m R L xs x w b hw hf hc => by
 refine Qbb ?_
 have ap : Ap (Qe (sIf (Qt (Qa 2)) (Qe (QG (Qi 2 df [] (Qb (Qa 0) (Qb (Qa 1) Qc)))) Qf) (Qe (QG (Qi 2 dc [] (Qb (Qa 0) (Qb (Qa 1) Qc)))) Qf)) Qf) (QA (sIf (Qt (Qa 2)) (Qe (QG (Qi 2 df [] (Qb (Qa 0) (Qb (Qa 1) Qc)))) Qf) (Qe (QG (Qi 2 dc [] (Qb (Qa 0) (Qb (Qa 1) Qc)))) Qf)) (xIf (Qt (Qa 2)) (QA (QG (Qi 2 df [] (Qb (Qa 0) (Qb (Qa 1) Qc)))) (QX 2 xf (Qb (Qa 0) (Qb (Qa 1) Qc))) xNo) (QA (QG (Qi 2 dc [] (Qb (Qa 0) (Qb (Qa 1) Qc)))) (QX 2 xc (Qb (Qa 0) (Qb (Qa 1) Qc))) xNo)) xNo) := by repeat (first | exact QaS | exact QU | assumption | apply Qaj | apply QbF | apply QaM | apply QK | apply Qaz | apply Qba)
 have e : ∀ {n : Nat} {d : Den} {xd : List D -> Option Str} {fs : DA} {ρ : En} {r : RA}, ApF d xd -> fs ρ = some r -> r.ds.length = n -> xd r.ds = some x -> QA (QG (Qi n d [] fs)) (QX n xd fs) xNo ρ = some (x, ρ) := λ a h hl hx => Qd9 a h hl hx
 refine QL (Qn0 (x := x) (ρ' := [some (Qg m R L, false), some (.lst xs, false), some (.bl b, true), none]) ap ?_ hw.he ?_)
 ·have ei : (xIf (Qt (Qa 2)) (QA (QG (Qi 2 df [] (Qb (Qa 0) (Qb (Qa 1) Qc)))) (QX 2 xf (Qb (Qa 0) (Qb (Qa 1) Qc))) xNo) (QA (QG (Qi 2 dc [] (Qb (Qa 0) (Qb (Qa 1) Qc)))) (QX 2 xc (Qb (Qa 0) (Qb (Qa 1) Qc))) xNo)) [some (Qg m R L, false), some (.lst xs, false), some (.bl b, true), none] = some (x, [some (Qg m R L, false), some (.lst xs, false), some (.bl b, true), none]) := by
   cases b with
   | true => exact (show xIf _ _ _ _ = _ from by unfold xIf; rw [show Qt (Qa 2) [some (Qg m R L, false), some (.lst xs, false), some (.bl true, true), none] = some true from rfl, Za, if_pos rfl]; exact Qd9 h1 (r := ⟨[Qg m R L, .lst xs], _, _⟩) rfl rfl hf)
   | false => exact (show xIf _ _ _ _ = _ from by unfold xIf; rw [show Qt (Qa 2) [some (Qg m R L, false), some (.lst xs, false), some (.bl false, true), none] = some false from rfl, Za, if_neg ZO]; exact Qd9 h2 (r := ⟨[Qg m R L, .lst xs], _, _⟩) rfl rfl hc)
  show QA _ _ _ _ = _
  unfold QA
  have z := QbF (c := Qt (Qa 2)) (Qaj (QK h1 (n := 2) (fs := Qb (Qa 0) (Qb (Qa 1) Qc))) (QaS (f := Qf))) (Qaj (QK h2 (n := 2) (fs := Qb (Qa 0) (Qb (Qa 1) Qc))) (QaS (f := Qf))) _ (by rw [ei]; exact λ z => by cases z)
  rw [show Qam 4 [Qg m R L, .lst xs, .bl b] = [some (Qg m R L, false), some (.lst xs, false), some (.bl b, true), none] from rfl, z]
  exact ei
 ·refine QL (Qdj (QB (r := ⟨[.exc x], true, []⟩) rfl (hk x w hw) rfl) ?_)
  exact ⟨rfl, rfl⟩
noncomputable def QcU (QM : Den) (x_fire : List D -> Option Str) (sub : Str -> Str -> Option Bool) : DS := (Qe (sIf (Qt (dOp gEq (Qa 2) (dC (.int 1)))) (Qe (QdD (Qe (QG (Qi 2 QM [] (Qb (Qa 0) (Qb (Qa 1) Qc)))) Qf) (QA (QG (Qi 2 QM [] (Qb (Qa 0) (Qb (Qa 1) Qc)))) (QX 2 x_fire (Qb (Qa 0) (Qb (Qa 1) Qc))) xNo) sub [("NotPlain", none, (Qe (QS (dC (.bl true))) Qf))]) Qf) Qf) (Qe (sIf (Qt (dOp gEq (Qa 2) (dC (.int 2)))) (Qe (QdD (Qe (QG (Qi 2 QM [] (Qb (Qa 0) (Qb (Qa 1) Qc)))) Qf) (QA (QG (Qi 2 QM [] (Qb (Qa 0) (Qb (Qa 1) Qc)))) (QX 2 x_fire (Qb (Qa 0) (Qb (Qa 1) Qc))) xNo) sub [("NoRow", none, (Qe (QS (dC (.bl true))) Qf))]) Qf) Qf) (Qe (sIf (Qt (dOp gEq (Qa 2) (dC (.int 3)))) (Qe (QdD (Qe (QG (Qi 2 QM [] (Qb (Qa 0) (Qb (Qa 1) Qc)))) Qf) (QA (QG (Qi 2 QM [] (Qb (Qa 0) (Qb (Qa 1) Qc)))) (QX 2 x_fire (Qb (Qa 0) (Qb (Qa 1) Qc))) xNo) sub [("NoHeap", none, (Qe (QS (dC (.bl true))) Qf))]) Qf) Qf) (Qe (QS (dC (.bl false))) Qf))))
def Qnp (sub : Str -> Str -> Option Bool) (xf : List D -> Option Str) (d : Den) : Prop := ∀ (m : Int) (R L : List (Int × Int)) (xs : List D) (x : Str) (w : Nat), QcO sub x w -> w = 1 ∨ w = 2 ∨ w = 3 -> xf [Qg m R L, .lst xs] = some x -> d [Qg m R L, .lst xs, .int w] = some (.bl true, true)
theorem Qpq {df : Den} {xf : List D -> Option Str} {sub : Str -> Str -> Option Bool} (h1 : ApF df xf) : Qnp sub xf (Qn 3 (QcU df xf sub)) := λ m R L xs x w hw h hf => by
 refine Qbb ?_
 rcases h with rfl | rfl | rfl
 ·refine QL (Qak (b := true) rfl (λ _ => ?_) (λ h => by cases h))
  refine QL (Qf3 (x := x) (Qaj (QK h1) QaS) (Qd9 h1 (r := ⟨[Qg m R L, .lst xs], _, _⟩) rfl rfl hf) hw.np ?_)
  exact QL (Qdj (r := ⟨.bl true, true, []⟩) rfl ⟨rfl, rfl⟩)
 ·refine QL (Qak (b := false) rfl (λ h => by cases h) (λ _ => Qu ?_))
  refine QL (Qak (b := true) rfl (λ _ => ?_) (λ h => by cases h))
  refine QL (Qf3 (x := x) (Qaj (QK h1) QaS) (Qd9 h1 (r := ⟨[Qg m R L, .lst xs], _, _⟩) rfl rfl hf) hw.nr ?_)
  exact QL (Qdj (r := ⟨.bl true, true, []⟩) rfl ⟨rfl, rfl⟩)
 ·refine QL (Qak (b := false) rfl (λ h => by cases h) (λ _ => Qu ?_))
  refine QL (Qak (b := false) rfl (λ h => by cases h) (λ _ => Qu ?_))
  refine QL (Qak (b := true) rfl (λ _ => ?_) (λ h => by cases h))
  refine QL (Qf3 (x := x) (Qaj (QK h1) QaS) (Qd9 h1 (r := ⟨[Qg m R L, .lst xs], _, _⟩) rfl rfl hf) hw.nh ?_)
  exact QL (Qdj (r := ⟨.bl true, true, []⟩) rfl ⟨rfl, rfl⟩)
noncomputable def QcZ (Qa5 : Den) (QaK : Den) : DS := (Qe (Qw 3 (Qae (Qb (dC (.bl true)) (Qb (dOp gEq (Qa 2) (dC (.int 1))) (Qb (dOp gEq (Qa 2) (dC (.int 2))) (Qb (dOp gEq (Qa 2) (dC (.int 3))) Qc)))))) (Qe (QS (QdE (dOp gEq (Qi 3 Qa5 [] (Qb (Qa 0) (Qb (Qa 1) (Qb (dC (.bl true)) Qc)))) (Qa 3)) (QdE (dOp gEq (Qi 3 Qa5 [] (Qb (Qa 0) (Qb (Qa 1) (Qb (dC (.bl false)) Qc)))) (Qa 3)) (Qi 3 QaK [] (Qb (Qa 0) (Qb (Qa 1) (Qb (Qa 2) Qc))))))) Qf))
def QhI (sub : Str -> Str -> Option Bool) (xf xc : List D -> Option Str) (d : Den) : Prop := ∀ (m : Int) (R L : List (Int × Int)) (xs : List D) (x : Str) (w : Nat), QcO sub x w -> w = 1 ∨ w = 2 ∨ w = 3 -> xf [Qg m R L, .lst xs] = some x -> xc [Qg m R L, .lst xs] = some x -> d [Qg m R L, .lst xs, .int w] = some (.bl true, true)
theorem QiL {sub : Str -> Str -> Option Bool} {xf xc : List D -> Option Str} {ds db : Den} (hs : Qjq sub xf xc ds) (hb : Qnp sub xf db) : QhI sub xf xc (Qn 4 (QcZ ds db)) := λ m R L xs x w hw h hf hc => by
 refine Qbb ?_
 refine run_seq (Qv (r := ⟨QeW w, true, []⟩) ?_ ?_)
 ·rcases h with rfl | rfl | rfl <;> rfl
 rw [QD]
 have e : ∀ b : Bool, dOp gEq (Qi 3 ds [] (Qb (Qa 0) (Qb (Qa 1) (Qb (dC (.bl b)) Qc)))) (Qa 3) [some (Qg m R L, false), some (.lst xs, false), some (.int w, true), some (QeW w, true)] = some ⟨.bl true, true, []⟩ := λ b => by
  refine Qbi (d := .bl true) (rb := ⟨QeW w, true, [3]⟩) (QB (r := ⟨[Qg m R L, .lst xs, .bl b], false, []⟩) rfl (hs m R L xs x w b hw hf hc) rfl) rfl ?_
  rcases h with rfl | rfl | rfl <;> rfl
 exact Qaq (Qfb (a := true) (b := true) (e true) (Qfb (a := true) (b := true) (e false) (QB (r := ⟨[Qg m R L, .lst xs, .int w], false, []⟩) rfl (hb m R L xs x w hw h hf) rfl))) ⟨rfl, rfl⟩
noncomputable def Qcr (Qy : Den) : DS := (Qe (Qw 2 (Qae Qc)) (Qe (Qa4 (QbV (Qs (Qa 1) (dC (.int 0)))) (.nm 3) (Qe (Qw 4 (QN (Qbf (Qi 2 Qy [] (Qb (Qa 0) (Qb (QN (dC (.int 26)) (Qa 3)) Qc))) (dC (.int 69621))) (Qbf (Qi 2 Qy [] (Qb (Qa 0) (Qb (QN (dC (.int 2)) (Qa 3)) Qc))) (QN (Qbf (Qa 3) (Qa 3)) (dC (.int 5)))))) (Qe (Qdq 2 QaE (dOp Qaa (Qa 4) (QN (dOp QiH (dC (.int 10)) (dC (.int 20))) (dC (.int 1))))) Qf))) (Qe (QS (Qa 2)) Qf)))
def Qf6 (d : Den) : Prop := ∀ (ns : List Int) (m : Nat) (R : List (Int × Int)), ns.length <= 63 -> m <= 8 -> ∃ f, d [.lst (ns.map .int), Qg m R []] = some (Qj m f, true) /\ ∀ j, j < m -> 0 <= f j
theorem Qlk {dc : Den} (hc : Qfm dc) : Qf6 (Qn 5 (Qcr dc)) := λ ns m R hl hm => by
 have key : Run (Qcr dc) (Qam 5 [.lst (ns.map .int), Qg m R []]) (Rt λ d fr => ∃ f, d = Qj m f /\ fr = true /\ ∀ j, j < m -> 0 <= f j) := by
  have cell : ∀ (ρ : En) (fk : DE) (k : Nat), ρ[0]? = some (some (.lst (ns.map .int), false)) -> fk ρ = some ⟨.int k, true, []⟩ -> Qi 2 dc [] (Qb (Qa 0) (Qb fk Qc)) ρ = some ⟨.int (ns.getD k 0), true, []⟩ := λ ρ fk k h0 hk => by
   refine QB (Qm (QgP h0) (Qm hk (QT _))) ?_ rfl
   exact hc ns k
  refine run_seq (Qv (r := ⟨Qj 0 (λ _ => 0), true, []⟩) rfl ?_)
  rw [QD]
  refine run_seq (Qcg (toD := λ (k : Nat) => .int (k : Int)) (List.range m) (λ i ρ => ∃ g j3 j4, (∀ k, k < i -> 0 <= g k) /\ ρ = [some (.lst (ns.map .int), false), some (Qg m R [], false), some (Qj i g, true), j3, j4]) (Qew (n := m) (r := ⟨.int m, true, []⟩) rfl rfl (by omega)) rfl ⟨λ _ => 0, none, none, λ k hk => absurd hk (by omega), rfl⟩ ?_ ?_)
  ·rintro i i' ρ hi ⟨g, j3, j4, hg, rfl⟩
   have hi' : i < m /\ i = i' := by
    obtain ⟨h1, h2⟩ := Zi.mp hi
    simp at h1 h2; exact ⟨h1, h2⟩
   obtain ⟨him, rfl⟩ := hi'
   refine ⟨_, rfl, ?_⟩
   refine run_seq (Qv (Qal (a := ns.getD (26 + i) 0 * 69621) (b := ns.getD (2 + i) 0 * ((i : Int) * i + 5)) (QcT (a := ns.getD (26 + i) 0) (b := 69621) (cell _ _ (26 + i) rfl (Qal (a := 26) (b := i) rfl rfl rfl rfl)) rfl rfl rfl (QfE (by decide))) rfl (QcT (a := ns.getD (2 + i) 0) (b := (i : Int) * i + 5) (cell _ _ (2 + i) rfl (Qal (a := 2) (b := i) rfl rfl rfl rfl)) rfl (Qal (a := (i : Int) * i) (b := 5) (QcT (a := i) (b := i) rfl rfl rfl rfl (QfH (by omega))) rfl rfl rfl) rfl (QfE (by
     have h1 : (i : Int) * i <= 8 * 8 := Int.mul_le_mul (by omega) (by omega) (by omega) (by omega)
     have h2 : 0 <= (i : Int) * i := Zbj (by omega) (by omega)
     omega))) rfl) ?_)
   rw [QD]
   generalize ns.getD (26 + i) 0 * 69621 + ns.getD (2 + i) 0 * ((i : Int) * i + 5) = n
   have n0 := ZC n (by decide : (10 : Int) ^ 20 + 1 ≠ 0)
   refine run_seq (Qn2 (i := i) (g := g) (v := n % (10 ^ 20 + 1)) rfl (Q8 (a := n) (b := 10 ^ 20 + 1) rfl rfl (Qal (a := 10 ^ 20) (b := 1) (Qko (a := 10) (k := 20) (by decide) (by decide)) rfl rfl rfl) rfl (by decide)) rfl (by omega) (Qu ⟨up g i (n % (10 ^ 20 + 1)), _, _, λ k hk => ?_, rfl⟩))
   unfold up
   split
   ·omega
   ·exact hg k (by omega)
  ·rintro ρ ⟨g, j3, j4, hg, rfl⟩
   rw [ZV] at *
   exact Qaq (r := ⟨Qj m g, true, [2]⟩) rfl ⟨g, rfl, rfl, hg⟩
 obtain ⟨o, h1, h2⟩ := key
 cases o with
 | rt d fr =>
  obtain ⟨f, rfl, rfl, h⟩ := h2
  exact ⟨f, by unfold Qn; rw [h1]; rfl, h⟩
 | _ => exact h2.elim
theorem Qc1 : ∀ {xs ys : List D}, Qo xs = true -> Qo ys = true -> Qo (xs ++ ys) = true
 | [], ys, _, h => h
 | d :: ds, ys, h, h' => by simp only [Qo, Zf] at h; simp only [ZaJ, Qo, Zf]; exact ⟨h.1, Qc1 h.2 h'⟩
theorem Qgl : ∀ (n : Nat) {xs : List D}, Qo xs = true -> Qo (xs.drop n) = true
 | 0, xs, h => by simpa using h
 | n + 1, [], h => rfl
 | n + 1, d :: ds, h => by simp only [Qo, Zf] at h; exact Qgl n h.2
theorem QgH : ∀ (n : Nat) {xs : List D}, Qo xs = true -> Qo (xs.take n) = true
 | 0, xs, h => by rw [Zbk]; rfl
 | n + 1, [], h => rfl
 | n + 1, d :: ds, h => by simp only [Qo, Zf] at h; rw [ZaA]; simp only [Qo, Zf]; exact ⟨h.1, QgH n h.2⟩
theorem Qfj {xs : List D} {l h : Option Int} (hf : Qo xs = true) : Qo (cutD xs l h) = true := by
 unfold cutD
 exact QgH _ (Qgl _ hf)
theorem Qhv (xs : List D) (k : Nat) : (cutD xs none (some (k : Int))).length = min k xs.length := by
 unfold cutD
 rw [show HT.sIx xs.length xs.length (some (k : Int)) = min k xs.length from HT.Qhd _ _ k, HT.Qf0, Zaj, Zat]
 omega
theorem Qkk (xs : List D) (k : Nat) : (cutD xs (some (k : Int)) none).length = xs.length - min k xs.length := by
 unfold cutD
 rw [show HT.sIx xs.length 0 (some (k : Int)) = min k xs.length from HT.Qhd _ _ k, HT.Qf0, Zaj, Zat]
 omega
theorem QiR {fs : DA} {fi : DE} {ρ : En} {a b c d : List D} {fr : Bool} {M : List Nat} {k : Int} (h : fs ρ = some ⟨[.lst a, .lst b, .lst c, .lst d], fr, M⟩) (hi : fi ρ = some ⟨.int k, true, []⟩) (h0 : 0 <= k) (h4 : k < 4) : ∃ xs fr' M', Qs (Qae fs) fi ρ = some ⟨.lst xs, fr', M'⟩ /\ (xs = a ∨ xs = b ∨ xs = c ∨ xs = d) := by
 have e := QgK h (by simp)
 have cond : k = 0 ∨ k = 1 ∨ k = 2 ∨ k = 3 := by omega
 unfold Qs
 rw [e, Za, hi, Za]
 rcases cond with rfl | rfl | rfl | rfl
 ·exact ⟨a, _, _, rfl, .inl rfl⟩
 ·exact ⟨b, _, _, rfl, .inr (.inl rfl)⟩
 ·exact ⟨c, _, _, rfl, .inr (.inr (.inl rfl))⟩
 ·exact ⟨d, _, _, rfl, .inr (.inr (.inr rfl))⟩
theorem Qri {fa : DE} {ρ : En} {b : Bool} (h : fa ρ = some ⟨.bl b, true, []⟩) : Qgc "bool" fa ρ = some ⟨.bl true, true, []⟩ := by
 unfold Qgc
 rw [h]; rfl
noncomputable def Qh1 (QbX : Den) (Qbx : Den) (Qy : Den) (Q5 : Den) (QM : Den) (QJ : Den) : DS := (Qe (Qw 1 (Qi 1 QbX [] (Qb (Qa 0) Qc))) (Qe (Qw 2 (Qi 2 Qbx [] (Qb (Qa 0) (Qb (Qa 1) Qc)))) (Qe (Qw 3 (Qi 2 Qy [] (Qb (Qa 0) (Qb (dC (.int 34)) Qc)))) (Qe (Qw 4 (Qa9 (Qb (Qs (Qa 1) (dC (.int 0))) (Qb (Q2 (QbV (Qs (Qa 1) (dC (.int 0)))) (.nm 1) [none, none, some 1] Qca (Qa9 (Qb (Qa 1) (Qb (Qs (Qa 2) (dC (.int 0))) Qc)))) (Qb (Qae (Qb (Qa9 (Qb (dOp Qaa (dOp QcD (Qa 3) (dC (.int 28))) (Qs (Qa 1) (dC (.int 0)))) (Qb (Qs (Qa 1) (dC (.int 0))) Qc))) Qc)) Qc))))) (Qe (Qw 5 (dList (Qb (Qa 2) Qc))) (Qe (Qck 5 QaE (dOp Qaa (dOp QcD (Qa 3) (dC (.int 7))) (Qs (Qa 1) (dC (.int 0)))) (dOp Qet (Qi1 (dC (.int 1))) (dOp Qaa (dOp QcD (Qa 3) (dC (.int 56))) (dOp QiH (dC (.int 10)) (dC (.int 18)))))) (Qe (Qw 6 (dOp Qaa (dOp QcD (Qa 3) (dC (.int 7))) (QN (Qs (Qa 1) (dC (.int 0))) (dC (.int 1))))) (Qe (Qw 7 (QN (QN (QbA (Qa 5) QbW (QaR (Qa 6))) (Qae (Qb (dOp Qaa (dOp QcD (Qa 3) (dC (.int 56))) (dC (.int 5))) Qc))) (QbA (Qa 5) (QaR (Qa 6)) QbW))) (Qe (sIf (Qdp (Qt (Qi 3 Q5 [] (Qb (Qa 4) (Qb (Qs (Qae (Qb (Qa 2) (Qb (Qa 5) (Qb (Qa 7) (Qb (QbA (Qa 5) (QaR (dC (.int 1))) QbW) Qc))))) (dOp Qaa (Qa 3) (dC (.int 4)))) (Qb (dC (.int 1)) Qc)))))) (Qe (QS (dC (.bl false))) Qf) Qf) (Qe (sIf (Qdp (Qt (Qi 3 Q5 [] (Qb (Qa 1) (Qb (Qs (Qae (Qb (QbA (Qa 2) (QaR (dC (.int 1))) QbW) (Qb (QbA (Qa 5) (QaR (dC (.int 1))) QbW) (Qb (Qa 7) (Qb (QN (Qa 2) (Qae (Qb (dC (.int 0)) Qc))) Qc))))) (dOp Qaa (dOp QcD (Qa 3) (dC (.int 4))) (dC (.int 4)))) (Qb (dC (.int 2)) Qc)))))) (Qe (QS (dC (.bl false))) Qf) Qf) (Qe (sIf (Qdp (Qt (Qi 3 Q5 [] (Qb (Qa 1) (Qb (Qa 5) (Qb (dC (.int 3)) Qc)))))) (Qe (QS (dC (.bl false))) Qf) Qf) (Qe (Qw 8 (Qi 2 QM [] (Qb (Qa 1) (Qb (Qa 2) Qc)))) (Qe (QS (QdE (Qgc "list" (Qa 8)) (QdE (dOp gEq (dBf QcF (Qb (Qa 8) Qc)) (Qs (Qa 1) (dC (.int 0)))) (Qgc "bool" (Qi 2 QJ [] (Qb (Qa 1) (Qb (Qa 2) Qc))))))) Qf)))))))))))))
set_option maxHeartbeats 0 in
theorem Qru {dn dh dc dr df da : Den} {sub : Str -> Str -> Option Bool} {xf xc : List D -> Option Str} (hn : Qjj dn) (hh : Qf6 dh) (hc : Qfm dc) (hr : QhI sub xf xc dr) (hf : Qgf df) (ha : QhG da) (bf : Qey xf) (bc : Qey xc) (w1 : QcO sub "NotPlain" 1) (w2 : QcO sub "NoRow" 2) (w3 : QcO sub "NoHeap" 3)
  (ns : List Int) (hl : ns.length <= 63) : Qn 9 (Qh1 dn dh dc dr df da) [.lst (ns.map .int)] = some (.bl true, true) := by
 obtain ⟨m, R, en, m0, m8, hw⟩ := hn ns hl
 have hg := hw.good
 obtain ⟨h, eh, h0⟩ := hh ns m R hl m8
 have efire := hf m R h m0 (by omega) (by omega) hg.1 h0
 have ecome := ha m R h m0 (by omega) (by omega) hg.1 h0
 generalize Ql5 R m h (Qa8 (QE m (QQ R [])) h m m) = B at ecome
 generalize Qa8 (QE m (QQ R [])) h m m = F at efire
 refine Qbb ?_
 refine run_seq (Qv (QB (r := ⟨[.lst (ns.map .int)], false, []⟩) rfl en rfl) ?_)
 rw [QD]
 refine run_seq (Qv (QB (r := ⟨[.lst (ns.map .int), Qg m R []], false, [1]⟩) rfl eh rfl) ?_)
 rw [QD]
 refine run_seq (Qv (QB (r := ⟨[.lst (ns.map .int), .int 34], false, []⟩) rfl (hc ns 34) rfl) ?_)
 rw [QD]
 generalize ns.getD 34 0 = c
 change Run _ [some (.lst (ns.map .int), false), some (Qg m R [], true), some (Qj m h, true), some (.int c, true), none, none, none, none, none] _
 have ec := Qce (fi := QbV (Qs (Qa 1) (dC (.int 0)))) (t := .nm 1) (cap := [none, none, some 1]) (fe := Qa9 (Qb (Qa 1) (Qb (Qs (Qa 2) (dC (.int 0))) Qc))) (ρ := [some (.lst (ns.map .int), false), some (Qg m R [], true), some (Qj m h, true), some (.int c, true), none, none, none, none, none])
  (toD := λ (k : Nat) => .int (k : Int)) (out := λ (k : Nat) => pairD ((k : Int), (m : Int))) (List.range m) (Qew (n := m) (r := ⟨.int m, true, []⟩) rfl rfl (by omega)) rfl λ k _ => ⟨[none, some (.int k, true), some (Qg m R [], false)], rfl, ⟨pairD ((k : Int), (m : Int)), true, []⟩, rfl, rfl, rfl⟩
 refine run_seq (Qv (r := ⟨Qg m ((List.range m).map λ (k : Nat) => ((k : Int), (m : Int))) [(c / 28 % m, (m : Int))], true, []⟩) ?_ ?_)
 ·unfold Qa9
  refine (congrArg (λ z => Option.bind z _) (Qm (r := ⟨.int m, true, []⟩) rfl (Qm ec (Qm (r := ⟨.lst [pairD (c / 28 % m, (m : Int))], true, []⟩) ?_ (QT _))))).trans ?_
  ·have e1 : Qa9 (Qb (dOp Qaa (dOp QcD (Qa 3) (dC (.int 28))) (Qs (Qa 1) (dC (.int 0)))) (Qb (Qs (Qa 1) (dC (.int 0))) Qc)) [some (.lst (ns.map .int), false), some (Qg m R [], true), some (Qj m h, true), some (.int c, true), none, none, none, none, none] = some ⟨pairD (c / 28 % m, (m : Int)), true, []⟩ := by
    unfold Qa9
    exact (congrArg (λ z => Option.bind z _) (Qm (Q8 (a := c / 28) (b := m) (QdC (a := c) (b := 28) rfl rfl rfl rfl (by decide) (by decide)) rfl (rb := ⟨.int m, true, []⟩) rfl rfl (by omega)) (Qm (r := ⟨.int m, true, []⟩) rfl (QT _)))).trans rfl
   exact (QgK (Qm e1 (QT _)) (by simp)).trans rfl
  ·show some _ = some _
   congr 2
   unfold Qg Qp
   rw [Zad]
   rfl
 rw [QD]
 generalize hR' : ((List.range m).map λ (k : Nat) => ((k : Int), (m : Int))) = R'
 generalize c / 28 % m = q28
 refine run_seq (Qv (QnF (m := m) (f := h) (rs := ⟨[Qj m h], true, [2]⟩) rfl rfl) ?_)
 rw [QD]
 have q1 := ZC (c / 7) (by omega : (m : Int) ≠ 0)
 have q2 := ZE (c / 7) (by omega : (0 : Int) < m)
 have q3 := ZC (c / 56) (by decide : (10 : Int) ^ 18 ≠ 0)
 have q4 := ZC (c / 7) (by omega : (m : Int) + 1 ≠ 0)
 have q5 := ZE (c / 7) (by omega : (0 : Int) < m + 1)
 refine run_seq (Qm9 (m := m) (f := h) (i := c / 7 % m) (v := -1 - c / 56 % 10 ^ 18) rfl (Q8 (a := c / 7) (b := m) (QdC (a := c) (b := 7) rfl rfl rfl rfl (by decide) (by decide)) rfl (rb := ⟨.int m, true, []⟩) rfl rfl (by omega)) rfl (Qbi (d := .int (-1 - c / 56 % 10 ^ 18)) (ra := ⟨.int (-1), true, []⟩) rfl (Q8 (a := c / 56) (b := 10 ^ 18) (QdC (a := c) (b := 56) rfl rfl rfl rfl (by decide) (by decide)) rfl (Qko (a := 10) (k := 18) (by decide) (by decide)) rfl (by decide)) rfl) rfl q1 q2 ?_)
 have hbel : up h (c / 7 % m).toNat (-1 - c / 56 % 10 ^ 18) (c / 7 % m).toNat < 0 := by unfold up; rw [if_pos rfl]; omega
 have hlt : (c / 7 % m).toNat < m := by omega
 generalize up h (c / 7 % m).toNat (-1 - c / 56 % 10 ^ 18) = b at hbel
 generalize (c / 7 % m).toNat = at' at hbel hlt
 change Run _ [some (.lst (ns.map .int), false), some (Qg m R [], true), some (Qj m h, true), some (.int c, true), some (Qg m R' [(q28, (m : Int))], true), some (Qj m b, true), none, none, none] _
 refine run_seq (Qv (Q8 (a := c / 7) (b := (m : Int) + 1) (QdC (a := c) (b := 7) rfl rfl rfl rfl (by decide) (by decide)) rfl (Qal (a := m) (b := 1) (ra := ⟨.int m, true, []⟩) rfl rfl rfl rfl) rfl (by omega)) ?_)
 rw [QD]
 obtain ⟨k, hk⟩ : ∃ k : Nat, c / 7 % ((m : Int) + 1) = (k : Int) := ⟨(c / 7 % ((m : Int) + 1)).toNat, by omega⟩
 rw [hk]
 have hkm : k <= m := by omega
 have lb : ((List.range m).map λ i => D.int (b i)).length = m := by simp
 have lh : ((List.range m).map λ i => D.int (h i)).length = m := by simp
 have e7 : QN (QN (QbA (Qa 5) QbW (QaR (Qa 6))) (Qae (Qb (dOp Qaa (dOp QcD (Qa 3) (dC (.int 56))) (dC (.int 5))) Qc))) (QbA (Qa 5) (QaR (Qa 6)) QbW) [some (.lst (ns.map .int), false), some (Qg m R [], true), some (Qj m h, true), some (.int c, true), some (Qg m R' [(q28, (m : Int))], true), some (Qj m b, true), some (.int k, true), none, none] = some ⟨.lst (cutD ((List.range m).map λ i => D.int (b i)) none (some (k : Int)) ++ [D.int (c / 56 % 5)] ++ cutD ((List.range m).map λ i => D.int (b i)) (some (k : Int)) none), true, []⟩ := by
  refine QiA (QiA (ra := ⟨.lst (cutD ((List.range m).map λ i => D.int (b i)) none (some (k : Int))), true, []⟩) (rb := ⟨.lst [.int (c / 56 % 5)], true, []⟩) (Qiy (xs := (List.range m).map λ i => D.int (b i)) (l := none) (h := some (k : Int)) (ra := ⟨Qj m b, true, [5]⟩) rfl rfl rfl rfl (QbK m b)) rfl ?_ rfl (Qc1 (Qfj (QbK m b)) rfl) ?_) rfl (Qiy (xs := (List.range m).map λ i => D.int (b i)) (l := some (k : Int)) (h := none) (ra := ⟨Qj m b, true, [5]⟩) rfl rfl rfl rfl (QbK m b)) rfl (Qc1 (Qc1 (Qfj (QbK m b)) rfl) (Qfj (QbK m b))) ?_
  ·exact (QgK (Qm (Q8 (a := c / 56) (b := 5) (QdC (a := c) (b := 56) rfl rfl rfl rfl (by decide) (by decide)) rfl rfl rfl (by decide)) (QT _)) (by simp)).trans rfl
  ·rw [Qhv, lb]; simp; omega
  ·rw [Zp, Qhv, Qkk, lb]; simp; omega
 refine run_seq (Qv e7 ?_)
 rw [QD]
 have l7 : (cutD ((List.range m).map λ i => D.int (b i)) none (some (k : Int)) ++ [D.int (c / 56 % 5)] ++ cutD ((List.range m).map λ i => D.int (b i)) (some (k : Int)) none).length = m + 1 := by
  rw [Zp, Zp, Qhv, Qkk, lb]; simp; omega
 generalize (cutD ((List.range m).map λ i => D.int (b i)) none (some (k : Int)) ++ [D.int (c / 56 % 5)] ++ cutD ((List.range m).map λ i => D.int (b i)) (some (k : Int)) none) = g at l7
 change Run _ [some (.lst (ns.map .int), false), some (Qg m R [], true), some (Qj m h, true), some (.int c, true), some (Qg m R' [(q28, (m : Int))], true), some (Qj m b, true), some (.int k, true), some (.lst g, true), none] _
 generalize hρ : ([some (.lst (ns.map .int), false), some (Qg m R [], true), some (Qj m h, true), some (.int c, true), some (Qg m R' [(q28, (m : Int))], true), some (Qj m b, true), some (.int k, true), some (.lst g, true), none] : En) = ρ
 have v1 : Qa 1 ρ = some ⟨Qg m R [], true, [1]⟩ := by rw [← hρ]; rfl
 have v2 : Qa 2 ρ = some ⟨Qj m h, true, [2]⟩ := by rw [← hρ]; rfl
 have v3 : Qa 3 ρ = some ⟨.int c, true, []⟩ := by rw [← hρ]; rfl
 have v4 : Qa 4 ρ = some ⟨Qg m R' [(q28, (m : Int))], true, [4]⟩ := by rw [← hρ]; rfl
 have v5 : Qa 5 ρ = some ⟨Qj m b, true, [5]⟩ := by rw [← hρ]; rfl
 have v7 : ∃ fr M, Qa 7 ρ = some ⟨.lst g, fr, M⟩ := ⟨_, _, by rw [← hρ]; rfl⟩
 obtain ⟨f7, M7, v7⟩ := v7
 have c1 : ∀ x : Nat -> Int, ∀ i M, Qa i ρ = some ⟨Qj m x, true, M⟩ -> QbA (Qa i) (QaR (dC (.int 1))) QbW ρ = some ⟨.lst (cutD ((List.range m).map λ i => D.int (x i)) (some 1) none), true, []⟩ := λ x i M hv => Qiy (xs := (List.range m).map λ i => D.int (x i)) (l := some 1) (h := none) hv rfl rfl rfl (QbK m x)
 have l1 : ∀ x : Nat -> Int, (cutD ((List.range m).map λ i => D.int (x i)) (some 1) none).length ≠ m := λ x => by rw [QnR]; simp; omega
 obtain ⟨xs, fr1, M1, e1, _⟩ := QiR (fs := Qb (Qa 2) (Qb (Qa 5) (Qb (Qa 7) (Qb (QbA (Qa 5) (QaR (dC (.int 1))) QbW) Qc)))) (fi := dOp Qaa (Qa 3) (dC (.int 4))) (Qm v2 (Qm v5 (Qm v7 (Qm (c1 b 5 _ v5) (QT _))))) (Q8 (a := c) (b := 4) v3 rfl rfl rfl (by decide)) (ZC _ (by decide)) (ZE _ (by decide))
 refine QL (Qak (b := false) (Qe6 (b := true) (QaA (b := true) (QB (Qm v4 (Qm e1 (Qm (r := ⟨.int 1, true, []⟩) rfl (QT _)))) (hr m R' [(q28, (m : Int))] xs "NotPlain" 1 w1 (.inl rfl) (bf.plain m R' _ xs (by simp)) (bc.plain m R' _ xs (by simp))) rfl) rfl)) (λ h => by cases h) (λ _ => Qu ?_))
 obtain ⟨ys, fr2, M2, e2, hy⟩ := QiR (fs := Qb (QbA (Qa 2) (QaR (dC (.int 1))) QbW) (Qb (QbA (Qa 5) (QaR (dC (.int 1))) QbW) (Qb (Qa 7) (Qb (QN (Qa 2) (Qae (Qb (dC (.int 0)) Qc))) Qc)))) (fi := dOp Qaa (dOp QcD (Qa 3) (dC (.int 4))) (dC (.int 4))) (Qm (c1 h 2 _ v2) (Qm (c1 b 5 _ v5) (Qm v7 (Qm (QiA (xs := (List.range m).map λ i => D.int (h i)) (ys := [.int 0]) (rb := ⟨.lst [.int 0], true, []⟩) v2 rfl rfl rfl (Qc1 (QbK m h) rfl) (by rw [lh]; simp; omega)) (QT _))))) (Q8 (a := c / 4) (b := 4) (QdC (a := c) (b := 4) v3 rfl rfl rfl (by decide) (by decide)) rfl rfl rfl (by decide)) (ZC _ (by decide)) (ZE _ (by decide))
 have ly : ys.length ≠ m := by
  rcases hy with rfl | rfl | rfl | rfl
  ·exact l1 h
  ·exact l1 b
  ·omega
  ·rw [Zp, lh]; simp
 refine QL (Qak (b := false) (Qe6 (b := true) (QaA (b := true) (QB (Qm v1 (Qm e2 (Qm (r := ⟨.int 2, true, []⟩) rfl (QT _)))) (hr m R [] ys "NoRow" 2 w2 (.inr (.inl rfl)) (bf.row m R ys ly) (bc.row m R ys ly)) rfl) rfl)) (λ h => by cases h) (λ _ => Qu ?_))
 refine QL (Qak (b := false) (Qe6 (b := true) (QaA (b := true) (QB (Qm v1 (Qm v5 (Qm (r := ⟨.int 3, true, []⟩) rfl (QT _)))) (hr m R [] _ "NoHeap" 3 w3 (.inr (.inr rfl)) (bf.heap m R b at' hlt hbel) (bc.heap m R b at' hlt hbel)) rfl) rfl)) (λ h => by cases h) (λ _ => Qu ?_))
 subst hρ
 refine run_seq (Qv (QB (r := ⟨[Qg m R [], Qj m h], true, [1, 2]⟩) rfl efire rfl) ?_)
 rw [QD]
 refine Qaq (Qfb (a := true) (b := true) rfl (Qfb (a := true) (b := true) ?_ (Qri (b := B) (QB (r := ⟨[Qg m R [], Qj m h], true, [1, 2]⟩) rfl ecome rfl)))) ⟨rfl, rfl⟩
 refine (Qi4 (a := m) (b := m) ((Qfp (xs := (List.range m).map λ i => Qda (F i)) (r := ⟨QaT m F, true, [8]⟩) rfl rfl).trans (by rw [Zs, ZV])) rfl (rb := ⟨.int m, true, []⟩) rfl rfl).trans ?_
 simp
end HS
theorem HS.some_of {α : Type} {x : Option α} {d : α} (h : x.isSome = true) : x = some (x.getD d) := by cases x with | none => cases h | some a => rfl
namespace Law
open PySem L2 HS
noncomputable section
def top (i : Nat) : Stmt := PySem.Challenge.pw_heapstill_k25_fire_refused.main.body.getD i (.Pass ⟨0, 0, 0, 0⟩)
abbrev cst : List (Str × Int) := []
abbrev Sc (s : Stmt) (P : List Str) : Prop := QaJ (namesOf (Qd s)) P (Qd s)
theorem scM {s : Stmt} {P : List Str} (h1 : (Qd s).kind = .function) (h2 : (Qd s).isCoroutine = false) (h3 : (Qd s).isGenerator = false) (h4 : (namesOf (Qd s)).Nodup /\ (namesOf (Qd s)).take P.length = P /\ (∀ x ∈ P, (Qd s).names.lookup x = some .local ∨ (Qd s).names.lookup x = some .cell) /\ ∀ y ∈ (Qd s).names, y.2 ≠ .free) : Sc s P := ⟨h1, h2, h3, h4.1, h4.2.1, h4.2.2.1, h4.2.2.2⟩
noncomputable abbrev Cp (s : Stmt) (Γ : List (Str × FnR)) : Option DS := Qaw 60 (Qcm s Γ cst) (QY s)
noncomputable abbrev Dn (s : Stmt) (g : DS) : Den := Qn (namesOf (Qd s)).length g
noncomputable abbrev Gc (x : Str) (n : Nat) (d : Den) (Γ : List (Str × FnR)) : List (Str × FnR) := (x, ⟨n, [], d⟩) :: Γ
noncomputable abbrev cls : List Str := ["NoRow", "NoHeap", "NotPlain"]
noncomputable abbrev QsP : List (Str × List (Str × Bool)) := [("NoRow", [("ValueError", true), ("NotPlain", false), ("NoRow", true), ("NoHeap", false), ("HeapError", true)]), ("NoHeap", [("ValueError", true), ("NotPlain", false), ("NoRow", false), ("NoHeap", true), ("HeapError", true)]), ("NotPlain", [("ValueError", true), ("NotPlain", true), ("NoRow", false), ("NoHeap", false), ("HeapError", true)])]
noncomputable abbrev sub := Qot QsP
noncomputable abbrev CpT (s : Stmt) (Γ : List (Str × FnR)) (Γx : List (Str × (Nat × (List D -> Option Str)))) (hΓ : List (Str × FnR)) : Option DS := Qaw 60 (thT 60 s Γ cst ⟨Γx, cls⟩ sub hΓ) (QY s)
noncomputable abbrev CpH (s : Stmt) (hΓ : List (Str × FnR)) : Option DS := Qco (Qcm s [] cst) sub hΓ (QY s)
noncomputable abbrev CpX (s : Stmt) (Γ : List (Str × FnR)) (Γx : List (Str × (Nat × (List D -> Option Str)))) : Option DX := Qb4 60 (Qcm s Γ cst) ⟨Γx, cls⟩ (QY s)
abbrev Qat := top 6
theorem Qfl : Sc Qat ["net", "rows"] := scM rfl rfl rfl (by decide +kernel)
theorem QfS : QC "need_rows" Qat ["net", "rows"] := λ | _, _, _, _, _, _, [_, _], _ => rfl
noncomputable def Qe5 := (CpX Qat [] []).getD xNo
theorem Qip : CpX Qat [] [] = some Qe5 := some_of (by decide +kernel)
noncomputable abbrev QbN := Qax (namesOf (Qd Qat)).length Qe5
noncomputable abbrev Qdt : List (Str × (Nat × (List D -> Option Str))) := ("need_rows", (2, QbN)) :: []
def QfP := (Cp Qat []).getD Qx
theorem QjS : Cp Qat [] = some QfP := some_of (by decide +kernel)
abbrev Q6 := Dn Qat QfP
abbrev Qb3 := Gc "need_rows" 2 Q6 []
abbrev Qac := top 7
theorem QeK : Sc Qac ["net", "heaps"] := scM rfl rfl rfl (by decide +kernel)
theorem Qfc : QC "need_heaps" Qac ["net", "heaps"] := λ | _, _, _, _, _, _, [_, _], _ => rfl
noncomputable def QeI := (CpX Qac Qb3 Qdt).getD xNo
theorem Qh9 : CpX Qac Qb3 Qdt = some QeI := some_of (by decide +kernel)
noncomputable abbrev Qbo := Qax (namesOf (Qd Qac)).length QeI
noncomputable abbrev Qc6 : List (Str × (Nat × (List D -> Option Str))) := ("need_heaps", (2, Qbo)) :: Qdt
def Qfd := (Cp Qac Qb3).getD Qx
theorem Qje : Cp Qac Qb3 = some Qfd := some_of (by decide +kernel)
abbrev Q0 := Dn Qac Qfd
abbrev QdA := Gc "need_heaps" 2 Q0 Qb3
abbrev Qdk := top 9
theorem QmM : Sc Qdk ["roads", "lanes"] := scM rfl rfl rfl (by decide +kernel)
theorem Qqe : QC "steps" Qdk ["roads", "lanes"] := λ | _, _, _, _, _, _, [_, _], _ => rfl
def QjY := (Cp Qdk QdA).getD Qx
theorem Qpp : Cp Qdk QdA = some QjY := some_of (by decide +kernel)
abbrev Qci := Dn Qdk QjY
abbrev Qhj := Gc "steps" 2 Qci QdA
abbrev Qbd := top 10
theorem Qib : Sc Qbd ["net"] := scM rfl rfl rfl (by decide +kernel)
theorem QiJ : QC "toll_table" Qbd ["net"] := λ | _, _, _, _, _, _, [_], _ => rfl
def Qfi := (Cp Qbd Qhj).getD Qx
theorem QiV : Cp Qbd Qhj = some Qfi := some_of (by decide +kernel)
abbrev QR := Dn Qbd Qfi
abbrev Qdv := Gc "toll_table" 1 QR Qhj
abbrev Qbt := top 11
theorem Qji : Sc Qbt ["net"] := scM rfl rfl rfl (by decide +kernel)
theorem QjR : QC "span_list" Qbt ["net"] := λ | _, _, _, _, _, _, [_], _ => rfl
def QfU := (Cp Qbt Qdv).getD Qx
theorem QjG : Cp Qbt Qdv = some QfU := some_of (by decide +kernel)
abbrev Qar := Dn Qbt QfU
abbrev QdQ := Gc "span_list" 1 Qar Qdv
abbrev QbZ := top 13
theorem QjF : Sc QbZ ["net"] := scM rfl rfl rfl (by decide +kernel)
theorem Qkv : QC "is_plain" QbZ ["net"] := λ | _, _, _, _, _, _, [_], _ => rfl
def Qg0 := (Cp QbZ QdQ).getD Qx
theorem Qku : Cp QbZ QdQ = some Qg0 := some_of (by decide +kernel)
abbrev Qas := Dn QbZ Qg0
abbrev Qcu := Gc "is_plain" 1 Qas QdQ
abbrev Q9 := top 14
theorem QeO : Sc Q9 ["net"] := scM rfl rfl rfl (by decide +kernel)
theorem QeY : QC "need_plain" Q9 ["net"] := λ | _, _, _, _, _, _, [_], _ => rfl
noncomputable def QeN := (CpX Q9 Qcu Qc6).getD xNo
theorem Qid : CpX Q9 Qcu Qc6 = some QeN := some_of (by decide +kernel)
noncomputable abbrev Qbk := Qax (namesOf (Qd Q9)).length QeN
noncomputable abbrev Qc7 : List (Str × (Nat × (List D -> Option Str))) := ("need_plain", (1, Qbk)) :: Qc6
def Qe8 := (Cp Q9 Qcu).getD Qx
theorem Qja : Cp Q9 Qcu = some Qe8 := some_of (by decide +kernel)
abbrev QZ := Dn Q9 Qe8
abbrev Qdy := Gc "need_plain" 1 QZ Qcu
abbrev QaV := top 16
theorem Qhc : Sc QaV ["toll", "place", "places"] := scM rfl rfl rfl (by decide +kernel)
theorem Qif : QC "roads_among" QaV ["toll", "place", "places"] := λ | _, _, _, _, _, _, [_, _, _], _ => rfl
def QeS := (Cp QaV Qdy).getD Qx
theorem Qie : Cp QaV Qdy = some QeS := some_of (by decide +kernel)
abbrev QP := Dn QaV QeS
abbrev Qbm := Gc "roads_among" 3 QP Qdy
abbrev Qcl := top 18
theorem Qkc : Sc Qcl ["net", "heap"] := scM rfl rfl rfl (by decide +kernel)
theorem QlM : QC "fire" Qcl ["net", "heap"] := λ | _, _, _, _, _, _, [_, _], _ => rfl
noncomputable def Qkp := (CpX Qcl Qbm Qc7).getD xNo
theorem QoM : CpX Qcl Qbm Qc7 = some Qkp := some_of (by decide +kernel)
noncomputable abbrev Qbu := Qax (namesOf (Qd Qcl)).length Qkp
noncomputable abbrev Qhk : List (Str × (Nat × (List D -> Option Str))) := ("fire", (2, Qbu)) :: Qc7
def Qmq := (Cp Qcl Qbm).getD Qx
theorem Qrc : Cp Qcl Qbm = some Qmq := some_of (by decide +kernel)
abbrev QM := Dn Qcl Qmq
abbrev Qfg := Gc "fire" 2 QM Qbm
abbrev Q3 := top 19
theorem Qek : Sc Q3 ["net", "heap"] := scM rfl rfl rfl (by decide +kernel)
theorem QeM : QC "comes_again" Q3 ["net", "heap"] := λ | _, _, _, _, _, _, [_, _], _ => rfl
noncomputable def Qeg := (CpX Q3 Qfg Qhk).getD xNo
theorem QhE : CpX Q3 Qfg Qhk = some Qeg := some_of (by decide +kernel)
noncomputable abbrev Qao := Qax (namesOf (Qd Q3)).length Qeg
noncomputable abbrev QbU : List (Str × (Nat × (List D -> Option Str))) := ("comes_again", (2, Qao)) :: Qhk
def QeP := (Cp Q3 Qfg).getD Qx
theorem Qia : Cp Q3 Qfg = some QeP := some_of (by decide +kernel)
abbrev QJ := Dn Q3 QeP
abbrev Qc9 := Gc "comes_again" 2 QJ Qfg
abbrev QaG := top 21
theorem QgR : Sc QaG ["_law_script", "_law_k"] := scM rfl rfl rfl (by decide +kernel)
theorem Qhe : QC "_law_cell_at" QaG ["_law_script", "_law_k"] := λ | _, _, _, _, _, _, [_, _], _ => rfl
def Qd4 := (Cp QaG Qc9).getD Qx
theorem Qg2 : Cp QaG Qc9 = some Qd4 := some_of (by decide +kernel)
abbrev Qy := Dn QaG Qd4
abbrev QcH := Gc "_law_cell_at" 2 Qy Qc9
abbrev QbS := top 23
theorem QjL : Sc QbS ["_law_script"] := scM rfl rfl rfl (by decide +kernel)
theorem Qkx : QC "_law_net" QbS ["_law_script"] := λ | _, _, _, _, _, _, [_], _ => rfl
def QgL := (Cp QbS QcH).getD Qx
theorem Qlc : Cp QbS QcH = some QgL := some_of (by decide +kernel)
abbrev QbX := Dn QbS QgL
abbrev Qeu := Gc "_law_net" 1 QbX QcH
abbrev Qbs := top 26
theorem Qjc : Sc Qbs ["_law_script", "_law_net_here"] := scM rfl rfl rfl (by decide +kernel)
theorem QjQ : QC "_law_heap" Qbs ["_law_script", "_law_net_here"] := λ | _, _, _, _, _, _, [_, _], _ => rfl
def QfM := (Cp Qbs Qeu).getD Qx
theorem QjK : Cp Qbs Qeu = some QfM := some_of (by decide +kernel)
abbrev Qbx := Dn Qbs QfM
abbrev QdR := Gc "_law_heap" 2 Qbx Qeu
abbrev Qbr := top 27
theorem Qiz : Sc Qbr ["_law_e"] := scM rfl rfl rfl (by decide +kernel)
theorem QjJ : QC "_law_kind" Qbr ["_law_e"] := λ | _, _, _, _, _, _, [_], _ => rfl
def QfO := (CpH Qbr []).getD Qx
theorem QjP : CpH Qbr [] = some QfO := some_of (by decide +kernel)
abbrev Qbv := Dn Qbr QfO
noncomputable abbrev Qcj := Gc "_law_kind" 1 Qbv []
abbrev Qbq := top 28
theorem Qi2 : Sc Qbq ["_law_net_here", "_law_heap_here", "_law_both"] := scM rfl rfl rfl (by decide +kernel)
theorem QjO : QC "_law_said" Qbq ["_law_net_here", "_law_heap_here", "_law_both"] := λ | _, _, _, _, _, _, [_, _, _], _ => rfl
def QfN := (CpT Qbq QdR QbU Qcj).getD Qx
theorem QjE : CpT Qbq QdR QbU Qcj = some QfN := some_of (by decide +kernel)
abbrev Qa5 := Dn Qbq QfN
abbrev QdP := Gc "_law_said" 3 Qa5 QdR
abbrev QaI := top 29
theorem QgS : Sc QaI ["_law_net_here", "_law_heap_here", "_law_way"] := scM rfl rfl rfl (by decide +kernel)
theorem Qhm : QC "_law_by_name" QaI ["_law_net_here", "_law_heap_here", "_law_way"] := λ | _, _, _, _, _, _, [_, _, _], _ => rfl
def Qec := (CpT QaI QdP QbU Qcj).getD Qx
theorem Qha : CpT QaI QdP QbU Qcj = some Qec := some_of (by decide +kernel)
abbrev QaK := Dn QaI Qec
abbrev QcI := Gc "_law_by_name" 3 QaK QdP
abbrev QaH := top 30
theorem Qgt : Sc QaH ["_law_net_here", "_law_heap_here", "_law_way"] := scM rfl rfl rfl (by decide +kernel)
theorem QhL : QC "_law_refused" QaH ["_law_net_here", "_law_heap_here", "_law_way"] := λ | _, _, _, _, _, _, [_, _, _], _ => rfl
def Qd8 := (Cp QaH QcI).getD Qx
theorem Qhp : Cp QaH QcI = some Qd8 := some_of (by decide +kernel)
abbrev Q5 := Dn QaH Qd8
abbrev Qee := Gc "_law_refused" 3 Q5 QcI
abbrev Qfr := top 31
theorem QqC : Sc Qfr ["_law_script"] := scM rfl rfl rfl (by decide +kernel)
theorem Qsd : QC "law" Qfr ["_law_script"] := λ | _, _, _, _, _, _, [_], _ => rfl
def Qoy := (Cp Qfr Qee).getD Qx
theorem QrT : Cp Qfr Qee = some Qoy := some_of (by decide +kernel)
abbrev QkR := Dn Qfr Qoy
theorem QfT : Q6 = Qn 3 (HS.Qb7) := by kernel_rfl
theorem Qe3 : Q0 = Qn 3 (HS.QbO Q6) := by kernel_rfl
theorem QoL : Qci = Qn 4 (HS.QhH) := by kernel_rfl
theorem QiZ : QR = Qn 5 (HS.Qdo Qci) := by kernel_rfl
theorem QjU : Qar = Qn 1 (HS.QdV QR) := by kernel_rfl
theorem Qlb : Qas = Qn 1 (HS.Qgn) := by kernel_rfl
theorem Qfo : QZ = Qn 1 (HS.QbJ Qas) := by kernel_rfl
theorem Qh8 : QP = Qn 3 (HS.QeL) := by kernel_rfl
theorem Qmf : QM = Qn 8 (HS.QgI QZ Q0 QR QP) := by kernel_rfl
theorem QeQ : QJ = Qn 4 (HS.Qb9 QM Qar) := by kernel_rfl
theorem QhK : Qy = Qn 2 (HS.Qej) := by kernel_rfl
theorem QkN : QbX = Qn 9 (HS.Qdn Qy) := by kernel_rfl
theorem QjN : Qbx = Qn 5 (HS.Qcr Qy) := by kernel_rfl
theorem QjI : Qbv = Qn 1 (HS.QdM sub) := by kernel_rfl
theorem QjT : Qa5 = Qn 4 (HS.QdL QM QJ Qbv Qbu Qao sub) := by kernel_rfl
theorem QhA : QaK = Qn 3 (HS.QcU QM Qbu sub) := by kernel_rfl
theorem Qg5 : Q5 = Qn 4 (HS.QcZ Qa5 QaK) := by kernel_rfl
theorem Qsj : QkR = Qn 9 (HS.Qh1 QbX Qbx Qy Q5 QM QJ) := by kernel_rfl
theorem QeZ : QbN = Qax 3 (HS.QcR) := by kernel_rfl
theorem QeR : Qbo = Qax 3 (HS.Qcp Q6 QbN) := by kernel_rfl
theorem QeJ : Qbk = Qax 1 (HS.Qcq Qas) := by kernel_rfl
theorem QjW : Qbu = Qax 8 (HS.QgQ QP QR Q0 QZ Qbo Qbk) := by kernel_rfl
theorem Qd3 : Qao = Qax 4 (HS.Qb8 Qar QM Qbu) := by kernel_rfl
end
end Law
namespace HS
open PySem PySem.Spec L2
noncomputable def QnD (mg : Str -> Option Value) : List Str -> Prop
 | [] => True
 | x :: r => mg x = none /\ QnD mg r
theorem Qiq {mg : Str -> Option Value} : ∀ {l : List Str}, QnD mg l -> ∀ x ∈ l, mg x = none
 | [], _, x, h => by simp at h
 | y :: r, h, x, hx => by
  rcases Zm.mp hx with rfl | hx
  ·exact h.1
  ·exact Qiq h.2 x hx
noncomputable def Qnn (mg : Str -> Option Value) : List (Str × Int) -> Prop
 | [] => True
 | (x, i) :: r => (∃ t, mg x = some (.int i t)) /\ Qnn mg r
theorem Qjg {mg : Str -> Option Value} : ∀ {l : List (Str × Int)}, Qnn mg l -> ∀ x i, look x l = some i -> ∃ t, mg x = some (.int i t)
 | [], _, x, i, h => by cases h
 | (y, j) :: r, h, x, i, hx => by
  unfold look at hx
  split at hx
  ·rename_i e; cases hx; subst e; exact h.1
  ·exact Qjg h.2 x i hx
theorem QqV {mg : Str -> Option Value} {cs : List (Str × Int)} (b : QnD mg QiM) (c : Qnn mg cs) : QcP mg cs := ⟨Qiq b, Qjg c⟩
end HS
namespace Law
open HS
theorem QkB : Qfm Qy := by rw [QhK]; exact QoT
theorem QsJ : Qjj QbX := by rw [QkN]; exact QoP QkB
theorem Qsr : Qf6 Qbx := by rw [QjN]; exact Qlk QkB
theorem Qoo : QeT QR := by rw [QiZ, QoL]; exact Qo5
theorem Qou : QgN Q6 := by rw [QfT]; exact QpE
theorem Qro : Qhr Q0 := by rw [Qe3]; exact Qn8 Qou
theorem Qly : QfD Qas := by rw [Qlb]; exact Qnq
theorem Qlv : Qfu QZ := by rw [Qfo]; exact Qm1 Qly
theorem Qqp : Qhh QP := by rw [Qh8]; exact Qns
theorem Qof : Qgf QM := by rw [Qmf]; exact QoF Qlv Qro Qoo Qqp
theorem Qr0 : Qi8 Qar := by rw [QjU]; exact Qo2 Qoo
theorem QqB : QhG QJ := by rw [QeQ]; exact QmP Qof Qr0
theorem Qmd : ApF Q6 QbN := by rw [QfT, QeZ]; exact Qpt
theorem QrZ : QkE QbN := by rw [QeZ]; exact QmS
theorem Qkg : ApF Q0 Qbo := by rw [Qe3, QeR]; exact Qn6 Qmd
theorem Qrq : QiK Qbo := by rw [QeR]; exact QlL Qmd Qou QrZ
theorem Qj5 : ApF QZ Qbk := by rw [Qfo, QeJ]; exact QnJ
theorem QqO : Qix Qbk := by rw [QeJ]; exact QmA Qly
theorem Qgr : ApF QM Qbu := by rw [Qmf, QjW]; exact Qps Qkg Qj5
theorem Qov : Qey Qbu := by rw [QjW]; exact Qnd Qkg Qj5 Qlv Qrq QqO
theorem QpH : ApF QJ Qao := by rw [QeQ, Qd3]; exact QnS Qgr
theorem Qqy : Qey Qao := by rw [Qd3]; exact Qme Qgr Qov
theorem Qsm : Qiv sub Qbv := by rw [QjI]; exact Qlo
theorem QrO : Qjq sub Qbu Qao Qa5 := by rw [QjT]; exact QlI Qgr QpH Qsm
theorem hBy : Qnp sub Qbu QaK := by rw [QhA]; exact Qpq Qgr
theorem QsS : QhI sub Qbu Qao Q5 := by rw [Qg5]; exact QiL QrO hBy
theorem w1 : QcO sub "NotPlain" 1 := ⟨by decide +kernel, by decide +kernel, by decide +kernel, by decide +kernel, by decide +kernel⟩
theorem w2 : QcO sub "NoRow" 2 := ⟨by decide +kernel, by decide +kernel, by decide +kernel, by decide +kernel, by decide +kernel⟩
theorem w3 : QcO sub "NoHeap" 3 := ⟨by decide +kernel, by decide +kernel, by decide +kernel, by decide +kernel, by decide +kernel⟩
theorem QrB (ns : List Int) (h : ns.length <= 63) : ∃ fr, QkR [.lst (ns.map .int)] = some (.bl true, fr) := by
 rw [Qsj]
 exact ⟨true, Qru QsJ Qsr QkB QsS Qof QqB Qov Qqy w1 w2 w3 ns h⟩
end Law
namespace PySem.W.Fast
def tw5142652910516663815 := 0
def tw11844332496296073113 := 0
def tw671762815417538707 := 0
def tw12697590448992539170 := 0
def tw15276630046998642280 := 0
def tw14198109696801639533 := 0
def tw10270588528991903844 := 0
def tw14512399414667871443 := 0
def tw6766732533542678062 := 0
def tw14011994091860895975 := 0
def tw11455977197089090592 := 0
def tw10315493238181972195 := 0
def tw9842504651180600070 := 0
def tw8715387056080643229 := 0
def tw8858999746491946083 := 0
def tw10705264914473577061 := 0
def tw525591922032682305 := 0
def tw11770051030231904371 := 0
def tw12626982966570429644 := 0
def tw8765345917817719662 := 0
def tw17600919592956187223 := 0
def tw4536606398531115746 := 0
def tw9357227553523080010 := 0
def tw6704344235096565138 := 0
def tw5607103538708000977 := 0
def tw17940440475168750356 := 0
def tw6979721028923557386 := 0
def tw17884933093373872969 := 0
def tw14948880731754866327 := 0
def tw13825618310031148923 := 0
def tw2323084832523723506 := 0
def tw15664424692107826791 := 0
def tw3323164877254979471 := 0
def tw17814193325019879942 := 0
def tw18434104000793847601 := 0
def tw336381388392900586 := 0
def tw2155233046886733825 := 0
def tw6643863792121363185 := 0
def tw14579423897302146092 := 0
def tw152896705858910010 := 0
def tw11798026878158507269 := 0
def tw2117188852206090865 := 0
def tw8621835471204375351 := 0
def tw16179445088285545900 := 0
def tw10188545215780269690 := 0
def tw12581134480281334643 := 0
def tw2427139464953905591 := 0
def tw11718731193509741850 := 0
def tw13285422256671775019 := 0
def tw12806521899287335168 := 0
def tw18202459350356586075 := 0
def tw5864229363961413317 := 0
def tw2504477981083411199 := 0
def tw9379638605196904074 := 0
def tw17756974578370504972 := 0
def tw14547878087382313224 := 0
def tw8036358474129944229 := 0
def tw11891666149612465698 := 0
def tw14406492298738182212 := 0
def tw6681429348018459327 := 0
def tw11228785147838625418 := 0
def tw9796009469920533979 := 0
def tw13771067216347946743 := 0
def tw10756631778074178585 := 0
def tw11410416452443993631 := 0
def tw9974969864701699123 := 0
def tw3286626571988694828 := 0
def tw16659648908693019244 := 0
end PySem.W.Fast
open PySem PySem.W PyProof.Rows HS
set_option maxRecDepth 100000 in
set_option maxHeartbeats 0 in
theorem PySem.Challenge.cw_heapstill_k25_fire_refused_holds : PySem.Challenge.rw_heapstill_k25_fire_refused.Holds := by
 w_on; o_law; k_head; (case hw => w_witness2)
 k_fill
 refine HS.Qnk (l := PySem.Challenge.rw_heapstill_k25_fire_refused) (k := 18) (x := "_law_script") (den := Law.QkR) rfl rfl ⟨rfl, by decide, by decide⟩ (λ w h Y => PySem.W.kIn_of Y) Law.QrB ?F
 case F =>
  intro w mg fa h KX G hmg
  obtain ⟨f_need_rows, f_need_heaps, f_steps, f_toll_table, f_span_list, f_is_plain, f_need_plain, f_roads_among, f_fire, f_comes_again, f__law_cell_at, f__law_net, f__law_heap, f__law_kind, f__law_said, f__law_by_name, f__law_refused, f_law⟩ : HS.Fact (L2.KOf KX) "need_rows" Law.Qat /\ HS.Fact (L2.KOf KX) "need_heaps" Law.Qac /\ HS.Fact (L2.KOf KX) "steps" Law.Qdk /\ HS.Fact (L2.KOf KX) "toll_table" Law.Qbd /\ HS.Fact (L2.KOf KX) "span_list" Law.Qbt /\ HS.Fact (L2.KOf KX) "is_plain" Law.QbZ /\ HS.Fact (L2.KOf KX) "need_plain" Law.Q9 /\ HS.Fact (L2.KOf KX) "roads_among" Law.QaV /\ HS.Fact (L2.KOf KX) "fire" Law.Qcl /\ HS.Fact (L2.KOf KX) "comes_again" Law.Q3 /\ HS.Fact (L2.KOf KX) "_law_cell_at" Law.QaG /\ HS.Fact (L2.KOf KX) "_law_net" Law.QbS /\ HS.Fact (L2.KOf KX) "_law_heap" Law.Qbs /\ HS.Fact (L2.KOf KX) "_law_kind" Law.Qbr /\ HS.Fact (L2.KOf KX) "_law_said" Law.Qbq /\ HS.Fact (L2.KOf KX) "_law_by_name" Law.QaI /\ HS.Fact (L2.KOf KX) "_law_refused" Law.QaH /\ HS.Fact (L2.KOf KX) "law" Law.Qfr := by
   refine ⟨?_, ?_, ?_, ?_, ?_, ?_, ?_, ?_, ?_, ?_, ?_, ?_, ?_, ?_, ?_, ?_, ?_, ?_⟩ <;> (dsimp only [L2.KOf]; refine' HS.fact_mk ?a ?l ?c ?k; (case a => k_is); (case l => k_is); (case c => k_is); (case k => k_is))
  have M : HS.QcP mg Law.cst := by
   obtain ⟨n_range, n_enumerate, n_zip, n_len, n_list, n_min, n_max, n_sum, n_abs, n_isinstance, n_int, n_bool, n_tuple, n_str, n_divmod, n_sorted, n_any, n_all⟩ : PySem.W.nsIn (L2.KOf KX) mainGlobals "range" = some none /\ PySem.W.nsIn (L2.KOf KX) mainGlobals "enumerate" = some none /\ PySem.W.nsIn (L2.KOf KX) mainGlobals "zip" = some none /\ PySem.W.nsIn (L2.KOf KX) mainGlobals "len" = some none /\ PySem.W.nsIn (L2.KOf KX) mainGlobals "list" = some none /\ PySem.W.nsIn (L2.KOf KX) mainGlobals "min" = some none /\ PySem.W.nsIn (L2.KOf KX) mainGlobals "max" = some none /\ PySem.W.nsIn (L2.KOf KX) mainGlobals "sum" = some none /\ PySem.W.nsIn (L2.KOf KX) mainGlobals "abs" = some none /\ PySem.W.nsIn (L2.KOf KX) mainGlobals "isinstance" = some none /\ PySem.W.nsIn (L2.KOf KX) mainGlobals "int" = some none /\ PySem.W.nsIn (L2.KOf KX) mainGlobals "bool" = some none /\ PySem.W.nsIn (L2.KOf KX) mainGlobals "tuple" = some none /\ PySem.W.nsIn (L2.KOf KX) mainGlobals "str" = some none /\ PySem.W.nsIn (L2.KOf KX) mainGlobals "divmod" = some none /\ PySem.W.nsIn (L2.KOf KX) mainGlobals "sorted" = some none /\ PySem.W.nsIn (L2.KOf KX) mainGlobals "any" = some none /\ PySem.W.nsIn (L2.KOf KX) mainGlobals "all" = some none := by refine ⟨?_, ?_, ?_, ?_, ?_, ?_, ?_, ?_, ?_, ?_, ?_, ?_, ?_, ?_, ?_, ?_, ?_, ?_⟩ <;> (dsimp only [L2.KOf]; k_is)
   exact HS.QqV ⟨PySem.W.mg_none_of KX G n_range, PySem.W.mg_none_of KX G n_enumerate, PySem.W.mg_none_of KX G n_zip, PySem.W.mg_none_of KX G n_len, PySem.W.mg_none_of KX G n_list, PySem.W.mg_none_of KX G n_min, PySem.W.mg_none_of KX G n_max, PySem.W.mg_none_of KX G n_sum, PySem.W.mg_none_of KX G n_abs, PySem.W.mg_none_of KX G n_isinstance, PySem.W.mg_none_of KX G n_int, PySem.W.mg_none_of KX G n_bool, PySem.W.mg_none_of KX G n_tuple, PySem.W.mg_none_of KX G n_str, PySem.W.mg_none_of KX G n_divmod, PySem.W.mg_none_of KX G n_sorted, PySem.W.mg_none_of KX G n_any, PySem.W.mg_none_of KX G n_all, True.intro⟩ True.intro
  have t0 : ∀ base : Heap, HS.QaZ (PySem.Challenge.rw_heapstill_k25_fire_refused).prog w (L2.KOf KX) mg base 0 [] := λ _ => HS.QaZ.nil
  have hcl : ∀ x ∈ Law.cls, HS.Qfk (L2.KOf KX) x := HS.Qkm (by refine ⟨?_, ?_, ?_, trivial⟩ <;> (dsimp only [L2.KOf]; refine' HS.QoK ?a ?b; (case a => k_is); (case b => k_exc)))
  have hsub : HS.Qa2 (L2.KOf KX) Law.sub := by
   refine HS.Qpg ⟨⟨?x0, ?y0_0, ?y0_1, ?y0_2, ?y0_3, ?y0_4, trivial⟩, ⟨?x1, ?y1_0, ?y1_1, ?y1_2, ?y1_3, ?y1_4, trivial⟩, ⟨?x2, ?y2_0, ?y2_1, ?y2_2, ?y2_3, ?y2_4, trivial⟩, trivial⟩
   case x0 => (dsimp only [L2.KOf]; refine' HS.Qk5 ?a ?b ?c ?d ?e ?f ?g; (case a => k_is); (case b => k_is); (case c => k_is); (case d => k_is); (case e => k_is); (case f => k_is); (case g => k_is))
   case y0_0 => (dsimp only [L2.KOf]; refine' HS.QhJ ?a ?b ?c ?d; (case a => k_is); (case b => k_is); (case c => kts_exm); (case d => kit_is))
   case y0_1 => (dsimp only [L2.KOf]; refine' HS.Qay ?a ?b ?c ?d; (case a => k_is); (case b => k_is); (case c => kts_exm); (case d => kit_is))
   case y0_2 => (dsimp only [L2.KOf]; refine' HS.Qay ?a ?b ?c ?d; (case a => k_is); (case b => k_is); (case c => kts_exm); (case d => kit_is))
   case y0_3 => (dsimp only [L2.KOf]; refine' HS.Qay ?a ?b ?c ?d; (case a => k_is); (case b => k_is); (case c => kts_exm); (case d => kit_is))
   case y0_4 => (dsimp only [L2.KOf]; refine' HS.Qay ?a ?b ?c ?d; (case a => k_is); (case b => k_is); (case c => kts_exm); (case d => kit_is))
   case x1 => (dsimp only [L2.KOf]; refine' HS.Qk5 ?a ?b ?c ?d ?e ?f ?g; (case a => k_is); (case b => k_is); (case c => k_is); (case d => k_is); (case e => k_is); (case f => k_is); (case g => k_is))
   case y1_0 => (dsimp only [L2.KOf]; refine' HS.QhJ ?a ?b ?c ?d; (case a => k_is); (case b => k_is); (case c => kts_exm); (case d => kit_is))
   case y1_1 => (dsimp only [L2.KOf]; refine' HS.Qay ?a ?b ?c ?d; (case a => k_is); (case b => k_is); (case c => kts_exm); (case d => kit_is))
   case y1_2 => (dsimp only [L2.KOf]; refine' HS.Qay ?a ?b ?c ?d; (case a => k_is); (case b => k_is); (case c => kts_exm); (case d => kit_is))
   case y1_3 => (dsimp only [L2.KOf]; refine' HS.Qay ?a ?b ?c ?d; (case a => k_is); (case b => k_is); (case c => kts_exm); (case d => kit_is))
   case y1_4 => (dsimp only [L2.KOf]; refine' HS.Qay ?a ?b ?c ?d; (case a => k_is); (case b => k_is); (case c => kts_exm); (case d => kit_is))
   case x2 => (dsimp only [L2.KOf]; refine' HS.Qk5 ?a ?b ?c ?d ?e ?f ?g; (case a => k_is); (case b => k_is); (case c => k_is); (case d => k_is); (case e => k_is); (case f => k_is); (case g => k_is))
   case y2_0 => (dsimp only [L2.KOf]; refine' HS.QhJ ?a ?b ?c ?d; (case a => k_is); (case b => k_is); (case c => kts_exm); (case d => kit_is))
   case y2_1 => (dsimp only [L2.KOf]; refine' HS.Qay ?a ?b ?c ?d; (case a => k_is); (case b => k_is); (case c => kts_exm); (case d => kit_is))
   case y2_2 => (dsimp only [L2.KOf]; refine' HS.Qay ?a ?b ?c ?d; (case a => k_is); (case b => k_is); (case c => kts_exm); (case d => kit_is))
   case y2_3 => (dsimp only [L2.KOf]; refine' HS.Qay ?a ?b ?c ?d; (case a => k_is); (case b => k_is); (case c => kts_exm); (case d => kit_is))
   case y2_4 => (dsimp only [L2.KOf]; refine' HS.Qay ?a ?b ?c ?d; (case a => k_is); (case b => k_is); (case c => kts_exm); (case d => kit_is))
  have x0 : ∀ base : Heap, HS.Qc8 (PySem.Challenge.rw_heapstill_k25_fire_refused).prog w (L2.KOf KX) mg base 0 [] := λ _ => HS.Qc8.nil
  have h0 : ∀ base : Heap, HS.Qc4 (PySem.Challenge.rw_heapstill_k25_fire_refused).prog w (L2.KOf KX) mg base 0 [] := λ _ => HS.Qc4.nil
  have h_need_rows := λ b => (h0 b).mono (Zu _)
  have x_need_rows := λ b => (x0 b).cons (HS.Qd0 KX G f_need_rows Law.Qfl Law.QfS M (t0 b) (x0 b) hcl Law.Qip)
  have t_need_rows := λ b => (t0 b).cons (HS.Qab KX G f_need_rows Law.Qfl Law.QfS M (t0 b) Law.QjS)
  have h_need_heaps := λ b => (h_need_rows b).mono (Zu _)
  have x_need_heaps := λ b => (x_need_rows b).cons (HS.Qd0 KX G f_need_heaps Law.QeK Law.Qfc M (t_need_rows b) (x_need_rows b) hcl Law.Qh9)
  have t_need_heaps := λ b => (t_need_rows b).cons (HS.Qab KX G f_need_heaps Law.QeK Law.Qfc M (t_need_rows b) Law.Qje)
  have h_steps := λ b => (h_need_heaps b).mono (Zu _)
  have x_steps := λ b => (x_need_heaps b).mono (Zu _)
  have t_steps := λ b => (t_need_heaps b).cons (HS.Qab KX G f_steps Law.QmM Law.Qqe M (t_need_heaps b) Law.Qpp)
  have h_toll_table := λ b => (h_steps b).mono (Zu _)
  have x_toll_table := λ b => (x_steps b).mono (Zu _)
  have t_toll_table := λ b => (t_steps b).cons (HS.Qab KX G f_toll_table Law.Qib Law.QiJ M (t_steps b) Law.QiV)
  have h_span_list := λ b => (h_toll_table b).mono (Zu _)
  have x_span_list := λ b => (x_toll_table b).mono (Zu _)
  have t_span_list := λ b => (t_toll_table b).cons (HS.Qab KX G f_span_list Law.Qji Law.QjR M (t_toll_table b) Law.QjG)
  have h_is_plain := λ b => (h_span_list b).mono (Zu _)
  have x_is_plain := λ b => (x_span_list b).mono (Zu _)
  have t_is_plain := λ b => (t_span_list b).cons (HS.Qab KX G f_is_plain Law.QjF Law.Qkv M (t_span_list b) Law.Qku)
  have h_need_plain := λ b => (h_is_plain b).mono (Zu _)
  have x_need_plain := λ b => (x_is_plain b).cons (HS.Qd0 KX G f_need_plain Law.QeO Law.QeY M (t_is_plain b) (x_is_plain b) hcl Law.Qid)
  have t_need_plain := λ b => (t_is_plain b).cons (HS.Qab KX G f_need_plain Law.QeO Law.QeY M (t_is_plain b) Law.Qja)
  have h_roads_among := λ b => (h_need_plain b).mono (Zu _)
  have x_roads_among := λ b => (x_need_plain b).mono (Zu _)
  have t_roads_among := λ b => (t_need_plain b).cons (HS.Qab KX G f_roads_among Law.Qhc Law.Qif M (t_need_plain b) Law.Qie)
  have h_fire := λ b => (h_roads_among b).mono (Zu _)
  have x_fire := λ b => (x_roads_among b).cons (HS.Qd0 KX G f_fire Law.Qkc Law.QlM M (t_roads_among b) (x_roads_among b) hcl Law.QoM)
  have t_fire := λ b => (t_roads_among b).cons (HS.Qab KX G f_fire Law.Qkc Law.QlM M (t_roads_among b) Law.Qrc)
  have h_comes_again := λ b => (h_fire b).mono (Zu _)
  have x_comes_again := λ b => (x_fire b).cons (HS.Qd0 KX G f_comes_again Law.Qek Law.QeM M (t_fire b) (x_fire b) hcl Law.QhE)
  have t_comes_again := λ b => (t_fire b).cons (HS.Qab KX G f_comes_again Law.Qek Law.QeM M (t_fire b) Law.Qia)
  have h__law_cell_at := λ b => (h_comes_again b).mono (Zu _)
  have x__law_cell_at := λ b => (x_comes_again b).mono (Zu _)
  have t__law_cell_at := λ b => (t_comes_again b).cons (HS.Qab KX G f__law_cell_at Law.QgR Law.Qhe M (t_comes_again b) Law.Qg2)
  have h__law_net := λ b => (h__law_cell_at b).mono (Zu _)
  have x__law_net := λ b => (x__law_cell_at b).mono (Zu _)
  have t__law_net := λ b => (t__law_cell_at b).cons (HS.Qab KX G f__law_net Law.QjL Law.Qkx M (t__law_cell_at b) Law.Qlc)
  have h__law_heap := λ b => (h__law_net b).mono (Zu _)
  have x__law_heap := λ b => (x__law_net b).mono (Zu _)
  have t__law_heap := λ b => (t__law_net b).cons (HS.Qab KX G f__law_heap Law.Qjc Law.QjQ M (t__law_net b) Law.QjK)
  have h__law_kind := λ b => (h__law_heap b).cons (HS.Qp3 KX G f__law_kind Law.Qiz Law.QjJ M hsub (h__law_heap b) Law.QjP)
  have x__law_kind := λ b => (x__law_heap b).mono (Zu _)
  have t__law_kind := λ b => (t__law_heap b).up (Zu _)
  have h__law_said := λ b => (h__law_kind b).mono (Zu _)
  have x__law_said := λ b => (x__law_kind b).mono (Zu _)
  have t__law_said := λ b => (t__law_kind b).cons (HS.QjZ KX G f__law_said Law.Qi2 Law.QjO M (t__law_kind b) (x__law_kind b) hcl hsub (h__law_kind b) Law.QjE)
  have h__law_by_name := λ b => (h__law_said b).mono (Zu _)
  have x__law_by_name := λ b => (x__law_said b).mono (Zu _)
  have t__law_by_name := λ b => (t__law_said b).cons (HS.QjZ KX G f__law_by_name Law.QgS Law.Qhm M (t__law_said b) (x__law_said b) hcl hsub (h__law_said b) Law.Qha)
  have h__law_refused := λ b => (h__law_by_name b).mono (Zu _)
  have x__law_refused := λ b => (x__law_by_name b).mono (Zu _)
  have t__law_refused := λ b => (t__law_by_name b).cons (HS.Qab KX G f__law_refused Law.Qgt Law.QhL M (t__law_by_name b) Law.Qhp)
  exact HS.Qr5 KX G hmg f_law Law.QqC Law.Qsd M (λ base => t__law_refused base) Law.QrT
