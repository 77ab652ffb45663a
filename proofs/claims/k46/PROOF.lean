import PyProof.Rows.All
import Wide.All
import OpenK.AllK
import Wide.FinOn
import Lean
import PyProof.EqAt
import PyProof.EqKinds
import PyProof.TupleCall
import PyProof.ZipIter
import PyProof.EnumMake
import PyProof.Rows.FactsT2
import PyProof.Rows.EnumRows
import PyProof.P3In
import PyProof.NeData
import KE.KUnpack
import PyProof.Rows.SumAny
import PyProof.Rows.MinMaxN
import PyProof.Rows.ListRangeD
import PyProof.Rows.Range3
import PyProof.Rows.RuleM_int
import PyProof.Rows.SortShell
import KE.KTryOn
import PyProof.ExcBaseAll.ValueError
import PyProof.RulesAs
import PyProof.ExcAttrAll.ValueError
import PyProof.Rows.RegTopCatchBFacts
import KE.RegKTryMore
import KE.RegKIsAll
import PySem.Challenge.RW_heapstill_k46_heaps_at_places
set_option Elab.async false
set_option linter.all false
set_option maxRecDepth 100000
local macro_rules | `(⋯)=> `(by first | with_reducible assumption | with_reducible exact Int.natCast_nonneg _ | with_reducible exact Int.ofNat_lt.2 (by assumption) | omega)
def Za:= @Option.bind_some
def Zb:= @PySem.Heap.get?_push_of_some
def Zc:= @List.mem_cons_of_mem
def Zd:= @List.getElem?_set_ne
def Ze:= @List.mem_append_right
def Zf:= @List.mem_range
def Zg:= @List.mem_append_left
def Zh:= @Option.map_eq_some_iff
def Zi:= @Nat.le_refl
def Zj:= @List.mem_cons
def Zk:= @List.getElem?_eq_some_iff
def Zl:= @List.mem_cons_self
def Zm:= @Bool.and_eq_true
def Zn:= @List.length_map
def Zo:= @List.getElem?_set_self
def Zp:= @Nat.lt_of_lt_of_le
def Zq:= @Nat.pow_le_pow_right
def Zr:= @List.getElem?_map
def Zs:= @PySem.Heap.lt_size
def Zt:= @Nat.le_trans
def Zu:= @List.length_range
def Zv:= @List.getElem?_eq_none
def Zw:= @List.lookup_cons
def Zx:= @List.size_toArray
def Zy:= @List.length_append
def Zz:= @Int.emod_lt_of_pos
def ZA:= @Int.emod_nonneg
def ZC:= @PySem.Heap.get?_push_size
def ZD:= @List.map_congr_left
def ZE:= @Int.mul_assoc
def ZF:= @Int.zero_mul
def ZG:= @List.mem_append
def ZH:= @List.mem_singleton
def ZI:= @Int.mul_zero
def ZJ:= @List.map_cons
def ZK:= @List.getElem?_range
def ZL:= @List.mem_map
def ZM:= @Int.add_mul
def ZN:= @Nat.ne_of_lt
def ZO:= @Int.mul_left_comm
def ZP:= @Int.toNat_natCast
def ZQ:= @Int.one_mul
def ZR:= @List.length_cons
def ZS:= @List.count_eq_zero
def ZT:= @Nat.lt_of_le_of_lt
def ZU:= @Int.mul_le_mul_of_nonneg_left
def ZV:= @Option.map_some
def ZW:= @List.drop_eq_getElem_cons
def ZX:= @Classical.byContradiction
def ZY:= @Nat.lt_irrefl
def ZZ:= @List.length_set
def Zaa:= @Nat.zero_le
def Zab:= @Int.mul_one
def Zac:= @PyProof.Rows.callWith_type1
def Zad:= @Int.neg_mul
def Zae:= @Int.natAbs_dvd_natAbs
def Zaf:= @Array.length_toList
def Zag:= @Int.zero_sub
def Zah:= @Int.mul_comm
def Zai:= @Int.mul_le_mul_of_nonneg_right
def Zaj:= @Int.eq_of_mul_eq_mul_left
def Zak:= @Bool.false_ne_true
def Zal:= @List.count_pos_iff
def Zam:= @List.map_map
def Zan:= @Int.natCast_mul
def Zao:= @Int.natAbs_mul
def Zap:= @PySem.mem_of_lookup
def Zaq:= @List.replicate_succ
def Zar:= @PySem.Heap.size_push
def Zas:= @List.nodup_iff_count
def Zat:= @List.flatten_cons
def Zau:= @List.count_append
def Zav:= @List.eq_nil_of_length_eq_zero
def Zaw:= @Int.mul_nonneg
def Zax:= @List.mem_of_getElem?
def Zay:= @Int.mul_add
def Zaz:= @Int.dvd_mul_of_dvd_left
def ZaA:= @List.getD_eq_getElem?_getD
def ZaB:= @List.nodup_cons
def ZaC:= @List.map_append
def ZaD:= @Int.mul_neg
def ZaE:= @List.getElem?_zip_eq_some
def ZaF:= @List.all_eq_true
def ZaG:= @Int.sub_add_cancel
def ZaH:= @List.sum_cons
def ZaI:= @Bool.not_eq_true'
def ZaJ:= @Int.natCast_add
def ZaK:= @Int.dvd_add
def ZaL:= @Nat.eq_zero_or_pos
def ZaM:= @Int.mul_nonpos_of_nonneg_of_nonpos
def ZaN:= @Int.emod_add_mul_ediv
def ZaO:= @List.set_eq_take_append_cons_drop
def ZaP:= @List.mem_filter
def ZaQ:= @List.append_nil
def ZaR:= @List.count_cons
def ZaS:= @PySem.W.kia_one
def ZaT:= @Nat.lt_succ_of_lt
def ZaU:= @Nat.mul_comm
def ZaV:= @List.ext_getElem?
def ZaW:= @List.getElem?_eq_getElem
def ZaX:= @List.nodup_nil
def ZaY:= @Nat.mul_le_mul
def ZaZ:= @List.mem_filterMap
def Zba:= @List.take_append_drop
def Zbb:= @Nat.le_of_ble_eq_true
def Zbc:= @List.append_assoc
def Zbd:= @Int.emod_eq_of_lt
def Zbe:= @Int.le_refl
def Zbf:= @Nat.mul_le_mul_right
def Zbg:= @Nat.le_of_lt
def Zbh:= @Nat.lt_succ_self
def Zbi:= @Int.emod_eq_emod_iff_emod_sub_eq_zero
def Zbj:= @List.getElem?_append_left
def Zbk:= @PySem.W.hideAll_get
def Zbl:= @List.map_eq_nil_iff
def Zbm:= @PySem.W.mg_of
def Zbn:= @Nat.le_of_dvd
def Zbo:= @Nat.min_eq_left
def Zbp:= @List.range_succ
def Zbq:= @Nat.add_sub_cancel
def Zbr:= @PyProof.Rows.intBits_le
def Zbs:= @Int.dvd_sub
def Zbt:= @Nat.le_mul_of_pos_right
def Zbu:= @Nat.ne_of_gt
def Zbv:= @List.reverse_cons
def Zbw:= @PyProof.Rows.boot_list
def Zbx:= @List.nodup_append
def Zby:= @List.take_of_length_le
def Zbz:= @List.range_succ_eq_map
def ZbA:= @Int.add_zero
def ZbB:= @Int.sub_self
def ZbC:= @Int.natAbs_add_le
def ZbD:= @List.length_singleton
def ZbE:= @List.contains_iff_mem
def ZbF:= @List.mem_flatten
def ZbG:= @Nat.le_succ
def ZbH:= @Nat.add_le_add_right
def ZbI:= @Int.mul_sub
def ZbJ:= @Int.neg_neg
def ZbK:= @PySem.F.slot_zip_next
def ZbL:= @List.nil_append
def ZbM:= @PyProof.Rows.boot_isinstance
def ZbN:= @List.filterMap_cons
def ZbO:= @List.length_reverse
def ZbP:= @List.filter_eq_self
def ZbQ:= @List.sum_append_int
def ZbR:= @Int.fdiv_eq_ediv_of_nonneg
def ZbS:= @List.getElem?_append_right
def ZbT:= @List.getElem?_set
def ZbU:= @Option.isSome_iff_exists
def ZbV:= @PyProof.noPylong_of_log2
def ZbW:= @List.length_take
def ZbX:= @List.getElem?_replicate
def ZbY:= @List.not_mem_nil
def ZbZ:= @PySem.Heap.IsList.push
def Zca:= @List.cons_append
def Zcb:= @List.foldlM_cons
def Zcc:= @List.drop_length
def Zcd:= @PyProof.Rows.boot_tuple
def Zce:= @List.take_length
def Zcf:= @Classical.axiomOfChoice
def Zcg:= @PySem.W.cellsFrom_some
def Zch:= @Nat.lt_trans
def Zci:= @Nat.sub_zero
def Zcj:= @Nat.pow_succ
def Zck:= @Int.fmod_nonneg_of_pos
def Zcl:= @List.filter_eq_nil_iff
def Zcm:= @List.of_mem_zip
def Zcn:= @List.forIn_cons
def Zco:= @Bool.or_eq_true
def Zcp:= @Int.ediv_nonneg
def Zcq:= @List.map_take
def Zcr:= @Bool.and_true
abbrev Mt2:=Nat->Nat->Int
abbrev Mt1:=Nat->Int
abbrev Lpp:=List (Int×Int)
abbrev LAd:=List PySem.Addr
abbrev Fgg:=PySem.W.Frag
namespace L2
open PySem PySem.Spec PyProof.Rows
noncomputable abbrev Key:=Sum Int Str
noncomputable def QwH:Key->Value->Bool
 | .inl k,v=>Value.isInt k v
 | .inr x,v=>Value.isStrOf x v
noncomputable def QCm(w:World):Key->Int
 | .inl k=>hashInt k
 | .inr x=>hashStr w x
theorem Qbb:∀{k:Key}{v:Value},QwH k v=true->(∃i t,k=Sum.inl i/\v=Value.int i t)∨(∃x t,k=Sum.inr x/\v=Value.str x t)
 | .inl i,v,h=>by
  obtain⟨t,e⟩:=Value.isInt_shape (k:=i) (v:=v) h;exact .inl ⟨i,t,rfl,e⟩
 | .inr x,v,h=>by
  obtain⟨t,e⟩:=Value.isStrOf_shape (x:=x) (v:=v) h;exact .inr ⟨x,t,rfl,e⟩
theorem QyR(a b:Int):decide ((Sum.inl a:Key)=Sum.inl b)=(a == b):=by
 by_cases e:a=b
 ·subst e;simp
 ·have h:¬(Sum.inl a:Key)=Sum.inl b:=λq=>e (Sum.inl.inj q);rw[decide_eq_false h];exact(beq_eq_false_iff_ne.mpr e).symm
theorem QAu(a b:Str):decide ((Sum.inr a:Key)=Sum.inr b)=decide (a=b):=by
 by_cases e:a=b
 ·subst e;simp
 ·have h:¬(Sum.inr a:Key)=Sum.inr b:=λq=>e (Sum.inr.inj q);rw[decide_eq_false h,decide_eq_false e]
theorem QzL(a:Int)(b:Str):decide ((Sum.inl a:Key)=Sum.inr b)=false:=decide_eq_false (λq=>nomatch q)
theorem QAg(a:Str)(b:Int):decide ((Sum.inr a:Key)=Sum.inl b)=false:=decide_eq_false (λq=>nomatch q)
noncomputable def Qne(prog:Program)(w:World):PySem.KeyKind prog w Key where
 is:=QwH
 hash:=QCm w
 inj:=λv a b ha hb=>by
  rcases Qbb ha with⟨i,t,rfl,rfl⟩ | ⟨x,t,rfl,rfl⟩
  ·rcases Qbb hb with⟨j,u,rfl,e⟩ | ⟨y,u,rfl,e⟩
   ·injection e with e1 _;rw[e1]
   ·exact nomatch e
  ·rcases Qbb hb with⟨j,u,rfl,e⟩ | ⟨y,u,rfl,e⟩
   ·exact nomatch e
   ·injection e with e1 _;rw[e1]
 byValue:=λk v h=>by
  rcases Qbb h with⟨i,t,rfl,rfl⟩ | ⟨x,t,rfl,rfl⟩<;>rfl
 pyHash:=λhv h=>by
  rcases Qbb hv with⟨i,t,rfl,rfl⟩ | ⟨x,t,rfl,rfl⟩
  ·exact wpAny_pyHash_int h
  ·exact wpAny_pyHash_str h
 eqBool:=λhu hv h=>by
  rcases Qbb hu with⟨i,t,rfl,rfl⟩ | ⟨x,t,rfl,rfl⟩
  ·rcases Qbb hv with⟨j,u,rfl,rfl⟩ | ⟨y,u,rfl,rfl⟩
   ·rw[QyR]at h;exact wpAny_eqBool_int h
   ·rw[QzL]at h;exact SeqAt.EqAt.int_str i t y u _ _ _ _ h
  ·rcases Qbb hv with⟨j,u,rfl,rfl⟩ | ⟨y,u,rfl,rfl⟩
   ·rw[QAg]at h;exact SeqAt.EqAt.str_int x t j u _ _ _ _ h
   ·rw[QAu]at h;exact wpAny_eqBool_str h
 «strs» :=λk x t v h=>by
  rcases Qbb h with⟨i,u,rfl,e⟩ | ⟨y,u,rfl,e⟩
  ·exact nomatch e
  ·injection e with e1 _;subst e1;cases v<;>rfl
inductive V where
 | non | bl (b:Bool) | int (i:Int) | str (x:Str) | byt (b:Array UInt8) | flt (b:UInt64) | ref (a:Addr) | ty (n:String)
 deriving DecidableEq
noncomputable def RelV:V->Value->Prop
 | .non,u=>u=Value.none
 | .bl b,u=>u=Value.bool b
 | .int i,u=>∃t,u=Value.int i t
 | .str x,u=>∃t,u=Value.str x t
 | .byt b,u=>∃t,u=Value.bytes b t
 | .flt b,u=>∃t,u=Value.float b t
 | .ref a,u=>u=Value.ref a
 | .ty n,u=>u=Value.type n
noncomputable abbrev QK:List V->List Value->Prop:=Paired RelV
theorem QK.length{xs:List V}{us:List Value}(r:QK xs us):xs.length=us.length:=Paired.length r
theorem QK.get:∀{xs:List V}{us:List Value}{i:Nat}{x:V},QK xs us->xs[i]? =some x->∃u,us[i]? =some u/\RelV x u
 | _,_,_,_,.nil,e=>by simp at e
 | _,_,0,_,.cons r _,e=>by simp at e;subst e;exact⟨_,rfl,r⟩
 | _,_,i+1,x,.cons _ t,e=>by
  obtain⟨u,h1,h2⟩:=QK.get (i:=i) (x:=x) t (by simpa using e);exact⟨u,by simpa using h1,h2⟩
theorem QK.set{x:V}{u:Value}(r:RelV x u):∀{xs:List V}{us:List Value}(i:Nat),QK xs us->QK (xs.set i x) (us.set i u)
 | _,_,_,.nil=> .nil
 | _,_,0,.cons _ t=> .cons r t
 | _,_,i+1,.cons q t=> .cons q (QK.set r i t)
theorem exK{α β γ δ:Type}{P Q R:α->β->γ->δ->Prop}{G:Prop}(k:∀a b c d,P a b c d->Q a b c d->R a b c d->G)(h:∃a b c d,P a b c d/\Q a b c d/\R a b c d):G:=let ⟨a,b,c,d,p,q,r⟩:=h;k a b c d p q r
theorem exJ{α β:Type}{P Q R:α->β->Prop}{G:Prop}(k:∀a b,P a b->Q a b->R a b->G)(h:∃a b,P a b/\Q a b/\R a b):G:=let ⟨a,b,p,q,r⟩:=h;k a b p q r
theorem QK.append{xs ys:List V}{us ws:List Value}(h:QK xs us)(s:QK ys ws):QK (xs++ys) (us++ws):=by
 induction h with
 | nil=>exact s
 | cons r t ih=>exact .cons r ih
theorem QK.take:∀{xs:List V}{us:List Value}(n:Nat),QK xs us->QK (xs.take n) (us.take n)
 | _,_,0,_=> .nil
 | _,_,_+1,.nil=> .nil
 | _,_,n+1,.cons r t=> .cons r (QK.take n t)
theorem QK.drop:∀{xs:List V}{us:List Value}(n:Nat),QK xs us->QK (xs.drop n) (us.drop n)
 | _,_,0,r=>r
 | _,_,_+1,.nil=> .nil
 | _,_,n+1,.cons _ t=>QK.drop n t
noncomputable def Qzs:Option V->Option Value->Prop
 | some v,some u=>RelV v u
 | none,none=>True
 | _,_=>False
noncomputable def KV{κ:Type}:List (κ×V)->List (κ×Value)->Prop:=Paired λ(p:κ×V) (q:κ×Value)=>p.1=q.1/\RelV p.2 q.2
noncomputable def kV:Key->V
 | .inl i=> .int i
 | .inr x=> .str x
inductive HO where
 | lst (xs:List V)
 | tup (xs:List V)
 | dK (kvs:List (Key×V)) | dT (kvs:List (List Key×V))
 | set (S:Int->Bool) (n:Nat)
 | ins (C dx:Addr) (fs:List (Str×V))
 | own (x:Addr)
 | xd (fs:List (Str×V))
 | met (f x:Addr)
 | rng (lo hi:Int)
 | frz (o:Obj) (u:HO)
 | tbl (ps:Array Value)
 | ext (φ:Heap->Prop)
noncomputable abbrev Hp:=Addr->Option HO
noncomputable def upd(H:Hp)(a:Addr)(o:HO):Hp:=λb=>if b=a then some o else H b
theorem Qac{H:Hp}{a:Addr}{o:HO}:upd H a o a=some o:=by unfold upd;rw[if_pos rfl]
theorem QP{H:Hp}{a b:Addr}{o:HO}(h:b≠a):upd H a o b=H b:=by unfold upd;rw[if_neg h]
theorem Qon{H:Hp}{a b:Addr}{o u:HO}(h:H a=some o)(h':H b=some u)(d:o≠u):a≠b:=by
 intro e;subst e;rw[h]at h';exact d (Option.some.inj h')
theorem QbU{H:Hp}{a b:Addr}{o:HO}(h:H a=some o)(h':H b=none):a≠b:=by
 intro e;subst e;rw[h]at h';cases h'
section
variable (P:Program) (w:World)
noncomputable def QbW(H:Hp)(h:Heap)(a:Addr):HO->Prop
 | .lst xs=>xs.length<=sizeLine/\∃(its:List Value) (n:Nat),QK xs its/\h.get? a=some {cls:= .type "list",data:= .seq its.toArray n}
 | .tup xs=>xs.length<=sizeLine/\∃its:List Value,QK xs its/\IsTup h a its.toArray
 | .dK kvs=>kvs.length<=sizeLine/\(a == sysModules)=false/\∃vs,KV kvs vs/\h.DictOf (Qne P w) a vs
 | .dT kvs=>kvs.length<=sizeLine/\(a == sysModules)=false/\∃xs:List (List Key×Addr×Value),
   Paired (λ(p:List Key×V) (q:List Key×Addr×Value)=>p.1=q.1/\H q.2.1=some (.tup (p.1.map kV))/\RelV p.2 q.2.2) kvs xs∧
   ∃o es ep,h.get? a=some o/\o.ExactDict/\o.data= .dict es ep/\es.toList=xs.map (entryOfKey (tupleKind (Qne P w)))/\(xs.map (·.1)).Nodup
 | .set S n=>h.SetOf (intKind P w) a S n
 | .ins C dx fs=>H dx=some (.own a)/\fs.length<=1000/\dx≠a/\h.get? a=some (PySem.W.instObj C dx)∧
   ∃mA,h.Ns1 dx mA/\(∀f,Qzs (fs.lookup f) (mA f))/\PySem.Within mA (fs.map (·.1))
 | .own _=>∃o,h.get? a=some o
 | .xd fs=>∃mA,h.Ns1 a mA/\∀f,Qzs (fs.lookup f) (mA f)
 | .rng lo hi=>∃t u v,h.get? a=some {cls:= .type "range",data:= .fields #[.int lo t,.int hi u,.int 1 v]}
 | .frz o u=>h.get? a=some o/\QbW H h a u
 | .tbl ps=>h.get? a=some {cls:= .none,data:= .fields ps}
 | .met f x=>h.get? a=some (PySem.W.methodObj (.ref f) (.ref x))
 | .ext φ=>φ h/\(∃o,h.get? a=some o)/\∀h1 h2:Heap,φ h1->(∀o,h1.get? a=some o->h2.get? a=some o)->φ h2
def HOk(H:Hp)(h:Heap):Prop:=∀a o,H a=some o->QbW P w H h a o
end
section
variable {P:Program}{w:World}{H H':Hp}{h h':Heap}{a:Addr}{o:HO}
theorem QbW.lt(x:QbW P w H h a o):a<h.objs.size:=by
 cases o with
 | lst xs=>obtain⟨_,_,_,_,e⟩:=x;exact Zs e
 | tup xs=>obtain⟨_,_,_,p⟩:=x;exact p.lt
 | dK kvs=>obtain⟨_,_,_,_,o,_,_,e,_⟩:=x;exact Zs e
 | dT kvs=>obtain⟨_,_,_,_,o,_,_,e,_⟩:=x;exact Zs e
 | set S n=>obtain⟨o,_,_,_,e,_⟩:=x;exact Zs e
 | ins C dx fs=>obtain⟨_,_,_,e,_⟩:=x;exact Zs e
 | own y=>obtain⟨_,e⟩:=x;exact Zs e
 | xd fs=>obtain⟨_,⟨_,_,_,e,_⟩,_⟩:=x;exact Zs e
 | rng lo hi=>obtain⟨_,_,_,e⟩:=x;exact Zs e
 | frz ob u=>obtain⟨e,_⟩:=x;exact Zs e
 | tbl ps=>exact Zs (show h.get? a=some _ from x)
 | met f y=>exact Zs (show h.get? a=some _ from x)
 | ext φ=>obtain⟨_,⟨_,e⟩,_⟩:=x;exact Zs e
theorem Paired.QzT{α β:Type}{F G:α->β->Prop}:∀{l₁:List α}{l₂:List β},Paired F l₁ l₂->(∀a b,F a b->G a b)->Paired G l₁ l₂
 | _,_,.nil,_=> .nil
 | _,_,.cons r t,f=> .cons (f _ _ r) (Paired.QzT t f)
theorem QbW.QgV(x:QbW P w H h a o)(k:∀b u,(b=a∨H b=some (.own a))->h.get? b=some u->h'.get? b=some u)
  (ho:∀b,H b=some (.own a)->H' b=some (.own a)) (ht:∀b xs,H b=some (.tup xs)->H' b=some (.tup xs)):QbW P w H' h' a o:=by
 induction o with
 | lst xs=>obtain⟨z,its,n,r,e⟩:=x;exact⟨z,its,n,r,k _ _ (.inl rfl) e⟩
 | tup xs=>obtain⟨z,its,r,ob,e,c⟩:=x;exact⟨z,its,r,ob,k _ _ (.inl rfl) e,c⟩
 | dK kvs=>obtain⟨z,y,vs,r,ob,es,ep,e,c⟩:=x;exact⟨z,y,vs,r,ob,es,ep,k _ _ (.inl rfl) e,c⟩
 | dT kvs=>
  obtain⟨z,y,xs,r,ob,es,ep,e,c⟩:=x;exact⟨z,y,xs,Paired.QzT r λp q z=>⟨z.1,ht _ _ z.2.1,z.2.2⟩,ob,es,ep,k _ _ (.inl rfl) e,c⟩
 | set S n=>obtain⟨ob,es,ep,t,e,c⟩:=x;exact⟨ob,es,ep,t,k _ _ (.inl rfl) e,c⟩
 | ins C dx fs=>
  obtain⟨d,z,ne,e,mA,⟨od,es,ep,e2,c⟩,r⟩:=x;exact⟨ho _ d,z,ne,k _ _ (.inl rfl) e,mA,⟨od,es,ep,k _ _ (.inr d) e2,c⟩,r⟩
 | own y=>obtain⟨ob,e⟩:=x;exact⟨ob,k _ _ (.inl rfl) e⟩
 | xd fs=>obtain⟨mA,⟨od,es,ep,e,c⟩,r⟩:=x;exact⟨mA,⟨od,es,ep,k _ _ (.inl rfl) e,c⟩,r⟩
 | rng lo hi=>obtain⟨t,u,v,e⟩:=x;exact⟨t,u,v,k _ _ (.inl rfl) e⟩
 | frz ob u ih=>obtain⟨e,q⟩:=x;exact⟨k _ _ (.inl rfl) e,ih q⟩
 | tbl ps=>
  have e:h.get? a=some {cls:= .none,data:= .fields ps}:=x;show h'.get? a=some {cls:= .none,data:= .fields ps};exact k a _ (.inl rfl) e
 | met f y=>
  have e:h.get? a=some (PySem.W.methodObj (.ref f) (.ref y)):=x;show h'.get? a=some (PySem.W.methodObj (.ref f) (.ref y));exact k a _ (.inl rfl) e
 | ext φ=>obtain⟨p,⟨o,e⟩,st⟩:=x;exact⟨st _ _ p λo q=>k _ _ (.inl rfl) q,⟨o,k _ _ (.inl rfl) e⟩,st⟩
theorem HOk.lt(x:HOk P w H h)(e:H a=some o):a<h.objs.size:=(x a o e).lt
theorem HOk.fresh(x:HOk P w H h)(e:h.objs.size<=a):H a=none:=by
 cases q:H a with
 | none=>rfl
 | some u=>exact absurd (Zp (x.lt q) e) (ZY _)
theorem HOk.kept(x:HOk P w H h)(k:∀b u,h.get? b=some u->h'.get? b=some u):HOk P w H h':=λa o e=>
 (x a o e).QgV (λb u _ q=>k b u q) (λ_ q=>q) λ_ _ q=>q
theorem HOk.laid(x:HOk P w H h)(k:∀b u,h.get? b=some u->h'.get? b=some u)(hp:h.objs.size<=a)(new:QbW P w (upd H a o) h' a o):HOk P w (upd H a o) h':=λb u e=>by
 have hn:=x.fresh hp;by_cases hb:b=a
 ·subst hb;rw[Qac]at e;cases e;exact new
 ·rw[QP hb]at e;exact(x b u e).QgV (λc v _ q=>k c v q) (λc q=>by rw[QP (QbU q hn)];exact q) λc xs q=>by rw[QP (QbU q hn)];exact q
end
def Rd(H:Hp)(a:Addr)(u:HO):Prop:=H a=some u∨∃o,H a=some (.frz o u)
theorem Rd.ok{P:Program}{w:World}{H:Hp}{h:Heap}{a:Addr}{u:HO}(r:Rd H a u)(x:HOk P w H h):QbW P w H h a u:=by
 rcases r with r | ⟨o,r⟩
 ·exact x a u r
 ·obtain⟨_,q⟩:=x a _ r;exact q
noncomputable def Mut:Option HO->Prop
 | some (.lst _)=>True
 | some (.dK _)=>True
 | some (.dT _)=>True
 | some (.set _ _)=>True
 | some (.ins _ _ _)=>True
 | some (.ext _)=>True
 | _=>False
section
variable {P:Program}{w:World}{H:Hp}{h h':Heap}{x e:Addr}{o':HO}
theorem HOk.write(ok:HOk P w H h)(mu:Mut (H x))(he:e=x∨H e=some (.own x))(k:∀b u,b≠e->h.get? b=some u->h'.get? b=some u)(heo:∃u,h'.get? e=some u)
  (new:QbW P w (upd H x o') h' x o'):HOk P w (upd H x o') h':=λb u q=>by
 have nown:∀c y,H c=some (.own y)->c≠x:=λc y r z=>by subst z;rw[r]at mu;exact mu
 have ntup:∀c xs,H c=some (.tup xs)->c≠x:=λc xs r z=>by subst z;rw[r]at mu;exact mu
 by_cases hb:b=x
 ·subst hb;rw[Qac]at q;cases q;exact new
 ·rw[QP hb]at q;by_cases hbe:b=e
  ·have q':H b=some (.own x):=by
    rcases he with z | z
    ·exact absurd (hbe.trans z) hb
    ·rw[hbe];exact z
   rw[q]at q';cases q';obtain⟨v,hv⟩:=heo;exact⟨v,by rw[hbe];exact hv⟩
  ·refine(ok b u q).QgV (λc v hc r=>k c v ?_ r) (λc r=>by rw[QP (nown c b r)];exact r) λc xs r=>by rw[QP (ntup c xs r)];exact r
   rcases hc with rfl | hc
   ·exact hbe
   ·rintro rfl;rcases he with z | z
    ·exact nown c b hc z
    ·rw[hc]at z;cases z;exact hb rfl
end
structure Un (fs ex:LAd) (H H':Hp) (h h':Heap):Prop where
 keep:∀b o,h.get? b=some o->H b=none->b∉fs->b∉ex->h'.get? b=some o
 slot:∀b o,h.get? b=some o->H b=none->b∈fs->b∉ex->∃sl,h'.get? b=some {o with slots:=sl}
 free:∀b o,h.get? b=some o->H b=none->b∉ex->H' b=none
 there:∀b o,h.get? b=some o->b∉ex->∃o',h'.get? b=some o'
 tups:∀b xs,H b=some (.tup xs)->H' b=some (.tup xs)
 frzs:∀b o u,H b=some (.frz o u)->H' b=some (.frz o u)
 tbls:∀b ps,H b=some (.tbl ps)->∃more,H' b=some (.tbl (ps++more))
section
variable {fs fs' ex ex':LAd}{H H1 H2:Hp}{h h1 h2 h':Heap}{a x e:Addr}{o:HO}
theorem Un.any(u:Un fs ex H H1 h h1){b:Addr}{ob:Obj}(q:h.get? b=some ob)(n:H b=none)(hx:b∉ex):∃sl,h1.get? b=some {ob with slots:=sl}:=by
 by_cases hb:b∈fs
 ·exact u.slot b ob q n hb hx
 ·exact⟨ob.slots,u.keep b ob q n hb hx⟩
theorem Un.kept(k:∀b u,h.get? b=some u->h'.get? b=some u):Un fs ex H H h h':=
 ⟨λb ob q _ _ _=>k b ob q,λb ob q _ _ _=>⟨ob.slots,k b ob q⟩,λ_ _ _ n _=>n,λb ob q _=>⟨ob,k b ob q⟩,λ_ _ q=>q,λ_ _ _ q=>q,λ_ ps q=>⟨#[],by rw[q];simp⟩⟩
theorem Un.refl:Un fs ex H H h h:=Un.kept λ_ _ q=>q
theorem Un.laid(k:∀b u,h.get? b=some u->h'.get? b=some u)(hp:h.objs.size<=a)(hn:H a=none):Un fs ex H (upd H a o) h h' where
 keep:=λb u q _ _ _=>k b u q
 slot:=λb u q _ _ _=>⟨u.slots,k b u q⟩
 free:=λb u q n _=>by rw[QP (ZN (Zp (Zs q) hp))];exact n
 there:=λb u q _=>⟨u,k b u q⟩
 tups:=λb xs q=>by rw[QP (QbU q hn)];exact q
 frzs:=λb u xs q=>by rw[QP (QbU q hn)];exact q
 tbls:=λb ps q=>⟨#[],by rw[QP (QbU q hn),q];simp⟩
theorem Un.write(mu:Mut (H x))(he:e=x∨H e=some (.own x))(k:∀b u,b≠e->h.get? b=some u->h'.get? b=some u)(heo:∃u,h'.get? e=some u):Un fs ex H (upd H x o) h h':=by
 have hx:∀b,H b=none->b≠x:=λb n z=>by subst z;rw[n]at mu;exact mu
 have hb:∀b,H b=none->b≠e:=λb n z=>by
  subst z;rcases he with r | r
  ·exact hx b n r
  ·rw[n]at r;cases r
 have hm:∀b u,H b=some u->¬Mut (some u)->b≠x:=λb u q nm z=>by subst z;rw[q]at mu;exact nm mu
 refine⟨λb u q n _ _=>k b u (hb b n) q,λb u q n _ _=>⟨u.slots,k b u (hb b n) q⟩,λb u q n _=>by rw[QP (hx b n)];exact n,λb u q _=>?_,
  λb xs q=>by rw[QP (hm b _ q λz=>z)];exact q,λb u xs q=>by rw[QP (hm b _ q λz=>z)];exact q,λb ps q=>⟨#[],by rw[QP (hm b _ q λz=>z),q];simp⟩⟩
 by_cases hbe:b=e
 ·subst hbe;exact heo
 ·exact⟨u,k b u hbe q⟩
end
noncomputable def trk(h:Heap)(H:Hp):List Addr:=(List.range h.objs.size).filter λa=>(H a).isSome
noncomputable def Qib(h:Heap)(H:Hp):Heap:=PySem.W.hideAll h (trk h H)
theorem QtP(h:Heap)(H:Hp):(Qib h H).objs.size=h.objs.size:=PySem.W.hideAll_size _ _
theorem QuL{h:Heap}{H:Hp}{b:Addr}{o:Obj}(e:h.get? b=some o)(n:H b=none):(Qib h H).get? b=some o:=
 Zbk _ e λhm=>by
  have q:(H b).isSome=true:=(ZaP.mp hm).2;rw[n]at q;simp at q
theorem QwZ{h:Heap}{H:Hp}{b:Addr}{o:Obj}(e:(Qib h H).get? b=some o):h.get? b=some o/\H b=none:=by
 have e':h.get? b=some o:=PySem.W.of_hideAll (trk h H) e;refine⟨e',?_⟩;cases q:H b with
 | none=>rfl
 | some x=>
  have hm:b∈trk h H:=ZaP.mpr ⟨Zf.mpr (Zs e'),by simp[q]⟩;have z:(Qib h H).get? b=none:=PySem.W.hideAll_none (trk h H) hm;rw[z]at e;cases e
structure Mod (K:Fgg) (mg:Str->Option Value) (base:Heap):Prop where
 kin:K.In base
 glob:base.Ns mainGlobals mg
 blt:∃mb,base.Ns builtinsNs mb/\∀x:Str,x≠ "__name__" ->mb x=bootBuiltins x
 nolimit:base.NoLimit
structure Cx where
 prog:Program
 w:World
 K:PySem.W.Frag
 mg:Str->Option Value
 base:Heap
 A:Around
 N:List Str
 s₀:Shared
 H₀:Hp
 env:Env
 outer:List Env
 stack:List Env
 ex:List Addr
 fn:Str->Bool
 calm:Bool
 pn:List (Addr×Obj)
 xe:Value->Shared->Prop
noncomputable def frs(l:List Env):List Addr:=l.filterMap (·.frame)
noncomputable abbrev Cx.fs(X:Cx):List Addr:=frs X.outer
def Vis(sc:Scope)(x:Str):Prop:=sc.names.lookup x=some .local ∨sc.names.lookup x=some .cell∨sc.names.lookup x=some .free
def Loc(sc:Scope)(x:Str):Prop:=sc.names.lookup x=some .local ∨sc.names.lookup x=some .cell
def Look(env:Env)(h:Heap)(m:Str->Option Value)(x:Str)(u:Value):Prop:=
 (env.kindOf x=some .local /\m x=some u)∨((env.kindOf x=some .cell∨env.kindOf x=some .free)/\∃c,env.cells.lookup x=some c/\h.IsCell c (some u))
structure Cx.Ok (X:Cx):Prop where
 mod:Mod X.K X.mg X.base
 kind:X.env.scope.kind= .function
 glob:X.env.globals=mainGlobals
 blt:X.env.builtins=builtinsNs
 above:X.s₀.heap.objs.size<=X.env.locals
 inj:∀x y c,X.env.cells.lookup x=some c->X.env.cells.lookup y=some c->x=y
 has:∀x,(X.env.kindOf x=some .cell∨X.env.kindOf x=some .free)->∃c,X.env.cells.lookup x=some c
 cab:∀x c,X.fn x=true->X.env.cells.lookup x=some c->X.s₀.heap.objs.size<=c
 hd:X.calm=true->X.A.handled=none
 frames:X.A.frames=some X.stack
 stk:X.stack=X.outer∨(X.stack=X.env::X.outer/\X.env.frame=some X.env.locals)
 exf:∀b∈X.ex,b≠X.env.locals/\∀x c,X.env.cells.lookup x=some c->c≠b
 bs:∀b o,X.base.get? b=some o->X.s₀.heap.get? b=some o/\X.H₀ b=none
 bsz:X.base.objs.size<=X.s₀.heap.objs.size
 noex:∀b o,X.base.get? b=some o->b∉X.ex
 exfs:∀b∈X.ex,b∉X.fs
 Qec:X.s₀.heap.FunFrames X.base X.outer
 frf:∀b∈X.fs,X.H₀ b=none
structure Inv (X:Cx) (pins:List (Addr×Obj)) (σ:List (Option V)) (H:Hp) (s:Shared):Prop where
 ok:X.Ok
 os:s.os=X.s₀.os
 bare:AllBare s.gens
 base:Un X.fs X.ex X.H₀ H X.s₀.heap s.heap
 loc:∃m,s.heap.Ns X.env.locals m/\∀(i:Nat) (x:Str) (v:V),X.N[i]? =some x->σ[i]? =some (some v)->Vis X.env.scope x->∃u,RelV v u/\Look X.env s.heap m x u
 cell:∀x c,X.env.cells.lookup x=some c->∃v,s.heap.IsCell c v
 free:H X.env.locals=none
 freeC:∀x c,X.env.cells.lookup x=some c->H c=none
 pin:∀p∈X.pn++pins,s.heap.get? p.1=some p.2/\H p.1=none/\p.1≠X.env.locals/\p.1∉X.fs/\∀v,p.2.data≠ .cell v
 hok:HOk X.prog X.w H s.heap
 len:σ.length=X.N.length
section
variable {X:Cx}{pins:List (Addr×Obj)}{σ:List (Option V)}{H H':Hp}{s:Shared}{h':Heap}
theorem Cx.Ok.QCE(ok:X.Ok){b:Addr}{o:Obj}(e:X.base.get? b=some o):b∉X.fs:=λhb=>by
 have:=(ok.Qec.mem hb).1;rw[e]at this;cases this
theorem Inv.bs(I:Inv X pins σ H s):∀b o,X.base.get? b=some o->s.heap.get? b=some o/\H b=none:=λb o e=>
 ⟨I.base.keep b o (I.ok.bs b o e).1 (I.ok.bs b o e).2 (I.ok.QCE e) (I.ok.noex b o e),I.base.free b o (I.ok.bs b o e).1 (I.ok.bs b o e).2 (I.ok.noex b o e)⟩
theorem Inv.bk(I:Inv X pins σ H s):∀b o,X.base.get? b=some o->s.heap.get? b=some o:=λb o e=>(I.bs b o e).1
theorem Inv.mod(I:Inv X pins σ H s):Mod X.K X.mg X.base:=I.ok.mod
theorem Inv.kIn(I:Inv X pins σ H s):X.K.In s.heap:=I.ok.mod.kin.keeps I.bk
theorem Inv.lt(I:Inv X pins σ H s):X.env.locals<s.heap.objs.size:=let ⟨_,hn,_⟩:=I.loc;hn.lt
theorem Inv.sz(I:Inv X pins σ H s):X.s₀.heap.objs.size<=s.heap.objs.size:=Zt I.ok.above (Zbg I.lt)
theorem Inv.QCP(I:Inv X pins σ H s){a:Addr}(h:s.heap.objs.size<=a):a∉X.fs:=λhb=>by
 obtain⟨_,o,ho,_⟩:=I.ok.Qec.mem hb;exact absurd (Zp (Zs ho) (Zt I.sz h)) (ZY _)
theorem Inv.cne(I:Inv X pins σ H s):∀x c,X.env.cells.lookup x=some c->c≠X.env.locals:=λx c e z=>by
 obtain⟨v,o,ho,hd⟩:=I.cell x c e;obtain⟨m,⟨o',es,ep,ho',hd',_⟩,_⟩:=I.loc;rw[z,ho']at ho;cases ho;rw[hd']at hd;cases hd
theorem Inv.Qec(I:Inv X pins σ H s):s.heap.FunFrames X.base X.outer:=by
 have all:∀(l:List Env),(∀b∈frs l,b∈X.fs)->X.s₀.heap.FunFrames X.base l->s.heap.FunFrames X.base l:=by
  intro l
  induction l with
  | nil=>intro _ _;trivial
  | cons env r ih=>
   intro hs hl;obtain⟨hk,⟨L,o,hf,hn,ho,hd⟩,hr⟩:=hl;have hL:L∈X.fs:=hs L (by unfold frs;rw[ZbN,hf];exact Zl);obtain⟨sl,e⟩:=I.base.slot L o ho (I.ok.frf L hL) hL λz=>I.ok.exfs L z hL;exact⟨hk,⟨L,_,hf,hn,e,hd⟩,ih (λb hb=>hs b (by unfold frs;rw[ZbN,hf];exact Zc _ hb)) hr⟩
 exact all X.outer (λ_ hb=>hb) I.ok.Qec
theorem Inv.stack(I:Inv X pins σ H s):s.heap.FunFrames X.base X.stack:=by
 rcases I.ok.stk with e | ⟨e,hf⟩
 ·rw[e];exact I.Qec
 ·rw[e];obtain⟨m,hn,_⟩:=I.loc;refine .cons (by rw[I.ok.kind];decide) hf hn ?_ I.Qec;exact Heap.get?_none_of_le (Zt I.ok.bsz I.ok.above)
theorem Inv.QfS(I:Inv X pins σ H s):∀b∈frs X.stack,b∈X.env.locals::X.fs:=λb hb=>by
 rcases I.ok.stk with e | ⟨e,hf⟩
 ·rw[e]at hb;exact Zc _ hb
 ·rw[e]at hb;unfold frs at hb;rw[ZbN,hf]at hb;exact hb
theorem Inv.Qni(I:Inv X pins σ H s):∀b∈frs X.stack,H b=none:=λb hb=>by
 rcases Zj.mp (I.QfS b hb)with e | hb
 ·rw[e];exact I.free
 ·obtain⟨_,o,ho,_⟩:=I.ok.Qec.mem hb;exact I.base.free b o ho (I.ok.frf b hb) λz=>I.ok.exfs b z hb
theorem Inv.step{g':Array GenState}{t':Nat}{d':Drawn}{ch:LAd}(I:Inv X pins σ H s)
  (hch:∀b∈ch,(b∈X.ex∨X.s₀.heap.objs.size<=b)/\b≠X.env.locals/\(∀x c,X.env.cells.lookup x=some c->c≠b)/\∀p∈X.pn++pins,p.1≠b)
  (keep:∀b o,b≠X.env.locals->b∉X.fs->b∉ch->s.heap.get? b=some o->H b=none->h'.get? b=some o)
  (slot:∀b o,b≠X.env.locals->b∈X.fs->b∉ch->s.heap.get? b=some o->H b=none->∃sl,h'.get? b=some {o with slots:=sl}) (free:∀b o,b∉ch->s.heap.get? b=some o->H b=none->H' b=none)
  (there:∀b o,b∉ch->s.heap.get? b=some o->∃o',h'.get? b=some o')
  (tups:∀b xs,H b=some (.tup xs)->H' b=some (.tup xs)) (frzs:∀b o u,H b=some (.frz o u)->H' b=some (.frz o u)) (tbls:∀b ps,H b=some (.tbl ps)->∃more,H' b=some (.tbl (ps++more)))
  (ns:∀m,s.heap.Ns X.env.locals m->h'.Ns X.env.locals m) (hok:HOk X.prog X.w H' h') (hg:AllBare g'):
  Inv X pins σ H' {s with heap:=h',gens:=g',drawn:=d',toks:=t'}:=by
 have neL:∀b o,X.s₀.heap.get? b=some o->b≠X.env.locals:=λb o e=>ZN (Zp (Zs e) I.ok.above);have neC:∀b o,X.s₀.heap.get? b=some o->b∉X.ex->b∉ch:=λb o e hx hb=>by
  rcases(hch b hb).1 with z | z
  ·exact hx z
  ·exact absurd (Zp (Zs e) z) (ZY _)
 have cellK:∀x c,X.env.cells.lookup x=some c->∀v,s.heap.IsCell c v->h'.IsCell c v:=λx c e v Z=>by
  obtain⟨o,ho,hd⟩:=Z;have nch:c∉ch:=λz=>(hch c z).2.2.1 x c e rfl;by_cases hc:c∈X.fs
  ·obtain⟨sl,q⟩:=slot c o (I.cne x c e) hc nch ho (I.freeC x c e);exact⟨_,q,hd⟩
  ·exact⟨o,keep c o (I.cne x c e) hc nch ho (I.freeC x c e),hd⟩
 refine⟨I.ok,I.os,hg,⟨λb o e n hb hx=>?_,λb o e n hb hx=>?_,λb o e n hx=>?_,λb o e hx=>?_,λb xs e=>tups b xs (I.base.tups b xs e),λb o xs e=>frzs b o xs (I.base.frzs b o xs e),λb ps e=>?_⟩,?_,λx c e=>?_,?_,λx c e=>?_,λp hp=>?_,hok,I.len⟩
 ·exact keep b o (neL b o e) hb (neC b o e hx) (I.base.keep b o e n hb hx) (I.base.free b o e n hx)
 ·obtain⟨sl,e1⟩:=I.base.slot b o e n hb hx;obtain⟨sl',e2⟩:=slot b _ (neL b o e) hb (neC b o e hx) e1 (I.base.free b o e n hx);exact⟨sl',e2⟩
 ·obtain⟨o',e1⟩:=I.base.there b o e hx;exact free b o' (neC b o e hx) e1 (I.base.free b o e n hx)
 ·obtain⟨o',e1⟩:=I.base.there b o e hx;exact there b o' (neC b o e hx) e1
 ·obtain⟨m1,e1⟩:=I.base.tbls b ps e;obtain⟨m2,e2⟩:=tbls b _ e1;exact⟨m1++m2,by rw[e2,Array.append_assoc]⟩
 ·obtain⟨m,hn,hl⟩:=I.loc;refine⟨m,ns m hn,λi x v e1 e2 e3=>?_⟩;obtain⟨u,r,l⟩:=hl i x v e1 e2 e3;refine⟨u,r,?_⟩;rcases l with l | ⟨k,c,e,z⟩
  ·exact .inl l
  ·exact .inr ⟨k,c,e,cellK x c e _ z⟩
 ·obtain⟨v,z⟩:=I.cell x c e;exact⟨v,cellK x c e v z⟩
 ·obtain⟨m,⟨o,_,_,ho,_⟩,_⟩:=I.loc;exact free _ o (λz=>(hch _ z).2.1 rfl) ho I.free
 ·obtain⟨v,o,ho,hd⟩:=I.cell x c e;exact free c o (λz=>(hch c z).2.2.1 x c e rfl) ho (I.freeC x c e)
 ·obtain⟨e,n,ne,nf,d⟩:=I.pin p hp;have nch:p.1∉ch:=λz=>(hch p.1 z).2.2.2 p hp rfl;exact⟨keep p.1 p.2 ne nf nch e n,free p.1 p.2 nch e n,ne,nf,d⟩
theorem Inv.un{t':Nat}(I:Inv X pins σ H s)(u:Un X.fs [] H H' s.heap h')(hok:HOk X.prog X.w H' h'):Inv X pins σ H' {s with heap:=h',toks:=t'}:=by
 obtain⟨m,⟨o,es,ep,ho,r⟩,_⟩:=id I.loc;obtain⟨sl,hL⟩:=u.any ho I.free (by simp);exact I.step (g':=s.gens) (d':=s.drawn) (ch:=[]) (λ_ z=>nomatch z) (λb o _ hb _ e n=>u.keep b o e n hb (by simp)) (λb o _ hb _ e n=>u.slot b o e n hb (by simp)) (λb o _ e n=>u.free b o e n (by simp)) (λb o _ e=>u.there b o e (by simp)) u.tups u.frzs u.tbls (λm' hm=>by
  obtain⟨o',es',ep',ho',r'⟩:=hm;rw[ho]at ho';cases ho';exact⟨_,es',ep',hL,r'⟩) hok I.bare
theorem Inv.call{g':Array GenState}{t':Nat}{d':Drawn}{ch:LAd}(I:Inv X pins σ H s)(u:Un (frs X.stack) ch H H' s.heap h')(hok:HOk X.prog X.w H' h')(hg:AllBare g')
  (hch:∀b∈ch,(b∈X.ex∨X.s₀.heap.objs.size<=b)/\b≠X.env.locals/\(∀x c,X.env.cells.lookup x=some c->c≠b)/\∀p∈X.pn++pins,p.1≠b):
  Inv X pins σ H' {s with heap:=h',gens:=g',drawn:=d',toks:=t'}:=by
 obtain⟨m,⟨o,es,ep,ho,r⟩,_⟩:=id I.loc;obtain⟨sl,hL⟩:=u.any ho I.free λz=>(hch _ z).2.1 rfl;exact I.step (ch:=ch) hch (λb o hL hb hc e n=>u.keep b o e n (λz=>(Zj.mp (I.QfS b z)).elim hL hb) hc) (λb o _ _ hc e n=>u.any e n hc) (λb o hc e n=>u.free b o e n hc) (λb o hc e=>u.there b o e hc) u.tups u.frzs u.tbls (λm' hm=>by
  obtain⟨o',es',ep',ho',r'⟩:=hm;rw[ho]at ho';cases ho';exact⟨_,es',ep',hL,r'⟩) hok hg
theorem Inv.turned{t':Nat}{it:Addr}(I:Inv X pins σ H s)(k:∀b o,b≠it->s.heap.get? b=some o->h'.get? b=some o)(hn:H it=none)(hL:it≠X.env.locals)
  (h1:it∈X.ex∨X.s₀.heap.objs.size<=it) (h2:∀x c,X.env.cells.lookup x=some c->c≠it) (h3:∀p∈X.pn++pins,p.1≠it):Inv X pins σ H {s with heap:=h',toks:=t'}:=by
 have nit:∀b u,H b=some u->b≠it:=λb u e z=>by rw[z,hn]at e;cases e
 refine I.step (g':=s.gens) (d':=s.drawn) (ch:=[it]) (λb hb=>?_) (λb o _ _ hc e _=>k b o (λz=>hc (by simp[z])) e) (λb o _ _ hc e _=>⟨o.slots,k b o (λz=>hc (by simp[z])) e⟩) (λ_ _ _ _ n=>n)
  (λb o hc e=>⟨o,k b o (λz=>hc (by simp[z])) e⟩) (λ_ _ e=>e) (λ_ _ _ e=>e) (λb ps e=>⟨#[],by rw[e];simp⟩) (λm hm=>?_) (λb u e=>?_) I.bare
 ·have e:b=it:=by simpa using hb
  subst e;exact⟨h1,hL,h2,h3⟩
 ·obtain⟨o,es,ep,ho,r⟩:=hm;exact⟨o,es,ep,k _ o (Ne.symm hL) ho,r⟩
 ·refine(I.hok b u e).QgV (λc v hc q=>k c v ?_ q) (λ_ q=>q) λ_ _ q=>q;rcases hc with z | z
  ·rw[z];exact nit b u e
  ·exact nit c _ z
theorem Inv.tok(I:Inv X pins σ H s)(t:Nat):Inv X pins σ H {s with toks:=t}:=I.un (h':=s.heap) (t':=t) Un.refl I.hok
theorem Inv.kept{t':Nat}(I:Inv X pins σ H s)(k:∀b u,s.heap.get? b=some u->h'.get? b=some u):Inv X pins σ H {s with heap:=h',toks:=t'}:=I.un (Un.kept k) (I.hok.kept k)
theorem Inv.laid{a:Addr}{o:HO}{t':Nat}(I:Inv X pins σ H s)(k:∀b u,s.heap.get? b=some u->h'.get? b=some u)(hp:s.heap.objs.size<=a)(new:QbW X.prog X.w (upd H a o) h' a o):
  Inv X pins σ (upd H a o) {s with heap:=h',toks:=t'}:=I.un (Un.laid k hp (I.hok.fresh hp)) (I.hok.laid k hp new)
theorem Inv.write{x e:Addr}{o:HO}{t':Nat}(I:Inv X pins σ H s)(mu:Mut (H x))(he:e=x∨H e=some (.own x))(k:∀b u,b≠e->s.heap.get? b=some u->h'.get? b=some u)(heo:∃u,h'.get? e=some u)
  (new:QbW X.prog X.w (upd H x o) h' x o):Inv X pins σ (upd H x o) {s with heap:=h',toks:=t'}:=I.un (Un.write mu he k heo) (I.hok.write mu he k heo new)
theorem Inv.weak{σ':List (Option V)}(I:Inv X pins σ H s)(hl:σ'.length=σ.length)(w:∀(i:Nat) v,σ'[i]? =some (some v)->σ[i]? =some (some v)):Inv X pins σ' H s:=
 ⟨I.ok,I.os,I.bare,I.base,let ⟨m,hn,hl'⟩:=I.loc;⟨m,hn,λi x v e1 e2 e3=>hl' i x v e1 (w i v e2) e3⟩,I.cell,I.free,I.freeC,I.pin,I.hok,hl.trans I.len⟩
theorem Inv.Qre{pins':List (Addr×Obj)}(I:Inv X pins σ H s)(h:∀p∈pins',s.heap.get? p.1=some p.2/\H p.1=none/\p.1≠X.env.locals/\p.1∉X.fs/\∀v,p.2.data≠ .cell v):Inv X pins' σ H s:=
 ⟨I.ok,I.os,I.bare,I.base,I.loc,I.cell,I.free,I.freeC,λp hp=>(ZG.mp hp).elim (λz=>I.pin p (Zg _ z)) (h p),I.hok,I.len⟩
theorem QkH{N:List Str}(hN:N.Nodup){i j:Nat}{x:Str}(a:N[i]? =some x)(b:N[j]? =some x):i=j:=by
 obtain⟨h1,e1⟩:=Zk.mp a;obtain⟨h2,e2⟩:=Zk.mp b;exact(List.getElem_inj hN).mp (e1.trans e2.symm)
theorem QnY{M:Model}{A:Around}{E:Value->Shared->Prop}{i:Nat}{x:Str}{v:V}{u:Value}{Q:Unit->Shared->Prop}(I:Inv X pins σ H s)(hN:X.N.Nodup)(hi:X.N[i]? =some x)(hx:Loc X.env.scope x)(r:RelV v u)
  (h:∀s',Inv X pins (σ.set i (some v)) H s'->(∃a,Heap.SameBut a s.heap s'.heap/\(a=X.env.locals∨X.env.cells.lookup x=some a))->Q () s') (hf:X.fn x=true∨X.env.scope.names.lookup x=some .local :=by first | exact .inl rfl | exact .inr rfl | assumption):wpAny M A (storeName X.env x u) Q E s:=by
 obtain⟨m,hn,hl⟩:=id I.loc;have hcls:(X.env.scope.kind == .class || (X.env.scope.kind == .module && X.env.locals != X.env.globals))=false:=by rw[I.ok.kind];rfl
 have hiσ:i<σ.length:=by rw[I.len];exact(Zk.mp hi).1
 have cne:=I.cne;have tracked:∀{a:Addr}{h':Heap},(∃o,s.heap.get? a=some o/\H a=none)->Heap.SameBut a s.heap h'->HOk X.prog X.w H h':=λ{a h'} ha hs b ob e=>by
  obtain⟨_,_,hfree⟩:=ha;refine(I.hok b ob e).QgV (λc w' hc q=>(hs.2 c ?_).trans q) (λ_ q=>q) λ_ _ q=>q;rintro rfl;rcases hc with rfl | hc
  ·rw[hfree]at e;cases e
  ·rw[hfree]at hc;cases hc
 rcases hx with hk | hk
 ·refine wpAny_storeName_local hk hn (λh' hn' hs=>?_) hcls;obtain⟨oL,_,_,hoL,_⟩:=id hn;refine h _ ⟨I.ok,I.os,I.bare,⟨λb o e n hb hx=>?_,λb o e n hb hx=>?_,I.base.free,λb o e hx=>?_,I.base.tups,I.base.frzs,I.base.tbls⟩,⟨_,hn',λj y v' e1 e2 e3=>?_⟩,λy c e=>?_,I.free,I.freeC,λp hp=>?_,tracked ⟨oL,hoL,I.free⟩ hs,by simpa using I.len⟩ ⟨_,hs,.inl rfl⟩
  ·exact(hs.2 b (ZN (Zp (Zs e) I.ok.above))).trans (I.base.keep b o e n hb hx)
  ·obtain⟨sl,e1⟩:=I.base.slot b o e n hb hx;exact⟨sl,(hs.2 b (ZN (Zp (Zs e) I.ok.above))).trans e1⟩
  ·obtain⟨o',e1⟩:=I.base.there b o e hx;exact⟨o',(hs.2 b (ZN (Zp (Zs e) I.ok.above))).trans e1⟩
  ·by_cases hj:j=i
   ·subst hj;rw[hi]at e1;cases e1;rw[Zo hiσ]at e2;cases e2;exact⟨u,r,.inl ⟨hk,by simp⟩⟩
   ·rw[Zd (Ne.symm hj)]at e2;obtain⟨u',r',q⟩:=hl j y v' e1 e2 e3;refine⟨u',r',?_⟩;rcases q with⟨k,e⟩ | ⟨k,c,e,z⟩
    ·refine .inl ⟨k,?_⟩;have:y≠x:=λe=>hj (QkH hN e1 (e▸hi));simp[this,e]
    ·exact .inr ⟨k,c,e,z.sameBut hs (cne y c e)⟩
  ·obtain⟨w',z⟩:=I.cell y c e;exact⟨w',z.sameBut hs (cne y c e)⟩
  ·obtain⟨e,n,ne,nf,d⟩:=I.pin p hp;exact⟨(hs.2 p.1 ne).trans e,n,ne,nf,d⟩
 ·have hfn:X.fn x=true:=by
   rcases hf with z | z
   ·exact z
   ·rw[z]at hk;cases hk
  obtain⟨c,hc⟩:=I.ok.has x (.inl hk);obtain⟨w',z⟩:=I.cell x c hc;refine wpAny_storeName_cell I.ok.kind hk hc z (λh' hc' hs=>?_);obtain⟨oc,hoc,hocd⟩:=id z;refine h {s with heap:=h'} ⟨I.ok,I.os,I.bare,⟨λb o e n hb hx=>?_,λb o e n hb hx=>?_,I.base.free,λb o e hx=>?_,I.base.tups,I.base.frzs,I.base.tbls⟩,⟨m,hn.sameBut hs (Ne.symm (cne x c hc)),λj y v' e1 e2 e3=>?_⟩,λy c' e=>?_,I.free,I.freeC,λp hp=>?_,tracked ⟨oc,hoc,I.freeC x c hc⟩ hs,by simpa using I.len⟩ ⟨c,hs,.inr hc⟩
  ·exact(hs.2 b (ZN (Zp (Zs e) (I.ok.cab x c hfn hc)))).trans (I.base.keep b o e n hb hx)
  ·obtain⟨sl,e1⟩:=I.base.slot b o e n hb hx;exact⟨sl,(hs.2 b (ZN (Zp (Zs e) (I.ok.cab x c hfn hc)))).trans e1⟩
  ·obtain⟨o',e1⟩:=I.base.there b o e hx;exact⟨o',(hs.2 b (ZN (Zp (Zs e) (I.ok.cab x c hfn hc)))).trans e1⟩
  ·by_cases hj:j=i
   ·subst hj;rw[hi]at e1;cases e1;rw[Zo hiσ]at e2;cases e2;exact⟨u,r,.inr ⟨.inl hk,c,hc,hc'⟩⟩
   ·rw[Zd (Ne.symm hj)]at e2;obtain⟨u',r',q⟩:=hl j y v' e1 e2 e3;refine⟨u',r',?_⟩;rcases q with q | ⟨k,c',e,z'⟩
    ·exact .inl q
    ·refine .inr ⟨k,c',e,z'.sameBut hs ?_⟩;rintro rfl;exact hj (QkH hN e1 (I.ok.inj _ _ _ e hc▸hi))
  ·by_cases hcc:c'=c
   ·subst hcc;exact⟨_,hc'⟩
   ·obtain⟨w2,z2⟩:=I.cell y c' e;exact⟨w2,z2.sameBut hs hcc⟩
  ·obtain⟨e,n,ne,nf,d⟩:=I.pin p hp;refine⟨(hs.2 p.1 ?_).trans e,n,ne,nf,d⟩;intro q;rw[q,hoc]at e;have q':oc=p.2:=Option.some.inj e;exact d w' (by rw[← q'];exact hocd)
theorem QhS{M:Model}{A:Around}{E:Value->Shared->Prop}{i:Nat}{x:Str}{v:V}{u:Value}{Q:Unit->Shared->Prop}(I:Inv X pins σ H s)(hN:X.N.Nodup)(hi:X.N[i]? =some x)(hx:Loc X.env.scope x)(r:RelV v u)
  (h:∀s',Inv X pins (σ.set i (some v)) H s'->Q () s') (hf:X.fn x=true∨X.env.scope.names.lookup x=some .local :=by first | exact .inl rfl | exact .inr rfl | assumption):wpAny M A (storeName X.env x u) Q E s:=
 QnY I hN hi hx r (λs' I' _=>h s' I') hf
theorem Inv.QwB{s':Shared}{ch:LAd}(I:Inv X pins σ H s)(ho:s'.os=s.os)(u:Un (frs X.stack) ch H H' s.heap s'.heap)(hok:HOk X.prog X.w H' s'.heap)(hg:AllBare s'.gens)
  (hch:∀b∈ch,(b∈X.ex∨X.s₀.heap.objs.size<=b)/\b≠X.env.locals/\(∀x c,X.env.cells.lookup x=some c->c≠b)/\∀p∈X.pn++pins,p.1≠b):Inv X pins σ H' s':=by
 obtain⟨h',g',d',t',o'⟩:=s';have e:o'=s.os:=ho;subst e;exact I.call (g':=g') (t':=t') (d':=d') u hok hg hch
end
noncomputable abbrev XK:=Value->Option Addr->Hp->Prop
noncomputable abbrev St:=List (Option V)
noncomputable abbrev VK:=V->Hp->Prop
noncomputable abbrev TE:=St->Hp->VK->Prop
noncomputable abbrev TT:=St->Hp->(Bool->Hp->Prop)->Prop
noncomputable abbrev TA:=St->Hp->(List V->Hp->Prop)->Prop
structure Ends where
 nx:St->Hp->Prop
 rt:VK
 bk:St->Hp->Prop:=λ_ _=>False
 ct:St->Hp->Prop:=λ_ _=>False
noncomputable abbrev TS:=Ends->St->Hp->Prop
def EP(X:Cx)(pins:List (Addr×Obj))(σ:St)(Q:VK)(u:Value)(s':Shared):Prop:=∃v H',Inv X pins σ H' s'/\RelV v u/\Q v H'
def TP(X:Cx)(pins:List (Addr×Obj))(σ:St)(Q:Bool->Hp->Prop)(b:Bool)(s':Shared):Prop:=∃H',Inv X pins σ H' s'/\Q b H'
def AP(X:Cx)(pins:List (Addr×Obj))(σ:St)(Q:List V->Hp->Prop)(us:List Value)(s':Shared):Prop:=∃vs H',Inv X pins σ H' s'/\QK vs us/\Q vs H'
def SP(X:Cx)(pins:List (Addr×Obj))(D:Ends)(f:Flow)(s':Shared):Prop:=
 match f with
 | .next=>∃σ' H',Inv X pins σ' H' s'/\D.nx σ' H'
 | .brk=>∃σ' H',Inv X pins σ' H' s'/\D.bk σ' H'
 | .cont=>∃σ' H',Inv X pins σ' H' s'/\D.ct σ' H'
 | .ret u=>∃v σ' H',Inv X pins σ' H' s'/\RelV v u/\D.rt v H'
def PE(X:Cx)(e:Expr)(t:TE):Prop:=
 ∀(pins:List (Addr×Obj)) (s:Shared) (σ:St) (H:Hp) (Q:VK),Inv X pins σ H s->t σ H Q->wpAny (model X.prog X.w) X.A (eval e X.env) (EP X pins σ Q) X.xe s
def PT(X:Cx)(e:Expr)(t:TT):Prop:=
 ∀(pins:List (Addr×Obj)) (s:Shared) (σ:St) (H:Hp) (Q:Bool->Hp->Prop),Inv X pins σ H s->t σ H Q->wpAny (model X.prog X.w) X.A (isTrue e X.env (eval e X.env)) (TP X pins σ Q) X.xe s
def PW(X:Cx)(e:Expr)(t:TT):Prop:=
 ∀(whole:Sem Value) (pins:List (Addr×Obj)) (s:Shared) (σ:St) (H:Hp) (Q:Bool->Hp->Prop),Inv X pins σ H s->t σ H Q->wpAny (model X.prog X.w) X.A (isTrue e X.env whole) (TP X pins σ Q) X.xe s
theorem PW.pt{X:Cx}{e:Expr}{t:TT}(h:PW X e t):PT X e t:=h _
def PA(X:Cx)(es:List Expr)(t:TA):Prop:=
 ∀(pos:Pos) (pins:List (Addr×Obj)) (s:Shared) (σ:St) (H:Hp) (Q:List V->Hp->Prop),Inv X pins σ H s->t σ H Q->wpAny (model X.prog X.w) X.A (spliced (backTo pos (starEach es X.env))) (AP X pins σ Q) X.xe s
def PS(X:Cx)(st:Stmt)(t:TS):Prop:=
 ∀(pins:List (Addr×Obj)) (s:Shared) (σ:St) (H:Hp) (D:Ends),Inv X pins σ H s->t D σ H->wpAny (model X.prog X.w) X.A (exec st X.env) (SP X pins D) X.xe s
def PSs(X:Cx)(st:List Stmt)(t:TS):Prop:=
 ∀(pins:List (Addr×Obj)) (s:Shared) (σ:St) (H:Hp) (D:Ends),Inv X pins σ H s->t D σ H->wpAny (model X.prog X.w) X.A (execs st X.env) (SP X pins D) X.xe s
theorem thn{α:Type}{t:Sem α}{Q Q':α->Shared->Prop}{M:Model}{A:Around}{E:Value->Shared->Prop}{s:Shared}(h:wpAny M A t Q E s)(hQ:∀a s,Q a s->Q' a s):wpAny M A t Q' E s:=wpAny_mono h hQ λ_ _ x=>x
section
variable {X:Cx}
noncomputable def QgW(i:Nat):TE:=λσ H Q=>∃v,σ[i]? =some (some v)/\Q v H
noncomputable def tC(v:V):TE:=λ_ H Q=>Q v H
theorem Qz3{i:Nat}{x:Str}{pos:Pos}(hN:X.N[i]? =some x)(hv:Vis X.env.scope x)(hd:(x == ("__debug__" :Str))=false:=by decide)(hcd:(x == ("__classdict__" :Str))=false:=by decide):PE X (.Name x pos) (QgW i):=by
 intro pins s σ H Q I h;obtain⟨v,e,h⟩:=h;obtain⟨m,hn,hl⟩:=I.loc;obtain⟨u,r,l⟩:=hl i x v hN e hv;have fin:EP X pins σ Q u s:=⟨v,H,I,r,h⟩;rcases l with⟨hk,hm⟩ | ⟨hk,c,hc,hcell⟩
 ·exact wpAny_Name (wpAny_loadName_local I.ok.kind hk hn hm fin) hd
 ·rcases hk with hk | hk
  ·exact wpAny_Name (wpAny_loadName_cell I.ok.kind hk hc hcell fin) hd
  ·exact wpAny_Name (wpAny_loadName_free I.ok.kind hk hc hcell fin hcd) hd
theorem QAO{i j pos}:PE X (.Constant (.int i) j pos) (tC (.int i)):=λ_ _ _ H _ I h=>wpAny_Constant_int ⟨.int i,H,I.tok _,⟨_,rfl⟩,h⟩
theorem QwK{b j pos}:PE X (.Constant (.bool b) j pos) (tC (.bl b)):=λ_ _ _ H _ I h=>Constant_bool ⟨.bl b,H,I,rfl,h⟩
theorem Qzo{j pos}:PE X (.Constant .none j pos) (tC .non):=λ_ _ _ H _ I h=>Constant_none ⟨.non,H,I,rfl,h⟩
theorem QyU{x j pos}:PE X (.Constant (.str x) j pos) (tC (.str x)):=λ_ _ _ H _ I h=>Calls.Constant_str ⟨.str x,H,I.tok _,⟨_,rfl⟩,h⟩
def Gl(X:Cx)(x:Str):Prop:=X.env.kindOf x=some .globalImplicit
theorem Qft{E:Value->Shared->Prop}{pins:List (Addr×Obj)}{s:Shared}{σ:St}{H:Hp}{x:Str}{u:Value}{pos:Pos}{Q:Value->Shared->Prop}(I:Inv X pins σ H s)(hg:Gl X x)(hm:X.mg x=some u)(h:Q u s)
  (hd:(x == ("__debug__" :Str))=false:=by decide):wpAny (model X.prog X.w) X.A (eval (.Name x pos) X.env) Q E s:=
 Calls.Name_function_global I.ok.kind hg (Calls.loadGlobal_global (by rw[I.ok.glob];exact I.mod.glob.keeps I.bk) hm h) hd
theorem Qdi{E:Value->Shared->Prop}{pins:List (Addr×Obj)}{s:Shared}{σ:St}{H:Hp}{x:Str}{u:Value}{pos:Pos}{Q:Value->Shared->Prop}(I:Inv X pins σ H s)(hg:Gl X x)(hm:X.mg x=none)(hv:bootBuiltins x=some u)(h:Q u s)
  (hn:x≠ "__name__" :=by decide) (hd:(x == ("__debug__" :Str))=false:=by decide):wpAny (model X.prog X.w) X.A (eval (.Name x pos) X.env) Q E s:=by
 obtain⟨mb,h1,h2⟩:=I.mod.blt;exact Calls.Name_function_global I.ok.kind hg (Calls.loadGlobal_builtin (by rw[I.ok.glob];exact I.mod.glob.keeps I.bk) hm (by rw[I.ok.blt];exact h1.keeps I.bk) ((h2 x hn).trans hv) h) hd
theorem Qxy{x:Str}{v:V}{u:Value}{pos:Pos}(hg:Gl X x)(hm:X.mg x=some u)(r:RelV v u)(hd:(x == ("__debug__" :Str))=false:=by decide):PE X (.Name x pos) (tC v):=
 λ_ _ _ H _ I h=>Qft I hg hm ⟨v,H,I,r,h⟩ hd
theorem Qha{x:Str}{v:V}{u:Value}{pos:Pos}(hg:Gl X x)(hm:X.mg x=none)(hv:bootBuiltins x=some u)(r:RelV v u)(hn:x≠ "__name__" :=by decide)(hd:(x == ("__debug__" :Str))=false:=by decide):PE X (.Name x pos) (tC v):=
 λ_ _ _ H _ I h=>Qdi I hg hm hv ⟨v,H,I,r,h⟩ hn hd
variable {a b:Expr}{ta tb:TE}{pos:Pos}
variable {tA tB':TT}{rest:List Expr}
noncomputable def QCQ(t u:TT):TT:=λσ H Q=>t σ H λc H1=>if c=true then u σ H1 Q else Q false H1
noncomputable def tOr(t u:TT):TT:=λσ H Q=>t σ H λc H1=>if c=true then Q true H1 else u σ H1 Q
noncomputable def QCC(t:TT):TT:=λσ H Q=>t σ H λc H1=>Q (!c) H1
theorem Qxn(ha:PT X a tA):PW X (.BoolOp .And [a] pos) tA:=by
 intro wh pins s σ H Q I h;refine isTrue_and (thn (ha pins s σ H Q I h) λc s1 e=>?_);cases c with
 | true=>exact isTrue_and_nil e
 | false=>exact e
theorem Qy3(ha:PT X a tA):PW X (.BoolOp .Or [a] pos) tA:=by
 intro wh pins s σ H Q I h;refine isTrue_or (thn (ha pins s σ H Q I h) λc s1 e=>?_);cases c with
 | false=>exact isTrue_or_nil e
 | true=>exact e
theorem Qy5(ha:PT X a tA)(hb:PW X (.BoolOp .And (b::rest) pos) tB'):PW X (.BoolOp .And (a::b::rest) pos) (QCQ tA tB'):=by
 intro wh pins s σ H Q I h;refine isTrue_and (thn (ha pins s σ H _ I h) λc s1 Z=>?_);obtain⟨H1,I1,q1⟩:=Z;cases c with
 | true=>exact hb wh pins s1 σ H1 Q I1 q1
 | false=>exact⟨H1,I1,q1⟩
theorem QBB(ha:PT X a tA)(hb:PW X (.BoolOp .Or (b::rest) pos) tB'):PW X (.BoolOp .Or (a::b::rest) pos) (tOr tA tB'):=by
 intro wh pins s σ H Q I h;refine isTrue_or (thn (ha pins s σ H _ I h) λc s1 Z=>?_);obtain⟨H1,I1,q1⟩:=Z;cases c with
 | true=>exact⟨H1,I1,q1⟩
 | false=>exact hb wh pins s1 σ H1 Q I1 q1
theorem Qzj(ha:PT X a tA):PT X (.UnaryOp .Not a pos) (QCC tA):=by
 intro pins s σ H Q I h;exact isTrue_not (ha pins s σ H (λc H1=>Q (!c) H1) I h)
theorem QyN{op}{t:TE}(h:PE X a t):PE X (.BoolOp op [a] pos) t:=λpins s σ H Q I hw=>BoolOp_one (h pins s σ H Q I hw)
noncomputable def tIf(t:TT)(ta tb:TE):TE:=λσ H Q=>t σ H λc H1=>if c=true then ta σ H1 Q else tb σ H1 Q
theorem QvV{c:Expr}(hc:PT X c tA)(ha:PE X a ta)(hb:PE X b tb):PE X (.IfExp c a b pos) (tIf tA ta tb):=by
 intro pins s σ H Q I h;refine wpAny_IfExp (thn (hc pins s σ H _ I h) λd s1 Z=>?_);obtain⟨H1,I1,q1⟩:=Z;cases d with
 | true=>exact ha pins s1 σ H1 Q I1 q1
 | false=>exact hb pins s1 σ H1 Q I1 q1
end
def SqL(K:Fgg)(H:Hp)(a:Addr)(xs:List V):Prop:=
 Rd H a (.lst xs)∨
  ∃(o:Obj) (its:Array Value) (n:Nat),K.lookup a=some o/\o.cls= .type "list" /\o.dict=none/\o.data= .seq its n/\its.size<=sizeLine/\QK xs its.toList
def SqT(K:Fgg)(H:Hp)(a:Addr)(xs:List V):Prop:=
 Rd H a (.tup xs)∨
  ∃(o:Obj) (its:Array Value) (n:Nat),K.lookup a=some o/\o.cls= .type "tuple" /\o.data= .seq its n/\its.size<=sizeLine/\QK xs its.toList
noncomputable def QCx:Value->Option V
 | .none=>some .non
 | .bool b=>some (.bl b)
 | .int i _=>some (.int i)
 | .str x _=>some (.str x)
 | .bytes b _=>some (.byt b)
 | .float b _=>some (.flt b)
 | .ref a=>some (.ref a)
 | .type n=>some (.ty n)
 | _=>none
theorem RelV.abs{x:V}{u:Value}(r:RelV x u):QCx u=some x:=by
 cases x with
 | non=>cases r;rfl
 | bl _=>cases r;rfl
 | int _=>obtain⟨t,rfl⟩:=r;rfl
 | str _=>obtain⟨t,rfl⟩:=r;rfl
 | byt _=>obtain⟨t,rfl⟩:=r;rfl
 | flt _=>obtain⟨t,rfl⟩:=r;rfl
 | ref _=>cases r;rfl
 | ty _=>cases r;rfl
theorem RelV.inj{x y:V}{u:Value}(r:RelV x u)(q:RelV y u):x=y:=Option.some.inj (r.abs.symm.trans q.abs)
theorem QK.inj:∀{xs ys:List V}{us:List Value},QK xs us->QK ys us->xs=ys
 | _,_,_,.nil,.nil=>rfl
 | _,_,_,.cons r t,.cons r' t'=>by rw[r.inj r',QK.inj t t']
section
variable {X:Cx}{pins:List (Addr×Obj)}{σ:St}{H:Hp}{s:Shared}{a:Addr}{xs ys:List V}
theorem SqL.of{K:Fgg}(h:H a=some (.lst xs)):SqL K H a xs:= .inl (.inl h)
theorem SqT.of{K:Fgg}(h:H a=some (.tup xs)):SqT K H a xs:= .inl (.inl h)
theorem Inv.list(I:Inv X pins σ H s)(h:SqL X.K H a xs):∃its:List Value,QK xs its/\PlainL s.heap a its.toArray/\xs.length<=sizeLine:=by
 rcases h with h | ⟨o,its,n,hk,hc,hd,hs,hz,r⟩
 ·obtain⟨z,its,n,r,e⟩:=h.ok I.hok;exact⟨its,r,⟨_,n,e,rfl,rfl,rfl⟩,z⟩
 ·refine⟨its.toList,r,⟨o,n,I.kIn a o hk,hc,hd,by simpa using hs⟩,?_⟩;have e:=r.length;simp only[Zaf]at e;omega
theorem Inv.tuple(I:Inv X pins σ H s)(h:SqT X.K H a xs):∃its:List Value,QK xs its/\IsTup s.heap a its.toArray/\xs.length<=sizeLine:=by
 rcases h with h | ⟨o,its,n,hk,hc,hs,hz,r⟩
 ·obtain⟨z,its,r,p⟩:=h.ok I.hok;exact⟨its,r,p,z⟩
 ·refine⟨its.toList,r,⟨o,I.kIn a o hk,hc,n,by simpa using hs⟩,?_⟩;have e:=r.length;simp only[Zaf]at e;omega
theorem Inv.Qdo(I:Inv X pins σ H s)(h:SqL X.K H a xs)(h':SqL X.K H a ys):xs=ys:=by
 obtain⟨its,r,⟨o,n,e,_,_,d⟩,_⟩:=I.list h;obtain⟨its',r',⟨o',n',e',_,_,d'⟩,_⟩:=I.list h';rw[e]at e';cases e';rw[d]at d';injection d' with d1 _;have:its=its':=by simpa using congrArg Array.toList d1
 subst this;exact r.inj r'
theorem Inv.QsB(I:Inv X pins σ H s)(h:SqT X.K H a xs)(h':SqT X.K H a ys):xs=ys:=by
 obtain⟨its,r,⟨o,e,_,n,d⟩,_⟩:=I.tuple h;obtain⟨its',r',⟨o',e',_,n',d'⟩,_⟩:=I.tuple h';rw[e]at e';cases e';rw[d]at d';injection d' with d1 _;have:its=its':=by simpa using congrArg Array.toList d1
 subst this;exact r.inj r'
end
noncomputable abbrev Cx.QfP(X:Cx)(E:Value->Shared->Prop):Cx:={X with xe:=E}
noncomputable abbrev Cx.nox(X:Cx):Cx:=X.QfP λ_ _=>False
theorem Cx.Ok.QfP{X:Cx}(ok:X.Ok)(E:Value->Shared->Prop):(X.QfP E).Ok:=
 ⟨ok.mod,ok.kind,ok.glob,ok.blt,ok.above,ok.inj,ok.has,ok.cab,ok.hd,ok.frames,ok.stk,ok.exf,ok.bs,ok.bsz,ok.noex,ok.exfs,ok.Qec,ok.frf⟩
theorem Cx.Ok.QeU{X:Cx}{E:Value->Shared->Prop}(ok:(X.QfP E).Ok):X.Ok:=
 ⟨ok.mod,ok.kind,ok.glob,ok.blt,ok.above,ok.inj,ok.has,ok.cab,ok.hd,ok.frames,ok.stk,ok.exf,ok.bs,ok.bsz,ok.noex,ok.exfs,ok.Qec,ok.frf⟩
section
variable {X:Cx}{pins:List (Addr×Obj)}{σ:St}{H:Hp}{s:Shared}{E:Value->Shared->Prop}
theorem Inv.QfP(I:Inv X pins σ H s)(E:Value->Shared->Prop):Inv (X.QfP E) pins σ H s:=⟨I.ok.QfP E,I.os,I.bare,I.base,I.loc,I.cell,I.free,I.freeC,I.pin,I.hok,I.len⟩
theorem Inv.QeU(I:Inv (X.QfP E) pins σ H s):Inv X pins σ H s:=⟨I.ok.QeU,I.os,I.bare,I.base,I.loc,I.cell,I.free,I.freeC,I.pin,I.hok,I.len⟩
theorem SP.QeU{D:Ends}{f:Flow}{s':Shared}(h:SP (X.QfP E) pins D f s'):SP X pins D f s':=by
 cases f with
 | next=>obtain⟨σ',H',I,q⟩:=h;exact⟨σ',H',I.QeU,q⟩
 | brk=>obtain⟨σ',H',I,q⟩:=h;exact⟨σ',H',I.QeU,q⟩
 | cont=>obtain⟨σ',H',I,q⟩:=h;exact⟨σ',H',I.QeU,q⟩
 | ret u=>obtain⟨v,σ',H',I,r,q⟩:=h;exact⟨v,σ',H',I.QeU,r,q⟩
theorem PSs.nox{st:List Stmt}{t:TS}(h:PSs X.nox st t):PSs X st t:=λpins s σ H D I hw=>
 wpAny_mono (h pins s σ H D (I.QfP _) hw) (λ_ _ q=>q.QeU) λ_ _ z=>False.elim z
end
section
variable {X:Cx}{st:Stmt}{rest:List Stmt}{t u:TS}{e:Expr}{te:TE}{pos:Pos}
noncomputable def Qsl:TS:=λD σ H=>D.nx σ H
noncomputable def Qvg(t u:TS):TS:=λD σ H=>t {D with nx:=u D} σ H
theorem Qw0:PSs X [] Qsl:=λ_ _ σ H _ I h=>wpAny_execs_nil ⟨σ,H,I,h⟩
theorem QbY(h1:PS X st t)(h2:PSs X rest u):PSs X (st::rest) (Qvg t u):=by
 intro pins s σ H D I h;refine wpAny_execs_cons (thn (h1 pins s σ H {D with nx:=u D} I h) λf s1 q=>?_);cases f with
 | next=>
  obtain⟨σ',H',I',q⟩:=q;exact h2 pins s1 σ' H' D I' q
 | ret v=>exact q
 | brk=>exact q
 | cont=>exact q
noncomputable def QzW:TS:=λD σ H=>D.bk σ H
noncomputable def QAT:TS:=λD σ H=>D.ct σ H
theorem QyJ:PS X (.Pass pos) Qsl:=λ_ _ σ H _ I h=>wpAny_Pass ⟨σ,H,I,h⟩
theorem Qv5:PS X (.Break pos) QzW:=λ_ _ σ H _ I h=>wpAny_Break ⟨σ,H,I,h⟩
theorem Qqc:PS X (.Continue pos) QAT:=λ_ _ σ H _ I h=>wpAny_Continue ⟨σ,H,I,h⟩
theorem Inv.quiet{pins:List (Addr×Obj)}{σ:St}{H:Hp}{s:Shared}(I:Inv X pins σ H s):interactive X.env=false:=by simp[interactive,I.ok.kind]
theorem QAA{x j pos pos'}:PS X (.Expr (.Constant (.str x) j pos) pos') Qsl:=λ_ s σ H _ I h=>wpAny_Expr (Calls.Constant_str (show SP X _ _ .next {s with toks:=s.toks+1}from⟨σ,H,I.tok _,h⟩)) I.quiet
noncomputable def Qrz(te:TE):TS:=λD σ H=>te σ H λ_ H1=>D.nx σ H1
theorem Qmx(he:PE X e te)(hs:swapsWith e none pos.line X.env=pure false:=by rfl):PS X (.Expr e pos) (Qrz te):=by
 intro pins s σ H D I h;exact wpAny_Expr_any (thn (he pins s σ H _ I h) λv s1 ⟨x,H1,I1,r1,q1⟩=>⟨σ,H1,I1,q1⟩) I.quiet hs
noncomputable def QCp(te:TE):TS:=λD σ H=>te σ H D.rt
theorem QAa(he:PE X e te):PS X (.Return (some e) pos) (QCp te):=by
 intro pins s σ H D I h;exact wpAny_Return_some (thn (he pins s σ H _ I h) λv s1 ⟨x,H1,I1,r1,q1⟩=>⟨x,σ,H1,I1,r1,q1⟩)
noncomputable def QCD(c:TT)(t u:TS):TS:=λD σ H=>c σ H λb H1=>if b=true then t D σ H1 else u D σ H1
theorem QwC{c:Expr}{a b:List Stmt}{tc:TT}(hc:PT X c tc)(ha:PSs X a t)(hb:PSs X b u):PS X (.If c a b pos) (QCD tc t u):=by
 intro pins s σ H D I h;refine wpAny_If (thn (hc pins s σ H _ I h) λd s1 Z=>?_);obtain⟨H1,I1,q1⟩:=Z;cases d with
 | true=>exact ha pins s1 σ H1 D I1 q1
 | false=>exact hb pins s1 σ H1 D I1 q1
noncomputable def QyP:TS:=λ_ _ _=>False
theorem Qu7:PS X st QyP:=λ_ _ _ _ _ _ h=>h.elim
end
noncomputable abbrev TG:=V->St->Hp->(St->Hp->Prop)->Prop
noncomputable abbrev TGs:=List V->St->Hp->(St->Hp->Prop)->Prop
def PG(X:Cx)(target:Expr)(t:TG):Prop:=
 ∀(pins:List (Addr×Obj)) (s:Shared) (σ:St) (H:Hp) (v:V) (u:Value) (Q:St->Hp->Prop),Inv X pins σ H s->RelV v u->t v σ H Q→
  wpAny (model X.prog X.w) X.A (assign target X.env u) (λ_ s'=>∃σ' H',Inv X pins σ' H' s'/\Q σ' H') X.xe s
def PGs(X:Cx)(ts:List Expr)(t:TGs):Prop:=
 ∀(pins:List (Addr×Obj)) (s:Shared) (σ:St) (H:Hp) (vs:List V) (us:List Value) (Q:St->Hp->Prop),Inv X pins σ H s->QK vs us->t vs σ H Q→
  wpAny (model X.prog X.w) X.A (assignInOrder ((assignEach ts X.env).map (·.2)) us) (λ_ s'=>∃σ' H',Inv X pins σ' H' s'/\Q σ' H') X.xe s
noncomputable abbrev Qpw:=V->V->V->Hp->(Hp->Prop)->Prop
def Qwb(X:Cx)(t:Qpw):Prop:=
 ∀(pins:List (Addr×Obj)) (s:Shared) (σ:St) (H:Hp) (o i v:V) (ov iv u:Value) (Q:Hp->Prop),Inv X pins σ H s->RelV o ov->RelV i iv->RelV v u->t o i v H Q→
  wpAny (model X.prog X.w) X.A (setItem ov iv u) (λ_ s'=>∃H',Inv X pins σ H' s'/\Q H') X.xe s
noncomputable abbrev TIp:=V->V->Hp->VK->Prop
def PIp(X:Cx)(op:Operator)(t:TIp):Prop:=
 ∀(pins:List (Addr×Obj)) (s:Shared) (σ:St) (H:Hp) (x y:V) (v u:Value) (Q:VK),Inv X pins σ H s->RelV x v->RelV y u->t x y H Q→
  wpAny (model X.prog X.w) X.A (inplaceOp op v u) (EP X pins σ Q) X.xe s
section
variable {X:Cx}{pos:Pos}
noncomputable def Qgl(i:Nat):TG:=λv σ H Q=>Q (σ.set i (some v)) H
theorem Qq6{i:Nat}{x:Str}(hN:X.N.Nodup)(hi:X.N[i]? =some x)(hx:Loc X.env.scope x)(hf:X.fn x=true∨X.env.scope.names.lookup x=some .local :=by first | exact .inl rfl | exact .inr rfl | assumption):PG X (.Name x pos) (Qgl i):=by
 intro pins s σ H v u Q I r h;exact wpAny_assign_Name (QhS I hN hi hx r (λs' I'=>⟨_,H,I',h⟩) hf)
noncomputable def Qz2:TGs:=λvs σ H Q=>vs=[]/\Q σ H
noncomputable def QwE(t:TG)(u:TGs):TGs:=λvs σ H Q=>∃v r,vs=v::r/\t v σ H λσ' H'=>u r σ' H' Q
theorem QxU:PGs X [] Qz2:=by
 intro pins s σ H vs us Q I r h;obtain⟨e,h⟩:=h;subst e;cases r;exact assignInOrder_nil ⟨σ,H,I,h⟩
theorem QvP{e:Expr}{es:List Expr}{t:TG}{u:TGs}(h1:PG X e t)(h2:PGs X es u)
  (hs:(assignEach (e::es) X.env).map (·.2)=assign e X.env::(assignEach es X.env).map (·.2):=by rfl):PGs X (e::es) (QwE t u):=by
 intro pins s σ H vs us Q I r h;obtain⟨v,vr,e1,h⟩:=h;subst e1;cases r with
 | cons r rr=>
  rw[hs];refine assignInOrder_cons (thn (h1 pins s σ H _ _ _ I r h) λ_ s1 Z=>?_);obtain⟨σ1,H1,I1,q1⟩:=Z;exact h2 pins s1 σ1 H1 _ _ Q I1 rr q1
noncomputable def QCK(K:Fgg)(n:Nat)(t:TGs):TG:=λv σ H Q=>∃a xs,v= .ref a/\SqT K H a xs/\xs.length=n/\t xs σ H Q
theorem QAK{es:List Expr}{k:Nat}{t:TGs}{n:Nat}(hc:X.calm=true)(h:PGs X es t)
  (hn:(assignEach es X.env).length=n:=by rfl) (hst:(assignEach es X.env).findIdx? (·.1)=none:=by rfl):PG X (.Tuple es k pos) (QCK X.K n t):=by
 intro pins s σ H v u Q I r hw;obtain⟨a,xs,e1,hq,hl,hw⟩:=hw;subst e1;cases r;obtain⟨its,rv,ht,hz⟩:=I.tuple hq;refine assign_Tuple_tuple (I.ok.hd hc) ht (by simp[hn,← hl,rv.length]) hst λh' hx=>?_;have I1:Inv X pins σ H {s with heap:=h'}:=I.kept (t':=s.toks) λb o e=>hx b o (ZN (Zs e)) e;exact h pins _ σ H xs _ Q I1 (by simpa using rv) hw
noncomputable def Qax(to ti:TE)(t:Qpw):TG:=λv σ H Q=>to σ H λo H1=>ti σ H1 λi H2=>t o i v H2 λH3=>Q σ H3
theorem QfX{o i:Expr}{to ti:TE}{t:Qpw}(ho:PE X o to)(hi:PE X i ti)(hs:Qwb X t)
  (ha:∀v,assign (.Subscript o i pos) X.env v=(do
   let ov ← holding [v] (eval o X.env)
   let iv ← holding [v,ov] (eval i X.env)
   standAt pos
   holding [v,ov,iv] (setItem ov iv v)
   release [v,ov,iv] []):=by intro _;rfl):PG X (.Subscript o i pos) (Qax to ti t):=by
 intro pins s σ H v u Q I r h;rw[ha];refine wpAny_bind (wpAny_holding (thn (ho pins s σ H _ I h) λov s1=>exJ λx H1 I1 r1 q1=>?_));refine wpAny_bind (wpAny_holding (thn (hi pins s1 σ H1 _ I1 q1) λiv s2=>exJ λy H2 I2 r2 q2=>?_));refine wpAny_bind (wpAny_standAt (wpAny_bind (wpAny_holding (thn (hs pins s2 σ H2 x y v ov iv u _ I2 r1 r2 r q2) λ_ s3 Z=>?_))));obtain⟨H3,I3,q3⟩:=Z;exact wpAny_release ⟨σ,H3,I3,q3⟩
noncomputable def Qej(te:TE)(g:TG):TS:=λD σ H=>te σ H λx H1=>g x σ H1 D.nx
theorem QfW{tg e:Expr}{te:TE}{g:TG}(he:PE X e te)(hg:PG X tg g)(hs:swapsWithSole [tg] e pos.line X.env=pure false:=by rfl)(hw:swappedStores [tg] e X.env=pure none:=by rfl)
  (h1:(assignEach [tg] X.env).map (·.2)=[assign tg X.env]:=by rfl):PS X (.Assign [tg] e pos) (Qej te g):=by
 intro pins s σ H D I h;refine wpAny_Assign_stores (thn (he pins s σ H _ I h) λv s1 ⟨x,H1,I1,r1,q1⟩=>?_) hs hw;rw[h1];exact thn (hg pins s1 σ H1 x v _ I1 r1 q1) λ_ s2 q=>q
theorem Qf3{i:Nat}{x:Str}{e:Expr}{te:TE}{pos':Pos}(hN:X.N.Nodup)(hi:X.N[i]? =some x)(hx:Loc X.env.scope x)(he:PE X e te)(hs:swapsWith e (some (.Name x pos')) pos.line X.env=pure false:=by rfl)(hf:X.fn x=true∨X.env.scope.names.lookup x=some .local :=by first | exact .inl rfl | exact .inr rfl | assumption):
  PS X (.Assign [.Name x pos'] e pos) (Qej te (Qgl i)):=by
 intro pins s σ H D I h;refine wpAny_Assign_Name (thn (he pins s σ H _ I h) λv s1 ⟨y,H1,I1,r1,q1⟩=>?_) hs;exact QhS I1 hN hi hx r1 (λs2 I2=>⟨_,H1,I2,q1⟩) hf
noncomputable def QBo(to ti te:TE)(tget:V->V->Hp->VK->Prop)(tip:TIp)(tset:Qpw):TS:=λD σ H=>to σ H λo H1=>ti σ H1 λi H2=>tget o i H2 λx H3=>te σ H3 λy H4=>tip x y H4 λz H5=>tset o i z H5 λH6=>D.nx σ H6
def QzD(X:Cx)(t:V->V->Hp->VK->Prop):Prop:=
 ∀(pins:List (Addr×Obj)) (s:Shared) (σ:St) (H:Hp) (o i:V) (ov iv:Value) (Q:VK),Inv X pins σ H s->RelV o ov->RelV i iv->t o i H Q→
  wpAny (model X.prog X.w) X.A (getItem ov iv) (EP X pins σ Q) X.xe s
theorem Qys{o i e:Expr}{to ti te:TE}{tget:V->V->Hp->VK->Prop}{tip:TIp}{tset:Qpw}{op:Operator}{tpos:Pos}(ho:PE X o to)(hi:PE X i ti)(hg:QzD X tget)(he:PE X e te)(hp:PIp X op tip)(hs:Qwb X tset)
  (ha:∀ov iv new,augStore i ov iv new=(do holding [new,ov,iv] (setItem ov iv new);release [new,ov,iv] [];pure .next):=by intros;rfl):PS X (.AugAssign (.Subscript o i tpos) op e pos) (QBo to ti te tget tip tset):=by
 intro pins s σ H D I h;refine wpAny_AugAssign_SubscriptAny (thn (ho pins s σ H _ I h) λov s1 ⟨x1,H1,I1,r1,q1⟩=>?_) ha;refine thn (hi pins s1 σ H1 _ I1 q1) λiv s2=>exJ λx2 H2 I2 r2 q2=>?_;refine thn (hg pins s2 σ H2 x1 x2 ov iv _ I2 r1 r2 q2) λold s3=>exJ λx3 H3 I3 r3 q3=>?_;refine thn (he pins s3 σ H3 _ I3 q3) λv s4=>exJ λx4 H4 I4 r4 q4=>?_;refine thn (hp pins s4 σ H4 x3 x4 old v _ I4 r3 r4 q4) λnew s5=>exJ λx5 H5 I5 r5 q5=>?_;exact thn (hs pins s5 σ H5 x1 x2 x5 ov iv new _ I5 r1 r2 r5 q5) λ_ s6 ⟨H6,I6,q6⟩=>⟨σ,H6,I6,q6⟩
end
section
variable {X:Cx}{pos:Pos}
noncomputable def QAw(c:TT)(tb:TS):TS:=λD σ H=>∃W:Nat->St->Hp->Prop,(∃m,W m σ H)/\∀m σ H,W m σ H→
 c σ H λb H1=>if b=true then ∃N:St->Hp->Prop,(∀σ' H',N σ' H'->∃m',m'<m/\W m' σ' H')/\tb {D with nx:=N,ct:=N,bk:=D.nx} σ H1 else D.nx σ H1
theorem Qvj{c:Expr}{body:List Stmt}{tc:TT}{tb:TS}(hp:PassesOwn (model X.prog X.w) X.A X.env X.xe)(hc:PT X c tc)(hb:PSs X body tb):PS X (.While c body [] pos) (QAw tc tb):=by
 intro pins s σ H D I h;obtain⟨W,⟨m0,w0⟩,turn⟩:=h;refine wpAny_While (codeAny_whileLoop (λn s'=>∃σ' H',Inv X pins σ' H' s'/\W n σ' H') ?_ m0 ⟨σ,H,I,w0⟩);rintro n s1 ⟨σ1,H1,I1,w1⟩;refine wpAny_passesOwn hp (thn (hc pins s1 σ1 H1 _ I1 (turn n σ1 H1 w1)) λb s2 Z=>?_);obtain⟨H2,I2,q2⟩:=Z;cases b with
 | true=>
  obtain⟨N,hN,q2⟩:=q2;rw[if_pos rfl];refine wpAny_passesOwn hp (thn (hb pins s2 σ1 H2 _ I2 q2) λf s3 q3=>?_);cases f with
  | next=>
   obtain⟨σ3,H3,I3,n3⟩:=q3;obtain⟨m',hm,w3⟩:=hN σ3 H3 n3;exact⟨m',hm,σ3,H3,I3,w3⟩
  | cont=>
   obtain⟨σ3,H3,I3,n3⟩:=q3;obtain⟨m',hm,w3⟩:=hN σ3 H3 n3;exact⟨m',hm,σ3,H3,I3,w3⟩
  | brk=>exact q3
  | ret v=>exact q3
 | false=>
  rw[if_neg Zak];exact wpAny_execs_nil ⟨σ1,H2,I2,q2⟩
end
structure It where
 go:Nat->Hp->Prop
 yld:Nat->Hp->V->Hp->Prop
 stop:Nat->Hp->Prop
def QdO(X:Cx)(pins:List (Addr×Obj))(H:Hp)(b:Addr):Prop:=
 H b=none/\b≠X.env.locals/\b∉X.fs/\(b∈X.ex∨X.s₀.heap.objs.size<=b)/\(∀x c,X.env.cells.lookup x=some c->c≠b)/\∀p∈X.pn++pins,p.1≠b
theorem Inv.Qkg{X:Cx}{pins:List (Addr×Obj)}{σ:St}{H H':Hp}{s:Shared}{b:Addr}(I:Inv X pins σ H s)(hb:s.heap.objs.size<=b)(hn:H' b=none):QdO X pins H' b:=by
 refine⟨hn,Zbu (Zp I.lt hb),I.QCP hb,.inr (Zt I.sz hb),λx c e z=>?_,λp hp z=>?_⟩
 ·obtain⟨v,q⟩:=I.cell x c e;exact absurd (Zp q.lt (by rw[z];exact hb)) (ZY _)
 ·exact absurd (Zp (Zs (I.pin p hp).1) (by rw[z];exact hb)) (ZY _)
structure Turn (P:Program) (w:World) (K:Fgg) (tg:Expr) (J:It) (fp:LAd) (it:Addr) (tn:Nat->Heap->Prop):Prop where
 mem:it∈fp
 obj:∀i h,tn i h->∀b∈fp,∃o,h.get? b=some o/\∀v,o.data≠ .cell v
 keep:∀i h h',tn i h->(∀b∈fp,∀o,h.get? b=some o->h'.get? b=some o)->tn i h'
 item:∀(X:Cx),X.prog=P->X.w=w->X.K=K->X.calm=true->∀(i:Nat) (pins:List (Addr×Obj)) (s:Shared) (σ:St) (H:Hp) (E:Value->Shared->Prop),Inv X pins σ H s->(∀b∈fp,QdO X pins H b)->tn i s.heap->J.go i H→
  wpAny (model P w) X.A (pyNext (.ref it)) (λr s1=>∃u,r=some u∧
   wpAny (model P w) X.A (letOwnedTupleGo tg (.ref it) u) (λ_ s2=>∃x H',Inv X pins σ H' s2/\RelV x u/\J.yld i H x H'/\tn (i+1) s2.heap/\∀b∈fp,H' b=none) E s1) E s
 done:∀(X:Cx),X.prog=P->X.w=w->X.K=K->X.calm=true->∀(i:Nat) (pins:List (Addr×Obj)) (s:Shared) (σ:St) (H:Hp) (E:Value->Shared->Prop),Inv X pins σ H s->(∀b∈fp,QdO X pins H b)->tn i s.heap->J.stop i H→
  wpAny (model P w) X.A (pyNext (.ref it)) (λr s1=>r=none/\Inv X pins σ H s1) E s
 self:∀(A:Around) (i:Nat) (s:Shared) (Q:Value->Shared->Prop) (E:Value->Shared->Prop),tn i s.heap->Q (.ref it) s->wpAny (model P w) A (pyIter (.ref it)) Q E s
noncomputable abbrev TI:=St->Hp->(It->Hp->Prop)->Prop
def PIE(X:Cx)(pins:List (Addr×Obj))(σ:St)(tg:Expr)(R:It->Hp->Prop)(itv:Value)(s2:Shared):Prop:=
 ∃(it:Addr) (fp:LAd) (tn:Nat->Heap->Prop) (J:It) (H':Hp),itv= .ref it/\Inv X pins σ H' s2/\Turn X.prog X.w X.K tg J fp it tn/\tn 0 s2.heap/\(∀b∈fp,QdO X pins H' b)/\R J H'
def PI(X:Cx)(tg iter:Expr)(wi:TI):Prop:=
 ∀(pins:List (Addr×Obj)) (s:Shared) (σ:St) (H:Hp) (R:It->Hp->Prop),Inv X pins σ H s->wi σ H R→
  wpAny (model X.prog X.w) X.A (eval iter X.env) (λv s1=>wpAny (model X.prog X.w) X.A (pyIter v) (PIE X pins σ tg R) X.xe s1) X.xe s
theorem Qom{M:Model}{A:Around}{E:Value->Shared->Prop}{s:Shared}{tg:Expr}{it:Addr}{u:Value}{o:Obj}{n:String}{vs:Array Value}{Q:Unit->Shared->Prop}(ho:s.heap.get? it=some o)(hc:o.cls= .type n)(hd:o.data= .fields vs)
    (hn:["enumerate","zip","dict_itemiterator","dict_reverseitemiterator","odict_iterator","itertools.zip_longest","itertools.pairwise"].contains n=false) (hQ:Q () s):wpAny M A (letOwnedTupleGo tg (.ref it) u) Q E s:=by
  unfold letOwnedTupleGo
  cases tg<;>first
    | exact wpAny_pure hQ
    | (cases u<;>first
        | exact wpAny_pure hQ
        | (refine wpAny_bind (wpAny_load ho ?_)
           rw[hc,hd];show wpAny M A (if(["enumerate","zip","dict_itemiterator","dict_reverseitemiterator","odict_iterator","itertools.zip_longest","itertools.pairwise"].contains n && vs[0]? == some (rawInt _))=true then _ else _) Q E s;rw[if_neg (by intro h;rw[hn,Bool.false_and]at h;cases h)];exact wpAny_pure hQ))
noncomputable def Itl(K:Fgg)(a:Addr):It:=
 ⟨λi H=>∃xs x,SqL K H a xs/\xs[i]? =some x,λi H x H'=>H'=H/\∀xs,SqL K H a xs->xs[i]? =some x,λi H=>∃xs,SqL K H a xs/\xs.length<=i⟩
noncomputable def Itt(K:Fgg)(a:Addr):It:=
 ⟨λi H=>∃xs x,SqT K H a xs/\xs[i]? =some x,λi H x H'=>H'=H/\∀xs,SqT K H a xs->xs[i]? =some x,λi H=>∃xs,SqT K H a xs/\xs.length<=i⟩
noncomputable def Itr(lo:Int)(n:Nat):It:=⟨λi _=>i<n,λi H x H'=>H'=H/\x= .int (lo+i),λi _=>n<=i⟩
theorem QtR{P:Program}{w:World}{K:Fgg}{tg:Expr}(a it:Addr):Turn P w K tg (Itl K a) [it] it (λi h=>h.IsListIter it a i) where
 mem:=by simp
 obj:=λi h st b hb=>by
  have e:b=it:=by simpa using hb
  subst e;obtain⟨o,e,c,d⟩:=st;exact⟨o,e,λv z=>by rw[d]at z;cases z⟩
 keep:=λi h h' st k=>st.at λo e=>k it (by simp) o e
 item:=by
  intro X hP hw hK hc i pins s σ H E I hf st hg;subst hP hw hK;obtain⟨xs,x,hq,hx⟩:=hg;obtain⟨its,rv,p,hz⟩:=I.list hq;obtain⟨u,hu,ru⟩:=rv.get hx;obtain⟨f0,f1,f2,f3,f4,f5⟩:=hf it (by simp);refine wpAny_pyNext_list_item st p.isList (x:=u) (by simpa using hu) λh' st' sb=>?_;have I1:Inv X pins σ H {s with heap:=h'}:=I.turned (t':=s.toks) (λb o hb e=>(sb.2 b hb).trans e) f0 f1 f3 f4 f5;obtain⟨o,e,c,d⟩:=id st';exact⟨u,rfl,Qom (s:={s with heap:=h'}) e c d (by decide) ⟨x,H,I1,ru,⟨rfl,λys hy=>by rw[I.Qdo hy hq];exact hx⟩,st',λb hb=>(hf b hb).1⟩⟩
 done:=by
  intro X hP hw hK hc i pins s σ H E I hf st hg;subst hP hw hK;obtain⟨xs,hq,hx⟩:=hg;obtain⟨its,rv,p,hz⟩:=I.list hq;obtain⟨f0,f1,f2,f3,f4,f5⟩:=hf it (by simp);have hl:=rv.length;exact wpAny_pyNext_list_end (I.ok.hd hc) st p.isList (by simp;omega) λh' eb=>⟨rfl,I.turned (t':=s.toks) (λb o hb e=>eb b o hb e) f0 f1 f3 f4 f5⟩
 self:=λ_ _ _ _ _ st h=>wpAny_pyIter_listiter st h
theorem Qrm{P:Program}{w:World}{K:Fgg}{tg:Expr}(a it:Addr):Turn P w K tg (Itt K a) [it] it (λi h=>h.IsTupleIter it a i) where
 mem:=by simp
 obj:=λi h st b hb=>by
  have e:b=it:=by simpa using hb
  subst e;obtain⟨o,e,c,d⟩:=st;exact⟨o,e,λv z=>by rw[d]at z;cases z⟩
 keep:=λi h h' st k=>st.at λo e=>k it (by simp) o e
 item:=by
  intro X hP hw hK hc i pins s σ H E I hf st hg;subst hP hw hK;obtain⟨xs,x,hq,hx⟩:=hg;obtain⟨its,rv,p,hz⟩:=I.tuple hq;obtain⟨u,hu,ru⟩:=rv.get hx;obtain⟨f0,f1,f2,f3,f4,f5⟩:=hf it (by simp);refine wpAny_pyNext_tuple_item st (show s.heap.IsTuple a its.toArray from p) (x:=u) (by simpa using hu) λh' st' sb=>?_;have I1:Inv X pins σ H {s with heap:=h'}:=I.turned (t':=s.toks) (λb o hb e=>(sb.2 b hb).trans e) f0 f1 f3 f4 f5;obtain⟨o,e,c,d⟩:=id st';exact⟨u,rfl,Qom (s:={s with heap:=h'}) e c d (by decide) ⟨x,H,I1,ru,⟨rfl,λys hy=>by rw[I.QsB hy hq];exact hx⟩,st',λb hb=>(hf b hb).1⟩⟩
 done:=by
  intro X hP hw hK hc i pins s σ H E I hf st hg;subst hP hw hK;obtain⟨xs,hq,hx⟩:=hg;obtain⟨its,rv,p,hz⟩:=I.tuple hq;obtain⟨f0,f1,f2,f3,f4,f5⟩:=hf it (by simp);have hl:=rv.length;exact wpAny_pyNext_tuple_end (I.ok.hd hc) st (show s.heap.IsTuple a its.toArray from p) (by simp;omega) λh' eb=>⟨rfl,I.turned (t':=s.toks) (λb o hb e=>eb b o hb e) f0 f1 f3 f4 f5⟩
 self:=λ_ _ _ _ _ st h=>wpAny_pyIter_tupleiter st h
theorem Qr6{P:Program}{w:World}{K:Fgg}{tg:Expr}(it:Addr)(lo:Int)(n:Nat):Turn P w K tg (Itr lo n) [it] it (λi h=>IsRangeIter h it (lo+(i:Nat)*1) ((n:Int)-(i:Nat)) 1) where
 mem:=by simp
 obj:=λi h st b hb=>by
  have e:b=it:=by simpa using hb
  subst e;exact⟨_,st,λv z=>by
   have z':Data.fields _=Data.cell v:=z;cases z'⟩
 keep:=λi h h' st k=>k it (by simp) _ st
 item:=by
  intro X hP hw hK hc i pins s σ H E I hf st hg;subst hP hw hK;obtain⟨f0,f1,f2,f3,f4,f5⟩:=hf it (by simp);have W:=Walks.range (prog:=X.prog) (w:=X.w) (I.ok.hd hc) it lo 1 n;refine W.item i s _ _ hg st λv h' tk hv st' kk=>?_;obtain⟨t,rfl⟩:=hv;have I1:Inv X pins σ H {s with heap:=h',toks:=tk}:=I.turned (λb o hb e=>kk b o (by simpa using hb) e) f0 f1 f3 f4 f5;refine⟨_,rfl,Qom (s:={s with heap:=h',toks:=tk}) (n:= "range_iterator") st' rfl rfl (by decide) ⟨.int (lo+i),H,I1,⟨t,?_⟩,⟨rfl,rfl⟩,st',λb hb=>(hf b hb).1⟩⟩;rw[Zab]
 done:=by
  intro X hP hw hK hc i pins s σ H E I hf st hg;subst hP hw hK;obtain⟨f0,f1,f2,f3,f4,f5⟩:=hf it (by simp);exact wpAny_pyNext_range_end (I.ok.hd hc) st (by have:n<=i:=hg;omega) λh' eb=>⟨rfl,I.turned (t':=s.toks) (λb o hb e=>eb b o hb e) f0 f1 f3 f4 f5⟩
 self:=λ_ _ _ _ _ st h=>wpAny_pyIter_rangeiter st h
section
variable {X:Cx}{tg:Expr}
theorem QoY{pins:List (Addr×Obj)}{σ:St}{H:Hp}{s:Shared}{R:It->Hp->Prop}{E:Value->Shared->Prop}{lo hi:Int}{t u v:Tok}{tk:Nat}(I:Inv X pins σ H s)(h1: -(2^62)<=lo)(h2:lo<2^62)(h3: -(2^62)<=hi)(h4:hi<2^62)
  (q:R (Itr lo (hi-lo).toNat) H):wpAny (model X.prog X.w) X.A (pyIter (.ref s.heap.objs.size)) (PIE X pins σ tg R) E {s with heap:=s.heap.push {cls:= .type "range",data:= .fields #[.int lo t,.int hi u,.int 1 v]},toks:=tk}:=by
 refine wpAny_pyIter_range (IsRange.new ..) (small_one h1 h2 h3 h4) ?_;have I1:Inv X pins σ H {s with heap:=s.heap.push {cls:= .type "range",data:= .fields #[.int lo t,.int hi u,.int 1 v]},toks:=tk}:=I.kept λb o e=>Zb _ e
 refine⟨(s.heap.push {cls:= .type "range",data:= .fields #[.int lo t,.int hi u,.int 1 v]}).objs.size,[(s.heap.push {cls:= .type "range",data:= .fields #[.int lo t,.int hi u,.int 1 v]}).objs.size],_,_,H,rfl,
  I1.kept (t':=tk) λb o e=>Zb _ e,Qr6 _ lo (hi-lo).toNat,?_,λb hb=>?_,q⟩
 ·have e1:lo+((0:Nat):Int)*1=lo:=by simp
  have e2:(((hi-lo).toNat:Nat):Int)-((0:Nat):Int)=Builtin.Range.rangeSize lo hi 1:=by rw[rangeSize_one];split<;>omega
  show IsRangeIter _ _ (lo+((0:Nat):Int)*1) ((((hi-lo).toNat:Nat):Int)-((0:Nat):Int)) 1;rw[e1,e2];exact ZC _ rfl
 ·have e:b=(s.heap.push {cls:= .type "range",data:= .fields #[.int lo t,.int hi u,.int 1 v]}).objs.size:=by simpa using hb
  subst e;exact I1.Qkg (Zi _) (I1.hok.fresh (Zi _))
noncomputable def QBE(ta:TA):TI:=λσ H R=>ta σ H λvs H1=>∃j:Int,vs=[.int j]/\ -(2^62)<=j/\j<2^62/\R (Itr 0 j.toNat) H1
noncomputable def QBW(ta:TA):TI:=λσ H R=>ta σ H λvs H1=>∃i j:Int,vs=[.int i,.int j]/\(-(2^62)<=i/\i<2^62/\ -(2^62)<=j/\j<2^62)/\R (Itr i (j-i).toNat) H1
theorem Qsr{a:Expr}{ta:TA}{p pos:Pos}(hg:Gl X "range")(hm:X.mg "range" =none)(ha:PA X [a] ta)(hs:starEach [a] X.env=[(false,eval a X.env)]:=by rfl):PI X tg (.Call (.Name "range" p) [a] [] pos) (QBE ta):=by
 intro pins s σ H R I h;refine Call_ (Qdi I hg hm boot_range (Zac (thn (ha pos pins s σ H _ I h) λus s1 ⟨vs,H1,I1,r1,q1⟩=>?_) hs rfl));obtain⟨j,e,q1,q2,q⟩:=q1;subst e;cases r1 with
 | cons r rr=>
  cases rr;obtain⟨t,rfl⟩:=r;exact call_range_1 (QoY I1 ⋯ ⋯ q1 q2 (by simpa using q))
theorem Qsw{a b:Expr}{ta:TA}{p pos:Pos}(hg:Gl X "range")(hm:X.mg "range" =none)(ha:PA X [a,b] ta)(hs:starEach [a,b] X.env=[(false,eval a X.env),(false,eval b X.env)]:=by rfl)(hs2:starEach [b] X.env=[(false,eval b X.env)]:=by rfl):
  PI X tg (.Call (.Name "range" p) [a,b] [] pos) (QBW ta):=by
 intro pins s σ H R I h;refine Call_ (Qdi I hg hm boot_range (Zac (thn (ha pos pins s σ H _ I h) λus s1 ⟨vs,H1,I1,r1,q1⟩=>?_) (by rw[hs,hs2]) (by rw[hs2];rfl)));obtain⟨i,j,e,⟨q1,q2,q3,q4⟩,q⟩:=q1;subst e;cases r1 with
 | cons r rr=>
  cases rr with
  | cons r' rr=>
   cases rr;obtain⟨t,rfl⟩:=r;obtain⟨t',rfl⟩:=r';exact call_range_2 (QoY I1 q1 q2 q3 q4 q)
noncomputable def QCI(wi:TI)(g:TG)(tb:TS):TS:=λD σ H=>wi σ H λJ H1=>∃W:Nat->Nat->St->Hp->Prop,(∃m,W 0 m σ H1)/\∀i m σ H,W i m σ H→
 (J.stop i H/\D.nx σ H)∨(J.go i H/\∃N:St->Hp->Prop,(∀σ' H',N σ' H'->∃m',m'<m/\W (i+1) m' σ' H')/\∀x H',J.yld i H x H'->g x σ H' λσ2 H2=>tb {D with nx:=N,ct:=N,bk:=D.nx} σ2 H2)
noncomputable def QiB(fp:LAd)(h:Heap):List (Addr×Obj):=fp.filterMap λb=>(h.get? b).map λo=>(b,o)
theorem Qh3{fp:LAd}{h:Heap}{b:Addr}{o:Obj}(hb:b∈fp)(e:h.get? b=some o):(b,o)∈QiB fp h:=ZaZ.mpr ⟨b,hb,by rw[e];rfl⟩
theorem Qsz{fp:LAd}{h:Heap}{p:Addr×Obj}(hp:p∈QiB fp h):p.1∈fp/\h.get? p.1=some p.2:=by
 obtain⟨b,hb,e⟩:=ZaZ.mp hp;cases q:h.get? b with
 | none=>rw[q]at e;cases e
 | some o=>
  rw[q]at e;have e':(b,o)=p:=Option.some.inj e;subst e';exact⟨hb,q⟩
theorem Inv.pinned{pins:List (Addr×Obj)}{σ:St}{H:Hp}{s:Shared}{fp:LAd}(I:Inv X pins σ H s)(hf:∀b∈fp,QdO X pins H b)(ho:∀b∈fp,∃o,s.heap.get? b=some o/\∀v,o.data≠ .cell v):Inv X (pins++QiB fp s.heap) σ H s:=
 I.Qre λp hp=>(ZG.mp hp).elim (λz=>I.pin p (Ze _ z)) λz=>by
  obtain⟨hb,e⟩:=Qsz z;obtain⟨f0,f1,f2,_⟩:=hf p.1 hb;obtain⟨o,e',d⟩:=ho p.1 hb;rw[e]at e';cases e';exact⟨e,f0,f1,f2,d⟩
theorem Inv.Qh4{pins pl:List (Addr×Obj)}{σ:St}{H:Hp}{s:Shared}(I:Inv X (pins++pl) σ H s):Inv X pins σ H s:=I.Qre λp hp=>I.pin p (Ze _ (Zg _ hp))
theorem QsM{iter:Expr}{body:List Stmt}{wi:TI}{g:TG}{tb:TS}{pos:Pos}(hp:PassesOwn (model X.prog X.w) X.A X.env X.xe)(hc:X.calm=true)(hi:PI X tg iter wi)(hg:PG X tg g)(hb:PSs X body tb)
  (hs:∀x,foldedSetIterable iter X.env x=pure x:=by intro _;rfl):PS X (.For tg iter body [] pos) (QCI wi g tb):=by
 intro pins s σ H D I h;refine wpAny_For (thn (hi pins s σ H _ I h) λv s1 h1=>thn h1 λitv s2 h2=>?_) hs;obtain⟨it,fp,tn,J,H2,e,I2,T,st2,f2,W,⟨m0,w0⟩,turn⟩:=h2;subst e;have stat:∀{H':Hp},(∀b∈fp,H' b=none)->∀b∈fp,QdO X pins H' b:=λhn b hb=>⟨hn b hb,(f2 b hb).2⟩;refine codeAny_forLoop_any (λn s'=>∃i σ' H',Inv X pins σ' H' s'/\tn i s'.heap/\(∀b∈fp,H' b=none)/\W i n σ' H') ?_ m0 ⟨0,σ,H2,I2,st2,λb hb=>(f2 b hb).1,w0⟩;rintro n s3 ⟨i,σ3,H3,I3,st3,fr3,w3⟩;rcases turn i n σ3 H3 w3 with⟨stop,qn⟩ | ⟨go,N,hN,step⟩
 ·refine wpAny_passesOwn hp (thn (T.done X rfl rfl rfl hc i pins s3 σ3 H3 X.xe I3 (stat fr3) st3 stop) λr s4 Z=>?_);obtain⟨hr,I4⟩:=Z;subst hr;exact wpAny_execs_nil ⟨σ3,H3,I4,qn⟩
 ·refine wpAny_passesOwn hp (thn (T.item X rfl rfl rfl hc i pins s3 σ3 H3 X.xe I3 (stat fr3) st3 go) λr s4 Z=>?_);obtain⟨u,hr,h4⟩:=Z;subst hr;refine wpAny_passesOwn hp (thn h4 λ_ s5 Z=>?_);obtain⟨x,H5,I5,r5,y5,st5,fr5⟩:=Z;have I5':=I5.pinned (stat fr5) (T.obj _ _ st5);refine wpAny_passesOwn hp (thn (hg _ s5 σ3 H5 x u _ I5' r5 (step x H5 y5)) λ_ s6 Z=>?_);obtain⟨σ6,H6,I6,q6⟩:=Z;refine wpAny_passesOwn hp (thn (hb _ s6 σ6 H6 _ I6 q6) λf s7 q7=>?_);have again:∀{σ7:St}{H7:Hp},Inv X (pins++QiB fp s5.heap) σ7 H7 s7->N σ7 H7->∃m,m<n/\∃i σ' H',Inv X pins σ' H' s7/\tn i s7.heap/\(∀b∈fp,H' b=none)/\W i m σ' H':=λ{σ7 H7} I7 n7=>by
   obtain⟨m',hm,w7⟩:=hN σ7 H7 n7;refine⟨m',hm,i+1,σ7,H7,I7.Qh4,T.keep _ _ _ st5 λb hb o e=>(I7.pin (b,o) (Ze _ (Ze _ (Qh3 hb e)))).1,λb hb=>?_,w7⟩;obtain⟨o,e,d⟩:=T.obj _ _ st5 b hb;exact(I7.pin (b,o) (Ze _ (Ze _ (Qh3 hb e)))).2.1
  cases f with
  | next=>obtain⟨σ7,H7,I7,n7⟩:=q7;exact again I7 n7
  | cont=>obtain⟨σ7,H7,I7,n7⟩:=q7;exact again I7 n7
  | brk=>obtain⟨σ7,H7,I7,q7⟩:=q7;exact⟨σ7,H7,I7.Qh4,q7⟩
  | ret v=>obtain⟨x7,σ7,H7,I7,r7,q7⟩:=q7;exact⟨x7,σ7,H7,I7.Qh4,r7,q7⟩
end
noncomputable abbrev R2:=V->V->Hp->VK->Prop
def OpR(X:Cx)(f:Value->Value->Sem Value)(r:R2):Prop:=
 ∀(pins:List (Addr×Obj)) (s:Shared) (σ:St) (H:Hp) (x y:V) (v u:Value) (Q:VK),Inv X pins σ H s->RelV x v->RelV y u->r x y H Q→
  wpAny (model X.prog X.w) X.A (f v u) (EP X pins σ Q) X.xe s
def UnR(X:Cx)(f:Value->Sem Value)(r:V->Hp->VK->Prop):Prop:=
 ∀(pins:List (Addr×Obj)) (s:Shared) (σ:St) (H:Hp) (x:V) (v:Value) (Q:VK),Inv X pins σ H s->RelV x v->r x H Q→
  wpAny (model X.prog X.w) X.A (f v) (EP X pins σ Q) X.xe s
def QcI(X:Cx)(f:Value)(r:List V->Hp->VK->Prop):Prop:=
 ∀(pins:List (Addr×Obj)) (s:Shared) (σ:St) (H:Hp) (xs:List V) (us:List Value) (Q:VK),Inv X pins σ H s->QK xs us->r xs H Q→
  wpAny (model X.prog X.w) X.A (call f us) (EP X pins σ Q) X.xe s
def QCJ(X:Cx)(r:V->Hp->(Bool->Hp->Prop)->Prop):Prop:=
 ∀(pins:List (Addr×Obj)) (s:Shared) (σ:St) (H:Hp) (x:V) (v:Value) (Q:Bool->Hp->Prop),Inv X pins σ H s->RelV x v->r x H Q→
  wpAny (model X.prog X.w) X.A (truthy v) (TP X pins σ Q) X.xe s
noncomputable def tOp(r:R2)(ta tb:TE):TE:=λσ H Q=>ta σ H λx H1=>tb σ H1 λy H2=>r x y H2 Q
noncomputable def tUn(r:V->Hp->VK->Prop)(ta:TE):TE:=λσ H Q=>ta σ H λx H1=>r x H1 Q
noncomputable def rI(C:Int->Int->Prop)(g:Int->Int->V):R2:=λx y H Q=>∃i j,x= .int i/\y= .int j/\C i j/\Q (g i j) H
noncomputable def rI0(g:Int->Int->V):R2:=λx y H Q=>∃i j,x= .int i/\y= .int j/\Q (g i j) H
noncomputable def rU(g:Int->V):V->Hp->VK->Prop:=λx H Q=>∃i,x= .int i/\Q (g i) H
section
variable {X:Cx}{a b c:Expr}{ta tb tc:TE}{pos:Pos}
theorem Qwj(ha:PE X a ta)(hb:PE X b tb){pins:List (Addr×Obj)}{s:Shared}{σ:St}{H:Hp}{R:V->V->Hp->Prop}(I:Inv X pins σ H s)
  (h:ta σ H λx H1=>tb σ H1 λy H2=>R x y H2) {Q:Value->Shared->Prop}{f:Value->Value->Sem Value}
  (hf:∀v u s2 x y H2,Inv X pins σ H2 s2->RelV x v->RelV y u->R x y H2->wpAny (model X.prog X.w) X.A (f v u) Q X.xe s2):
  wpAny (model X.prog X.w) X.A (eval a X.env) (λv s₁=>wpAny (model X.prog X.w) X.A (eval b X.env) (λu s₂=>wpAny (model X.prog X.w) X.A (f v u) Q X.xe s₂) X.xe s₁) X.xe s:=by
 refine thn (ha pins s σ H _ I h) λv s1=>exJ λx H1 I1 r1 q1=>?_;refine thn (hb pins s1 σ H1 _ I1 q1) λu s2=>exJ λy H2 I2 r2 q2=>?_;exact hf v u s2 x y H2 I2 r1 r2 q2
theorem Qrt{op:Operator}{r:R2}(ho:OpR X (binaryOp op) r)(ha:PE X a ta)(hb:PE X b tb):PE X (.BinOp a op b pos) (tOp r ta tb):=by
 intro pins s σ H Q I h;exact wpAny_BinOp (Qwj ha hb I h λv u s2 x y H2 I2 rx ry q=>ho pins s2 σ H2 x y v u Q I2 rx ry q)
theorem QBj{op:UnaryOp}{r:V->Hp->VK->Prop}(ho:UnR X (unaryOp op) r)(ha:PE X a ta):PE X (.UnaryOp op a pos) (tUn r ta):=by
 intro pins s σ H Q I h;exact UnaryOp_ (thn (ha pins s σ H _ I h) λv s1 ⟨x,H1,I1,r1,q1⟩=>ho pins s1 σ H1 x v Q I1 r1 q1)
theorem QCB{op:Operator}{r:R2}(ho:OpR X (inplaceOp op) r){pins:List (Addr×Obj)}{s:Shared}{σ:St}{H:Hp}{x y:V}{v u:Value}{Q:VK}(I:Inv X pins σ H s)
  (rx:RelV x v) (ry:RelV y u) (q:r x y H Q):wpAny (model X.prog X.w) X.A (inplaceOp op v u) (EP X pins σ Q) X.xe s:=ho pins s σ H x y v u Q I rx ry q
theorem opI{f:Value->Value->Sem Value}{C:Int->Int->Prop}{g:Int->Int->Int}
  (rule:∀(i j:Int) (t u:Tok) (s:Shared) (Q:Value->Shared->Prop) (E:Value->Shared->Prop),C i j->Q (.int (g i j) s.toks) {s with toks:=s.toks+1}->wpAny (model X.prog X.w) X.A (f (.int i t) (.int j u)) Q E s):
  OpR X f (rI C λi j=> .int (g i j)):=by
 intro pins s σ H x y v u Q I rx ry h;obtain⟨i,j,rfl,rfl,hc,q⟩:=h;obtain⟨t,rfl⟩:=rx;obtain⟨t',rfl⟩:=ry;exact rule i j t t' s _ _ hc ⟨.int (g i j),H,I.tok _,⟨_,rfl⟩,q⟩
theorem Qrw{f:Value->Value->Sem Value}{g:Int->Int->Int}
  (rule:∀(i j:Int) (t u:Tok) (s:Shared) (Q:Value->Shared->Prop) (E:Value->Shared->Prop),Q (.int (g i j) s.toks) {s with toks:=s.toks+1}->wpAny (model X.prog X.w) X.A (f (.int i t) (.int j u)) Q E s):
  OpR X f (rI0 λi j=> .int (g i j)):=by
 intro pins s σ H x y v u Q I rx ry h;obtain⟨i,j,rfl,rfl,q⟩:=h;obtain⟨t,rfl⟩:=rx;obtain⟨t',rfl⟩:=ry;exact rule i j t t' s _ _ ⟨.int (g i j),H,I.tok _,⟨_,rfl⟩,q⟩
theorem Qsm{f:Value->Value->Sem Value}{g:Int->Int->Bool}
  (rule:∀(i j:Int) (t u:Tok) (s:Shared) (Q:Value->Shared->Prop) (E:Value->Shared->Prop),Q (.bool (g i j)) s->wpAny (model X.prog X.w) X.A (f (.int i t) (.int j u)) Q E s):
  OpR X f (rI0 λi j=> .bl (g i j)):=by
 intro pins s σ H x y v u Q I rx ry h;obtain⟨i,j,rfl,rfl,q⟩:=h;obtain⟨t,rfl⟩:=rx;obtain⟨t',rfl⟩:=ry;exact rule i j t t' s _ _ ⟨.bl (g i j),H,I,rfl,q⟩
theorem Qr3(k:Nat):(0:Int)<=2^k:=by
 rw[two_pow_cast];exact Int.natCast_nonneg _
theorem QAD:OpR X (binaryOp .Add) (rI0 λi j=> .int (i+j)):=Qrw λ_ _ _ _ _ _ _ q=>add_int q
theorem QAr:OpR X (binaryOp .Sub) (rI0 λi j=> .int (i-j)):=Qrw λ_ _ _ _ _ _ _ q=>sub_int q
theorem QAm:OpR X (binaryOp .RShift) (rI (λ_ j=>0<=j) λi j=> .int (i / 2^j.toNat)):=opI λi j _ _ _ _ _ hc q=>
 rshift_int hc (by rw[ZbR i (Qr3 _)];exact q)
theorem Qxb:OpR X (inplaceOp .Add) (rI0 λi j=> .int (i+j)):=Qrw λ_ _ _ _ _ _ _ q=>iadd_int q
theorem Qxj:OpR X (inplaceOp .Sub) (rI0 λi j=> .int (i-j)):=Qrw λ_ _ _ _ _ _ _ q=>isub_int q
theorem unI{f:Value->Sem Value}{g:Int->Int}
  (rule:∀(i:Int) (t:Tok) (s:Shared) (Q:Value->Shared->Prop) (E:Value->Shared->Prop),Q (.int (g i) s.toks) {s with toks:=s.toks+1}->wpAny (model X.prog X.w) X.A (f (.int i t)) Q E s):
  UnR X f (rU λi=> .int (g i)):=by
 intro pins s σ H x v Q I rx h;obtain⟨i,rfl,q⟩:=h;obtain⟨t,rfl⟩:=rx;exact rule i t s _ _ ⟨.int (g i),H,I.tok _,⟨_,rfl⟩,q⟩
theorem Qzr:UnR X (unaryOp .USub) (rU λi=> .int (-i)):=unI λ_ _ _ _ _ q=>neg_int q
end
section
variable {X:Cx}{a b c:Expr}{ta tb tc:TE}{pos:Pos}
theorem QBu:OpR X (compareOp .Lt) (rI0 λi j=> .bl (decide (i<j))):=Qsm λ_ _ _ _ _ _ _ q=>lt_int q
theorem QBS:OpR X (compareOp .LtE) (rI0 λi j=> .bl (decide (i<=j))):=Qsm λ_ _ _ _ _ _ _ q=>le_int q
theorem QA6:OpR X (compareOp .Gt) (rI0 λi j=> .bl (decide (j<i))):=Qsm λ_ _ _ _ _ _ _ q=>gt_int q
theorem QA8:OpR X (compareOp .GtE) (rI0 λi j=> .bl (decide (j<=i))):=Qsm λ_ _ _ _ _ _ _ q=>ge_int q
theorem OpR.or{f:Value->Value->Sem Value}{r r':R2}(h:OpR X f r)(h':OpR X f r'):OpR X f (λx y H Q=>r x y H Q∨r' x y H Q):=by
 intro pins s σ H x y v u Q I rx ry q;rcases q with q | q
 ·exact h pins s σ H x y v u Q I rx ry q
 ·exact h' pins s σ H x y v u Q I rx ry q
theorem QyD{op:CmpOp}{r:R2}(ho:OpR X (compareOp op) r)(ha:PE X a ta)(hb:PE X b tb)(hm:behindInMarks op b=false):PE X (.Compare a [op] [b] pos) (tOp r ta tb):=by
 intro pins s σ H Q I h;exact wpAny_Compare1 (Qwj ha hb I h λv u s2 x y H2 I2 rx ry q=>ho pins s2 σ H2 x y v u Q I2 rx ry q) hm
noncomputable def QBQ(t:TE):TT:=λσ H Q=>t σ H λx H'=>∃k,x= .bl k/\Q k H'
theorem Qxg{op:CmpOp}{r:R2}(ho:OpR X (compareOp op) r)(ha:PE X a ta)(hb:PE X b tb)(hm:behindInMarks op b=false):PT X (.Compare a [op] [b] pos) (QBQ (tOp r ta tb)):=by
 intro pins s σ H Q I h;refine wpAny_isTrue_Compare1 (thn (ha pins s σ H _ I h) λv s1 ⟨x,H1,I1,r1,q1⟩=>thn (hb pins s1 σ H1 _ I1 q1) λu s2 ⟨y,H2,I2,r2,q2⟩=>
  thn (ho pins s2 σ H2 x y v u _ I2 r1 r2 q2) λc s3 ⟨z,H3,I3,r3,k,e,q3⟩=>?_) hm
 subst e;cases r3;exact wpAny_truthy_bool ⟨H3,I3,q3⟩
def Qvm(K:Fgg)(x:V)(H:Hp)(k:Bool):Prop:=
 match x with
 | .non=>k=false
 | .bl b=>k=b
 | .int i=>k=(i != 0)
 | .str y=>y.length<=sizeLine/\k=((y.length:Int) != 0)
 | .byt y=>y.size<=sizeLine/\k=((y.size:Int) != 0)
 | .ref p=>(∃xs,SqL K H p xs/\k= !xs.isEmpty)∨(∃xs,SqT K H p xs/\k= !xs.isEmpty)∨∃kvs,H p=some (.dK kvs)/\k= !kvs.isEmpty
 | _=>False
theorem QrK{κ:Type}{kvs:List (κ×V)}{vs:List (κ×Value)}(r:KV kvs vs):(!vs.isEmpty)= !kvs.isEmpty:=by
 cases r<;>rfl
theorem QlT{xs:List V}{its:List Value}(r:QK xs its):(!its.toArray.isEmpty)= !xs.isEmpty:=by
 cases r<;>simp
theorem Qg8:(sizeLine:Nat)<2^63:=by rw[sizeLine_eq];decide
theorem Qk8:QCJ X (λx H Q=>∃k,Qvm X.K x H k/\Q k H):=by
 intro pins s σ H x v Q I rx h;obtain⟨k,e,q⟩:=h;have hl:=Qg8;have hs:sizeLine=16777216:=sizeLine_eq;cases x with
 | non=>
  cases rx;have e':k=false:=e;subst e';exact truthy_none ⟨H,I,q⟩
 | bl b=>
  cases rx;have e':k=b:=e;subst e';exact wpAny_truthy_bool ⟨H,I,q⟩
 | int i=>
  obtain⟨t,rfl⟩:=rx;have e':k=(i != 0):=e;subst e';exact PySem.P.truthy_int ⟨H,I,q⟩
 | str y=>
  obtain⟨t,rfl⟩:=rx;obtain⟨hy,e'⟩:y.length<=sizeLine/\k=((y.length:Int) != 0):=e;subst e';exact PySem.P.truthy_str ⋯ ⟨H,I.tok _,q⟩
 | byt y=>
  obtain⟨t,rfl⟩:=rx;obtain⟨hy,e'⟩:y.size<=sizeLine/\k=((y.size:Int) != 0):=e;subst e';exact PySem.W.truthy_bytes ⋯ ⟨H,I.tok _,q⟩
 | ref p=>
  cases rx;have e':(∃xs,SqL X.K H p xs/\k= !xs.isEmpty)∨(∃xs,SqT X.K H p xs/\k= !xs.isEmpty)∨∃kvs,H p=some (.dK kvs)/\k= !kvs.isEmpty:=e;rcases e' with⟨xs,hx,e'⟩ | ⟨xs,hx,e'⟩ | ⟨kvs,hx,e'⟩
  ·subst e';obtain⟨its,r,pl,hz⟩:=I.list hx;have hlen:=r.length;exact wpAny_truthy_list pl.isList (by simp only[Zx];omega) ⟨H,I.tok _,by rw[QlT r];exact q⟩
  ·subst e';obtain⟨its,r,pl,hz⟩:=I.tuple hx;have hlen:=r.length;exact truthy_tuple pl (by simp only[Zx];omega) ⟨H,I.tok _,by rw[QlT r];exact q⟩
  ·subst e';obtain⟨hz,hS,vs,r,m⟩:kvs.length<=sizeLine/\(p == sysModules)=false/\∃vs,KV kvs vs/\s.heap.DictOf (Qne X.prog X.w) p vs:=I.hok p _ hx;have hlen:kvs.length=vs.length:=Paired.length r;exact wpAny_truthy_dict hS m ⋯ ⟨H,I.tok _,by rw[QrK r];exact q⟩
 | _=>exact(show False from e).elim
theorem QvI(ha:PE X a ta)(he:∀whole,isTrue a X.env whole=(do let v ← whole;standAt a.pos;holding [v] (truthy v))):
  PT X a (λσ H Q=>ta σ H λx H'=>∃k,Qvm X.K x H' k/\Q k H'):=by
 intro pins s σ H Q I h;exact isTrue_plain (thn (ha pins s σ H _ I h) λv s1 ⟨x,H1,I1,r1,q1⟩=>Qk8 pins s1 σ H1 x v Q I1 r1 q1) (he _)
theorem vals1{x:V}{us:List Value}(r:QK [x] us):∃u,us=[u]/\RelV x u:=by
 cases r with
 | cons r1 r2=>cases r2;exact⟨_,rfl,r1⟩
theorem vals2{x y:V}{us:List Value}(r:QK [x,y] us):∃u w',us=[u,w']/\RelV x u/\RelV y w':=by
 cases r with
 | cons r1 r2=>
  cases r2 with
  | cons r3 r4=>cases r4;exact⟨_,_,rfl,r1,r3⟩
theorem QuV:QcI X (.builtin "abs") (λxs H Q=>∃i,xs=[.int i]/\Q (.int (if i<0 then-i else i)) H):=by
 intro pins s σ H xs us Q I r h;obtain⟨i,rfl,q⟩:=h;obtain⟨u,rfl,t,rfl⟩:=vals1 r;exact call_abs_int λu tk=>⟨.int (if i<0 then-i else i),H,I.tok _,⟨_,rfl⟩,q⟩
theorem QsE(hc:X.calm=true):QcI X (.builtin "max") (λxs H Q=>∃i j,xs=[.int i,.int j]/\Q (.int (if j>i then j else i)) H):=by
 intro pins s σ H xs us Q I r h;obtain⟨i,j,rfl,q⟩:=h;obtain⟨u,w',rfl,⟨t,rfl⟩,⟨t',rfl⟩⟩:=vals2 r;refine max_two_ints (I.ok.hd hc) λh' tk k=>⟨_,H,I.kept k,?_,q⟩;by_cases hj:j>i
 ·rw[if_pos hj,if_pos hj];exact⟨_,rfl⟩
 ·rw[if_neg hj,if_neg hj];exact⟨_,rfl⟩
theorem Qt8(hc:X.calm=true):QcI X (.builtin "min") (λxs H Q=>∃i j,xs=[.int i,.int j]/\Q (.int (if j<i then j else i)) H):=by
 intro pins s σ H xs us Q I r h;obtain⟨i,j,rfl,q⟩:=h;obtain⟨u,w',rfl,⟨t,rfl⟩,⟨t',rfl⟩⟩:=vals2 r;refine min_two_ints (I.ok.hd hc) λh' tk k=>⟨_,H,I.kept k,?_,q⟩;by_cases hj:j<i
 ·rw[if_pos hj,if_pos hj];exact⟨_,rfl⟩
 ·rw[if_neg hj,if_neg hj];exact⟨_,rfl⟩
end
structure QCX (h:Heap) (x dx C:Addr) (mA:Str->Option Value):Prop where
 obj:h.get? x=some (PySem.W.instObj C dx)
 ns:h.Ns1 dx mA
 ne:dx≠x
section
variable {prog:Program}{w:World}{A:Around}{E:Value->Shared->Prop}{s:Shared}{K:Fgg}{x dx C f:Addr}{mA:Str->Option Value}{name:Str}{v:Value}
end
section
variable {P:Program}{w:World}{H H':Hp}{h h':Heap}{a C dx:Addr}{fs fs':List (Str×V)}
end
structure Cls (K:Fgg) (C:Addr):Prop where
 pg:PySem.W.plainGet K C Str.empty=true
 hd:PySem.W.hasDictIn K C=true
 po:PySem.W.plainOver K C=true
 sa:PySem.W.findIn K (.ref C) "__setattr__" =some (some (.builtin "object.__setattr__"))
structure Con (K:Fgg) (C:Addr) (f:Str) (v:V) (u:Value):Prop where
 at_:PySem.W.findIn K (.ref C) f=some (some u)
 rel:RelV v u
 get:PySem.W.specialIn K u "__get__" =some none
 cp:PySem.W.copiedNames.contains f=false
structure QCW (K:Fgg) (C:Addr) (m:Str) (f:Addr):Prop where
 at_:PySem.W.findIn K (.ref C) m=some (some (.ref f))
 fn:PySem.W.isFn K (.ref f)=true
 kp:PySem.W.keepIn K (.ref f)=true
section
variable {X:Cx}{pins:List (Addr×Obj)}{σ:St}{H:Hp}{s:Shared}{a C dx:Addr}{fs:List (Str×V)}{f:Str}{v:V}{A:Around}{E:Value->Shared->Prop}
end
section
variable {X:Cx}{o e value:Expr}{f:Str}{pos pos' tpos:Pos}{ta tv:TE}
end
section
variable {X:Cx}{pins:List (Addr×Obj)}{σ:St}{H:Hp}{s:Shared}{A:Around}{E:Value->Shared->Prop}{Q:Value->Shared->Prop}{c:Value}{b:Bool}
end
structure Qbf (k:Nat) (A:Around):Prop where
 hd:A.handled=none
 dp:A.depth+3*k+5<recursionLimit
 un:A.units+16*k+200<cLine
theorem Qbf.mono{j k:Nat}{A:Around}(r:Qbf k A)(h:j<=k):Qbf j A:=⟨r.hd,by have:=r.dp;omega,by have:=r.un;omega⟩
theorem Qbf.deeper{k:Nat}{A:Around}(r:Qbf (k+1) A)(env:Env):Qbf k (A.deeper env):=
 ⟨r.hd,by have:=r.dp;show A.depth+1+3*k+5<_;omega,by have:=r.un;show A.units+3+16*k+200<_;omega⟩
theorem Qbf.depth{k:Nat}{A:Around}(r:Qbf k A):A.depth<recursionLimit:=by have:=r.dp;omega
theorem Qbf.units{k:Nat}{A:Around}(r:Qbf k A):A.units+64<cLine:=by have:=r.un;omega
noncomputable def Qpk:TA:=λ_ H Q=>Q [] H
noncomputable def Qia(ta:TE)(tr:TA):TA:=λσ H Q=>ta σ H λx H1=>tr σ H1 λxs H2=>Q (x::xs) H2
section
variable {X:Cx}{e:Expr}{es:List Expr}{te:TE}{t:TA}{pos:Pos}
theorem QcQ:PA X [] Qpk:=λ_ _ _ _ H Q I h=>Calls.spliced_nil ⟨[],H,I,.nil,h⟩
theorem Qar(ha:PE X e te)(hr:PA X es t)(hs:starEach (e::es) X.env=(false,eval e X.env)::starEach es X.env:=by rfl):PA X (e::es) (Qia te t):=by
 intro pos pins s σ H Q I h;rw[hs];show wpAny _ _ (spliced ((false,eval e X.env)::backTo pos (starEach es X.env))) _ _ s;refine Calls.spliced_cons (thn (ha pins s σ H _ I h) λu s1=>exJ λx H1 I1 r1 q1=>?_);exact thn (hr pos pins s1 σ H1 _ I1 q1) λus s2 ⟨xs,H2,I2,r2,q2⟩=>⟨x::xs,H2,I2,.cons r1 r2,q2⟩
noncomputable def QzR(t:TA):TE:=λσ H Q=>t σ H λxs H1=>xs.length<=sizeLine/\∀p,H1 p=none->Q (.ref p) (upd H1 p (.tup xs))
noncomputable def QCh(t:TA):TE:=λσ H Q=>t σ H λxs H1=>xs.length<=sizeLine/\∀p,H1 p=none->Q (.ref p) (upd H1 p (.lst xs))
theorem Qt6{x1}(h:PA X es t):PE X (.Tuple es x1 pos) (QzR t):=by
 intro pins s σ H Q I hq;refine wpAny_Tuple_spliced (thn (h pos pins s σ H _ I hq) λus s1 ⟨xs,H1,I1,r,z,q⟩=>⟨by rw[← r.length];exact z,?_⟩);have hf:H1 s1.heap.objs.size=none:=I1.hok.fresh (Zi _);refine⟨.ref s1.heap.objs.size,upd H1 s1.heap.objs.size (.tup xs),I1.laid (t':=s1.toks) (λb u e=>Zb _ e) (Zi _) ?_,rfl,q _ hf⟩;exact⟨z,us,r,⟨_,ZC _ rfl,rfl,_,rfl⟩⟩
theorem Qzy(h:PA X es t):PE X (.List es pos) (QCh t):=by
 intro pins s σ H Q I hq;refine wpAny_List_spliced (thn (h pos pins s σ H _ I hq) λus s1 ⟨xs,H1,I1,r,z,q⟩=>⟨by rw[← r.length];exact z,?_⟩);have hf:H1 s1.heap.objs.size=none:=I1.hok.fresh (Zi _);refine⟨.ref s1.heap.objs.size,upd H1 s1.heap.objs.size (.lst xs),I1.laid (t':=s1.toks) (λb u e=>Zb _ e) (Zi _) ?_,rfl,q _ hf⟩;exact⟨z,us,0,r,ZC _ rfl⟩
end
noncomputable abbrev Sp:=List V->Hp->VK->XK->Prop
noncomputable abbrev CXT:=List Env->Hp->Shared->XK->Value->Shared->Prop
structure Qr0 (P:Program) (w:World) (K:Fgg) (mg:Str->Option Value) (base:Heap) (A:Around) (outer:List Env) (s:Shared) (H:Hp):Prop where
 frames:A.frames=some outer
 mod:Mod K mg base
 bs:∀b o,base.get? b=some o->s.heap.get? b=some o/\H b=none
 bsz:base.objs.size<=s.heap.objs.size
 Qec:s.heap.FunFrames base outer
 frf:∀b∈frs outer,H b=none
 hok:HOk P w H s.heap
 bare:AllBare s.gens
def CE(outer:List Env)(P:Program)(w:World)(H:Hp)(s:Shared)(Q:VK)(u:Value)(s':Shared):Prop:=
 ∃v H',s'.os=s.os/\AllBare s'.gens/\Un (frs outer) [] H H' s.heap s'.heap/\HOk P w H' s'.heap/\RelV v u/\Q v H'
def CR(CX:CXT)(outer:List Env)(P:Program)(w:World)(H:Hp)(s:Shared)(Q:VK)(E:XK)(r:Result)(s':Shared):Prop:=
 match r with
 | .ok (.ret u)=>CE outer P w H s Q u s'
 | .ok _=>False
 | .error e=>CX outer H s E e s'
structure Qcs (P:Program) (w:World) (K:Fgg) (mg:Str->Option Value) (base:Heap) (CX:CXT) (k:Nat) (f:Addr) (fd:FuncData) (ps:List Str) (sp:Sp):Prop where
 len:∀vs H Q E,sp vs H Q E->vs.length=ps.length
 run:∀(A:Around) (outer:List Env) (s:Shared) (H:Hp) (args:Args) (us:List Value) (vs:List V) (Q:VK) (E:XK),Qbf k A->Qr0 P w K mg base A outer s H->BindsTo s fd args (ps.zip us)->QK vs us->sp vs H Q E→
  codeAny (model P w) A (.call (.ref f) args) (CR CX outer P w H s Q E) s
theorem Qcs.mono{P:Program}{w:World}{K:Fgg}{mg:Str->Option Value}{base:Heap}{CX:CXT}{j k:Nat}{f:Addr}{fd:FuncData}{ps:List Str}{sp:Sp}(F:Qcs P w K mg base CX j f fd ps sp)(h:j<=k):
  Qcs P w K mg base CX k f fd ps sp:=⟨F.len,λA outer s H args us vs Q E hr=>F.run A outer s H args us vs Q E (hr.mono h)⟩
section
variable {X:Cx}{pins:List (Addr×Obj)}{σ:St}{H:Hp}{s s':Shared}
theorem Inv.Qy4(I:Inv X pins σ H s):Qr0 X.prog X.w X.K X.mg X.base X.A X.stack s H:=
 ⟨I.ok.frames,I.ok.mod,I.bs,Zt I.ok.bsz I.sz,I.stack,I.Qni,I.hok,I.bare⟩
theorem Inv.after{Q:VK}{u:Value}(I:Inv X pins σ H s)(h:CE X.stack X.prog X.w H s Q u s'):EP X pins σ Q u s':=by
 obtain⟨v,H',os,bare,un,hok,r,q⟩:=h;obtain⟨hh,g,d,t,os'⟩:=s';obtain rfl:os'=s.os:=os;exact⟨v,H',I.call (h':=hh) (g':=g) (d':=d) (t':=t) (ch:=[]) un hok bare (λb z=>absurd z (by simp)),r,q⟩
end
noncomputable def QrJ(sp:Sp)(dvs:List V)(E:XK)(t:TA):TE:=λσ H Q=>t σ H λvs H1=>sp (vs++dvs) H1 Q E
def Binds(K:Fgg)(fd:FuncData)(ps:List Str)(ds:List Value):Prop:=
 ∀(s:Shared) (us:List Value),K.In s.heap->(us++ds).length=ps.length->BindsTo s fd ⟨us,[]⟩ (ps.zip (us++ds))
theorem Binds.all{K:Fgg}{fd:FuncData}{ps:List Str}(h:∀us:List Value,us.length=ps.length->bindArgs fd ⟨us,[]⟩=pure (ps.zip us)):Binds K fd ps []:=λs us _ hl=>by
 rw[ZaQ]at hl ⊢;exact .of_eq (h us hl)
def QlV(CX:CXT)(X:Cx)(E:XK):Prop:=∀(pins:List (Addr×Obj)) (σ:St) (H:Hp) (s:Shared) (e:Value) (s':Shared),Inv X pins σ H s->CX X.stack H s E e s'->X.xe e s'
section
variable {X:Cx}{CX:CXT}{k:Nat}{f C:Addr}{fd:FuncData}{ps:List Str}{sp:Sp}{dvs:List V}{ds:List Value}{E:XK}{x m:Str}{p pos apos:Pos}{e o:Expr}{es:List Expr}{ta:TE}{t:TA}
theorem Quj{pins:List (Addr×Obj)}{σ:St}{H:Hp}{s:Shared}{Q:VK}{us:List Value}{vs:List V}(F:Qcs X.prog X.w X.K X.mg X.base CX k f fd ps sp)(hr:Qbf k X.A)(hb:Binds X.K fd ps ds)(hd:QK dvs ds)(hx:QlV CX X E)
  (I:Inv X pins σ H s) (r:QK vs us) (h:sp (vs++dvs) H Q E):wpAny (model X.prog X.w) X.A (call (.ref f) us) (EP X pins σ Q) X.xe s:=by
 have r2:QK (vs++dvs) (us++ds):=r.append hd;have hl:(us++ds).length=ps.length:=by rw[← r2.length];exact F.len _ _ _ _ h
 refine wpAny_call (codeAny_mono (F.run X.A X.stack s H ⟨us,[]⟩ (us++ds) (vs++dvs) Q E hr I.Qy4 (hb s us I.kIn hl) r2 h) λr s' hq=>?_);cases r with
 | error e=>exact hx pins σ H s e s' I hq
 | ok fl=>
  cases fl with
  | ret u=>exact I.after hq
  | next=>exact False.elim hq
  | brk=>exact False.elim hq
  | cont=>exact False.elim hq
theorem QxX(F:Qcs X.prog X.w X.K X.mg X.base CX k f fd ps sp)(hr:Qbf k X.A)(hg:Gl X x)(hm:X.mg x=some (.ref f))(hk:PySem.W.keepIn X.K (.ref f)=true)(hb:Binds X.K fd ps ds)(hd:QK dvs ds)(hx:QlV CX X E)
  (ha:PA X (e::es) t) (hdb:(x == ("__debug__" :Str))=false:=by decide) (he:starEach (e::es) X.env=(false,eval e X.env)::starEach es X.env:=by rfl) (hpl:(backTo pos (starEach es X.env)).any (·.1)=false:=by rfl):
  PE X (.Call (.Name x p) (e::es) [] pos) (QrJ sp dvs E t):=by
 intro pins s σ H Q I h;refine wpAny_Call_Name_kw (Qft I hg hm ?_ hdb);refine PySem.W.callWith_K (h₀:=X.base) I.ok.mod.kin hk (thn (ha pos pins s σ H _ I h) λus s1 ⟨vs,H1,I1,r,q⟩=>⟨I1.kIn,?_⟩) he hpl;exact Quj F hr hb hd hx I1 r q
theorem Qwk(F:Qcs X.prog X.w X.K X.mg X.base CX k f fd ps sp)(hr:Qbf k X.A)(hg:Gl X x)(hm:X.mg x=some (.ref f))(hk:PySem.W.keepIn X.K (.ref f)=true)(hb:Binds X.K fd ps ds)(hd:QK dvs ds)(hx:QlV CX X E)
  (hdb:(x == ("__debug__" :Str))=false:=by decide):PE X (.Call (.Name x p) [] [] pos) (QrJ sp dvs E Qpk):=by
 intro pins s σ H Q I h;refine wpAny_Call_Name_kw (Qft I hg hm ?_ hdb);exact PySem.W.callWith_K0 I.kIn hk (Quj (us:=[]) F hr hb hd hx I .nil h)
structure Mk (K:Fgg) (C f:Addr):Prop where
 makes:PySem.W.makesIn K C=true
 init:PySem.W.findIn K (.ref C) "__init__" =some (some (.ref f))
 fn:PySem.W.isFn K (.ref f)=true
 kp:PySem.W.keepIn K (.ref C)=true
end
section
variable {X:Cx}{CX:CXT}{k:Nat}{f C:Addr}{fd:FuncData}{ps ks:List Str}{sp:Sp}{E:XK}{x m:Str}{p pos apos kpos:Pos}{e o:Expr}{es:List Expr}{kws:List Keyword}{te ta:TE}{t tk:TA}{nm:Option Str}
structure QCU (K:Fgg) (fd:FuncData) (ps ks:List Str) (g:List Value->List Value->List Value) (gV:List V->List V->List V):Prop where
 to:∀(s:Shared) (us ws:List Value),K.In s.heap->(g us ws).length=ps.length->BindsTo s fd ⟨us,ks.zip ws⟩ (ps.zip (g us ws))
 rel:∀{vs:List V}{us:List Value}{zs:List V}{ws:List Value},QK vs us->QK zs ws->QK (gV vs zs) (g us ws)
variable {g:List Value->List Value->List Value}{gV:List V->List V->List V}
end
structure Qb8 (N P:List Str) (sc:Scope):Prop where
 kind:sc.kind= .function
 co:sc.isCoroutine=false
 gen:sc.isGenerator=false
 nd:N.Nodup
 pre:N.take P.length=P
 par:∀x∈P,sc.names.lookup x=some .local ∨sc.names.lookup x=some .cell
 nofree:∀y∈sc.names,y.2≠ .free
theorem Qnl{kindOf:Str->Option NameKind}{x:Str}:∀{binds:List (Str×Value)}{m:Str->Option Value},(∀v,(x,v)∉binds)->bindL kindOf binds m x=m x
 | [],_,_=>rfl
 | (n,v)::r,m,h=>by
  unfold bindL;rw[Qnl λw hw=>h w (Zc _ hw)];split
  ·have:x≠n:=by rintro rfl;exact h v Zl
   simp[this]
  ·rfl
theorem Qns{kindOf:Str->Option NameKind}{x:Str}:∀{binds:List (Str×Value)}{m:Str->Option Value},(∀v,(x,v)∉binds)->bindC kindOf binds m x=m x
 | [],_,_=>rfl
 | (n,v)::r,m,h=>by
  unfold bindC;rw[Qns λw hw=>h w (Zc _ hw)];split
  ·rfl
  ·have:x≠n:=by rintro rfl;exact h v Zl
   simp[this]
theorem QnJ{kindOf:Str->Option NameKind}{x:Str}{v:Value}:∀{P:List Str}{vs:List Value}{i:Nat}{m:Str->Option Value},P.Nodup->P[i]? =some x->vs[i]? =some v->kindOf x=some .local →
  bindL kindOf (P.zip vs) m x=some v
 | [],_,_,_,_,h,_,_=>by simp at h
 | _::_,[],_,_,_,_,h,_=>by simp at h
 | p::P,w::vs,0,m,nd,h1,h2,hk=>by
  simp at h1 h2;subst h1;subst h2;show bindL kindOf ((p,w)::P.zip vs) m p=_;unfold bindL;rw[Qnl λv hv=>(ZaB.mp nd).1 (Zcm hv).1,if_pos hk];simp
 | p::P,w::vs,i+1,m,nd,h1,h2,hk=>by
  show bindL kindOf ((p,w)::P.zip vs) m x=_;unfold bindL;exact QnJ (i:=i) (ZaB.mp nd).2 (by simpa using h1) (by simpa using h2) hk
theorem Qnw{kindOf:Str->Option NameKind}{x:Str}{v:Value}:∀{P:List Str}{vs:List Value}{i:Nat}{m:Str->Option Value},P.Nodup->P[i]? =some x->vs[i]? =some v->kindOf x≠some .local →
  bindC kindOf (P.zip vs) m x=some v
 | [],_,_,_,_,h,_,_=>by simp at h
 | _::_,[],_,_,_,_,h,_=>by simp at h
 | p::P,w::vs,0,m,nd,h1,h2,hk=>by
  simp at h1 h2;subst h1;subst h2;show bindC kindOf ((p,w)::P.zip vs) m p=_;unfold bindC;rw[Qns λv hv=>(ZaB.mp nd).1 (Zcm hv).1,if_neg hk];simp
 | p::P,w::vs,i+1,m,nd,h1,h2,hk=>by
  show bindC kindOf ((p,w)::P.zip vs) m x=_;unfold bindC;exact Qnw (i:=i) (ZaB.mp nd).2 (by simpa using h1) (by simpa using h2) hk
noncomputable def start(N:List Str)(vs:List V):St:=vs.map some++List.replicate (N.length-vs.length) none
noncomputable def Qfg(CX:CXT)(P:Program)(w:World)(K:Fgg)(mg:Str->Option Value)(base:Heap)(N:List Str)(qual:Str)(scope:Scope)(f:Addr)(cd:Value)(A:Around)(outer:List Env)(s:Shared)(H:Hp)(E:XK):Cx where
 prog:=P
 w:=w
 K:=K
 mg:=mg
 base:=base
 A:=A.deeper (envOfC qual scope s.heap.objs.size f cd)
 N:=N
 s₀:=s
 H₀:=H
 env:=envOfC qual scope s.heap.objs.size f cd
 outer:=outer
 stack:=envOfC qual scope s.heap.objs.size f cd::outer
 ex:=[]
 calm:=decide (A.handled=none)
 fn:=λ_=>true
 pn:=[]
 xe:=λe s'=>wpAny (model P w) (A.deeper (envOfC qual scope s.heap.objs.size f cd)) (leaving (envOfC qual scope s.heap.objs.size f cd) e) (λ_ s''=>CX outer H s E e s'') (λe' s''=>CX outer H s E e' s'') s'
theorem Qp4{sc:Scope}{n:Nat}{x:Str}(h:sc.names.lookup x=some .cell):∃c,(cellsFrom n sc.names []).lookup x=some c:=by
 have q:=Zcg sc.names n [] (.inl h);exact ZbU.mp q
theorem QtF{CX:CXT}{P:Program}{w:World}{K:Fgg}{mg:Str->Option Value}{base:Heap}{N ps:List Str}{qual:Str}{scope:Scope}{f:Addr}{cd:Value}{A:Around}{outer:List Env}{s s1:Shared}{H:Hp}{E:XK}{us:List Value}{vs:List V}
  (S:Qb8 N ps scope) (e0:Qr0 P w K mg base A outer s H) (hl:vs.length=ps.length) (r:QK vs us)
  (x:InCallC s s.heap.objs.size (bindL (envOfC qual scope s.heap.objs.size f cd).kindOf (ps.zip us) λ_=>none) (cellsFrom (s.heap.objs.size+1) scope.names []) (bindC (envOfC qual scope s.heap.objs.size f cd).kindOf (ps.zip us) λ_=>none) s1):
  Inv (Qfg CX P w K mg base N qual scope f cd A outer s H E) [] (start N vs) H s1:=by
 have hpl:ps.length<=N.length:=by have:=congrArg List.length S.pre;rw[ZbW]at this;omega
 obtain⟨h1,tk,rfl,hk⟩:=x.done;have noA:∀b:Addr,b∉(Qfg CX P w K mg base N qual scope f cd A outer s H E).ex:=λb z=>absurd (show b∈([]:LAd)from z) (by simp)
 refine⟨⟨e0.mod,S.kind,rfl,rfl,Zi _,λy z c h1 h2=>?_,λy hy=>?_,λy c _ h=>?_,λh=>of_decide_eq_true h,Around.frames_deeper e0.frames,.inr ⟨rfl,rfl⟩,λb z=>absurd z (noA b),e0.bs,e0.bsz,λb _ _=>noA b,λb z=>absurd z (noA b),e0.Qec,e0.frf⟩,
  rfl,e0.bare,Un.kept hk,⟨_,x.toInCall.ns,λi y v h1 h2 h3=>?_⟩,λy c h=>⟨_,x.cell y c h⟩,e0.hok.fresh (Zi _),λy c h=>?_,λp hp=>absurd (show p∈([]:List (Addr×Obj))from hp) (by simp),e0.hok.kept hk,?_⟩
 ·exact name_of_addr x.apart (Zap h1) (Zap h2)
 ·have hy:scope.names.lookup y=some .cell∨scope.names.lookup y=some .free:=hy;rcases hy with hy | hy
  ·exact Qp4 hy
  ·exact absurd rfl (S.nofree _ (Zap hy))
 ·exact Zbg (x.above y c (Zap h))
 ·have hi:i<vs.length:=by
   unfold start at h2;by_cases hi:i<vs.length
   ·exact hi
   ·rw[ZbS (by simpa using hi),ZbX]at h2;split at h2<;>cases h2
  have ha:vs[i]? =some v:=by
   unfold start at h2;rw[Zbj (by simpa using hi),Zr]at h2;cases e:vs[i]? with
   | none=>rw[e]at h2;cases h2
   | some a=>rw[e]at h2;cases h2;rfl
  obtain⟨u,hu,rv⟩:=r.get ha;have hp:ps[i]? =some y:=by
   rw[← S.pre,List.getElem?_take_of_lt ⋯];exact h1
  have ndP:ps.Nodup:=by rw[← S.pre];exact S.nd.sublist (List.take_sublist _ _)
  refine⟨u,rv,?_⟩;rcases S.par y (Zax hp)with k | k
  ·exact .inl ⟨k,QnJ ndP hp hu k⟩
  ·obtain⟨c,e⟩:=Qp4 (n:=s.heap.objs.size+1) k;refine .inr ⟨.inl k,c,e,?_⟩;have q:=x.cell y c e;rw[Qnw ndP hp hu (by show scope.names.lookup y≠_;rw[k];decide)]at q;exact q
 ·exact e0.hok.fresh (Zbg (x.above y c (Zap h)))
 ·unfold start;show _=N.length;rw[Zy,Zn,List.length_replicate];omega
theorem QwL{CX:CXT}{P:Program}{w:World}{K:Fgg}{mg:Str->Option Value}{base:Heap}{k:Nat}{f:Addr}{name qual:Str}{params:Arguments}{body:List Stmt}{scope:Scope}{dV kV doc pm cdv ct oc:Value}{an od:Option Addr}
  {osl:Array (Option Value)}{N ps:List Str}{sp:Sp}(lk:K.lookup f=some ⟨oc,od,.func (PySem.W.fnOf name qual params body scope dV kV doc pm an cdv ct),osl⟩) (hcd:PySem.W.codeIn K cdv qual=true) (S:Qb8 N ps scope)
  (len:∀vs H Q E,sp vs H Q E->vs.length=ps.length)
  (hbody:∀(A:Around) (outer:List Env) (s:Shared) (H:Hp) (vs:List V) (Q:VK) (E:XK),Qbf k (A.deeper (envOfC qual scope s.heap.objs.size f cdv))->sp vs H Q E→
   ∃t,PSs (Qfg CX P w K mg base N qual scope f cdv A outer s H E) body t/\t {nx:=λ_ H'=>Q .non H',rt:=Q} (start N vs) H):
  Qcs P w K mg base CX (k+1) f (PySem.W.fnOf name qual params body scope dV kV doc pm an cdv ct) ps sp:=by
 refine⟨len,λA outer s H args us vs Q E hr e0 hb r hsp=>?_⟩;have hl:=len _ _ _ _ hsp;have KX:K.In s.heap:=e0.mod.kin.keeps λb o e=>(e0.bs b o e).1;have lim:s.heap.NoLimit:=e0.mod.nolimit.keeps λb o e=>(e0.bs b o e).1;have hkind:∀y∈ps.zip us,scope.names.lookup y.1=some .local ∨(scope.names.lookup y.1=some .cell/\((cellsFrom (s.heap.objs.size+1) scope.names []).lookup y.1).isSome=true):=λZ hy=>by
  obtain⟨n,v⟩:=Z;rcases S.par n (Zcm hy).1 with q | q
  ·exact .inl q
  ·exact .inr ⟨q,Zcg _ _ _ (.inl q)⟩
 refine codeAny_call_function hr.depth (KX _ _ lk) rfl S.co S.gen rfl (PySem.W.codeRec_of KX hcd) (hb _ _ _ _ ?_);refine wpAny_newFunctionEnv_cells S.kind hkind λenv he s1 x=>?_;subst he;refine⟨lim.keeps x.toInCall.keep,codeAny_func ?_⟩;obtain⟨t,ht,hq⟩:=hbody A outer s H vs Q E (hr.deeper _) hsp;have I:Inv (Qfg CX P w K mg base N qual scope f cdv A outer s H E) [] (start N vs) H s1:=QtF S e0 hl r x;refine wpAny_mono (ht [] s1 (start N vs) H _ I hq) (λfl s' hs=>?_) λe s' hs=>hs
 have fin:∀{σ':St}{H':Hp}{v:V}{u:Value},Inv (Qfg CX P w K mg base N qual scope f cdv A outer s H E) [] σ' H' s'->RelV v u->Q v H'->CE outer P w H s Q u s':=
  λ{σ' H' v u} J rv q=>⟨v,H',J.os,J.bare,J.base,J.hok,rv,q⟩
 cases fl with
 | ret u=>
  obtain⟨v,σ',H',J,rv,q⟩:=hs;exact fin J rv q
 | next=>
  obtain⟨σ',H',J,q⟩:=hs;exact fin (v:=V.non) (u:=Value.none) J rfl q
 | brk=>
  obtain⟨_,_,_,q⟩:=hs;exact False.elim q
 | cont=>
  obtain⟨_,_,_,q⟩:=hs;exact False.elim q
section
variable {X:Cx}{x:Str}{p pos:Pos}{e:Expr}{es:List Expr}{t:TA}{id T:String}{r:List V->Hp->VK->Prop}
noncomputable def tCB(r:List V->Hp->VK->Prop)(t:TA):TE:=λσ H Q=>t σ H λvs H1=>r vs H1 Q
theorem QkQ(hc:QcI X (.builtin id) r)(hg:Gl X x)(hm:X.mg x=none)(hv:bootBuiltins x=some (.builtin id))(ha:PA X (e::es) t)(hn:x≠ "__name__" :=by decide)(hdb:(x == ("__debug__" :Str))=false:=by decide)
  (he:starEach (e::es) X.env=(false,eval e X.env)::starEach es X.env:=by rfl) (hpl:(backTo pos (starEach es X.env)).any (·.1)=false:=by rfl):PE X (.Call (.Name x p) (e::es) [] pos) (tCB r t):=by
 intro pins s σ H Q I h;refine wpAny_Call_Name_kw (Qdi I hg hm hv ?_ hn hdb);exact PyProof.Rows.callWith_builtin1 (thn (ha pos pins s σ H _ I h) λus s1 ⟨vs,H1,I1,r1,q1⟩=>hc pins s1 σ H1 vs us Q I1 r1 q1) he hpl
theorem QiC(hc:QcI X (.type T) r)(hg:Gl X x)(hm:X.mg x=none)(hv:bootBuiltins x=some (.type T))(ha:PA X (e::es) t)(hn:x≠ "__name__" :=by decide)(hdb:(x == ("__debug__" :Str))=false:=by decide)
  (he:starEach (e::es) X.env=(false,eval e X.env)::starEach es X.env:=by rfl) (hpl:(backTo pos (starEach es X.env)).any (·.1)=false:=by rfl):PE X (.Call (.Name x p) (e::es) [] pos) (tCB r t):=by
 intro pins s σ H Q I h;refine wpAny_Call_Name_kw (Qdi I hg hm hv ?_ hn hdb);exact Zac (thn (ha pos pins s σ H _ I h) λus s1 ⟨vs,H1,I1,r1,q1⟩=>hc pins s1 σ H1 vs us Q I1 r1 q1) he hpl
end
end L2
namespace HT
open PySem PyProof.Rows
section
open PySem.SeqAt
open PySem.AutoSeq1 (wpAny_loadPart')
open PySem.MeetsSeq PySem.MeetsSeq2 PySem.MeetsSeq3
end
section
variable {prog:Program}{w:World}{A:Around}{E:Value->Shared->Prop}{s:Shared}
noncomputable def sIx(n d:Nat):Option Int->Nat
 | none=>d
 | some v=>if v<0 then(v+(n:Int)).toNat else min v.toNat n
theorem Qkd(n d:Nat):sIx n d none=d:=rfl
theorem QmO(n d k:Nat):sIx n d (some (k:Int))=min k n:=by
 show(if(k:Int)<0 then((k:Int)+(n:Int)).toNat else min (k:Int).toNat n)=min k n;rw[if_neg ⋯,ZP]
end
end HT
namespace L2
open PySem PySem.Spec PyProof.Rows
noncomputable abbrev TO:=St->Hp->(Option Int->Hp->Prop)->Prop
def PO(X:Cx)(e:Option Expr)(t:TO):Prop:=
 ∀(pins:List (Addr×Obj)) (s:Shared) (σ:St) (H:Hp) (Q:Option Int->Hp->Prop),Inv X pins σ H s->t σ H Q→
  wpAny (model X.prog X.w) X.A (evalPart e X.env) (λu s'=>∃o H',Inv X pins σ H' s'/\IsPart u o/\Q o H') X.xe s
noncomputable def Qyp:TO:=λ_ H Q=>Q none H
noncomputable def QBD(t:TE):TO:=λσ H Q=>t σ H λx H1=>∃i,x= .int i/\Q (some i) H1
theorem intsAre_of{ns:List Int}:∀{us:List Value},QK (ns.map V.int) us->IntsAre us ns:=by
 induction ns with
 | nil=>intro us r;rw[List.map_nil]at r;cases r;exact .nil
 | cons n ns ih=>
  intro us r;rw[ZJ]at r;cases r with
  | cons r1 r2=>
   obtain⟨t,e⟩:=r1;subst e;exact .cons n t (ih r2)
section
variable {X:Cx}{e:Expr}{te:TE}{lo hi:Option Expr}{tl th:TO}{pos p2:Pos}
theorem Qx3:PO X none Qyp:=by
 intro pins s σ H Q I h;rw[evalPart_none];exact wpAny_pure ⟨none,H,I,.none,h⟩
theorem QwV(h:PE X e te):PO X (some e) (QBD te):=by
 intro pins s σ H Q I hw;rw[evalPart_some];refine thn (h pins s σ H _ I hw) λu s1=>exJ λx H1 I1 r1 q1=>?_;obtain⟨i,rfl,q⟩:=q1;obtain⟨t,rfl⟩:=r1;exact⟨some i,H1,I1,.int i t,q⟩
def SlR(X:Cx)(r:V->Option Int->Option Int->Hp->VK->Prop):Prop:=
 ∀(pins:List (Addr×Obj)) (s:Shared) (σ:St) (H:Hp) (x:V) (v vl vu:Value) (lo hi:Option Int) (sl:Addr) (Q:VK),Inv X pins σ H s->RelV x v->s.heap.IsSliceOf sl vl vu .none->IsPart vl lo->IsPart vu hi->r x lo hi H Q→
  ∃T id,typeLookup (.type T) "__getitem__" =pure (some (.builtin id))/\s.TypeIs v T/\wpAny (model X.prog X.w) X.A (getItem v (.ref sl)) (EP X pins σ Q) X.xe s
noncomputable def tSl(r:V->Option Int->Option Int->Hp->VK->Prop)(te:TE)(tl th:TO):TE:=λσ H Q=>te σ H λx H1=>tl σ H1 λl H2=>th σ H2 λu H3=>r x l u H3 Q
theorem Qv9{r:V->Option Int->Option Int->Hp->VK->Prop}(hr:SlR X r)(he:PE X e te)(hl:PO X lo tl)(hu:PO X hi th):PE X (.Subscript e (.Slice lo hi none p2) pos) (tSl r te tl th):=by
 intro pins s σ H Q I h;refine Subscript_ (thn (he pins s σ H _ I h) λv s1=>exJ λx H1 I1 r1 q1=>?_);refine wpAny_Slice (thn (hl pins s1 σ H1 _ I1 q1) λvl s2 ⟨l,H2,I2,pl,q2⟩=>thn (hu pins s2 σ H2 _ I2 q2) λvu s3=>exJ λu H3 I3 pu q3=>?_);rw[evalPart_none];refine wpAny_pure ?_;have I4:Inv X pins σ H3 {s3 with heap:=s3.heap.push {cls:= .type "slice",data:= .fields #[vl,vu,.none]}}:=I3.kept (t':=s3.toks) λb ob q=>Zb _ q;obtain⟨T,id,hT,ht,hg⟩:=hr pins {s3 with heap:=s3.heap.push {cls:= .type "slice",data:= .fields #[vl,vu,.none]}} σ H3 x v vl vu l u s3.heap.objs.size Q I4 r1 (Heap.IsSliceOf.new ..) pl pu q3;show wpAny (model X.prog X.w) X.A (subscriptTail e (.Slice lo hi none p2) v (.ref s3.heap.objs.size)) (EP X pins σ Q) X.xe {s3 with heap:=s3.heap.push {cls:= .type "slice",data:= .fields #[vl,vu,.none]}};exact tail_any (ops:=[.ref s3.heap.objs.size,v]) ht hT hg (by with_unfolding_all rfl)
noncomputable def Qms(xs:List V)(lo hi:Option Int):List V:=(xs.drop (HT.sIx xs.length 0 lo)).take (HT.sIx xs.length xs.length hi-HT.sIx xs.length 0 lo)
theorem Qqf(xs:List V)(lo hi:Option Int):(Qms xs lo hi).length<=xs.length:=by
 unfold Qms;rw[ZbW,List.length_drop];omega
end
noncomputable def ixN(n:Nat)(i:Int):Option Nat:=if 0<=i then(if i<n then some i.toNat else none)else if-(n:Int)<=i then some (i+n).toNat else none
noncomputable def atI{α:Type}(xs:List α)(i:Int):Option α:=(ixN xs.length i).bind λj=>xs[j]?
theorem Qcc{n:Nat}{i:Int}{j:Nat}(h:ixN n i=some j):seqIndex? i n=some j/\j<n/\ -(n:Int)<=i/\i<n:=by
 unfold ixN at h;by_cases h0:0<=i
 ·rw[if_pos h0]at h;by_cases h1:i<n
  ·rw[if_pos h1]at h;have e:i.toNat=j:=Option.some.inj h;exact⟨by rw[seqIndex_of h0 h1,e],⋯,⋯,h1⟩
  ·rw[if_neg h1]at h;cases h
 ·rw[if_neg h0]at h;by_cases h1: -(n:Int)<=i
  ·rw[if_pos h1]at h;have e:(i+n).toNat=j:=Option.some.inj h;exact⟨by rw[seqIndex_neg ⋯ h1,e],⋯,h1,⋯⟩
  ·rw[if_neg h1]at h;cases h
theorem QmY{α:Type}{xs:List α}{i:Int}{v:α}(h:atI xs i=some v):∃j,seqIndex? i xs.length=some j/\xs[j]? =some v/\j<xs.length/\ -(xs.length:Int)<=i/\i<xs.length:=by
 unfold atI at h;cases e:ixN xs.length i with
 | none=>rw[e]at h;cases h
 | some j=>
  rw[e]at h;obtain⟨h1,h2,h3,h4⟩:=Qcc e;exact⟨j,h1,h,h2,h3,h4⟩
def QjG(b:Expr):Prop:=∀o i,subscripted b false o i=operate [o,i] (getItem o i)
def IxR(X:Cx)(r:R2):Prop:=
 ∀(value slice:Expr) (pins:List (Addr×Obj)) (s:Shared) (σ:St) (H:Hp) (x y:V) (v u:Value) (Q:VK),Inv X pins σ H s->RelV x v->RelV y u->r x y H Q→
  subscripted slice false v u=operate [v,u] (getItem v u)->wpAny (model X.prog X.w) X.A (subscriptTail value slice v u) (EP X pins σ Q) X.xe s
def MtR(X:Cx)(id:String)(r:V->List V->Hp->VK->Prop):Prop:=
 ∀(pins:List (Addr×Obj)) (s:Shared) (σ:St) (H:Hp) (x:V) (xs:List V) (v:Value) (us:List Value) (Q:VK),Inv X pins σ H s->RelV x v->QK xs us->r x xs H Q→
  wpAny (model X.prog X.w) X.A (call (.builtin id) (v::us)) (EP X pins σ Q) X.xe s
section
variable {X:Cx}{a b:Expr}{ta tb:TE}{pos:Pos}
theorem IxR.or{r r':R2}(h:IxR X r)(h':IxR X r'):IxR X (λx y H Q=>r x y H Q∨r' x y H Q):=by
 intro value slice pins s σ H x y v u Q I rx ry q hs;rcases q with q | q
 ·exact h value slice pins s σ H x y v u Q I rx ry q hs
 ·exact h' value slice pins s σ H x y v u Q I rx ry q hs
theorem Qwt{r:R2}(hr:IxR X r)(ha:PE X a ta)(hb:PE X b tb)(hs:QjG b):PE X (.Subscript a b pos) (tOp r ta tb):=by
 intro pins s σ H Q I h;exact Subscript_ (Qwj ha hb I h λv u s2 x y H2 I2 rx ry q=>hr a b pins s2 σ H2 x y v u Q I2 rx ry q (hs _ _))
noncomputable def Qy8(K:Fgg):R2:=λx y H Q=>∃p xs i v,x= .ref p/\y= .int i/\SqL K H p xs/\atI xs i=some v/\Q v H
noncomputable def QCa(K:Fgg):R2:=λx y H Q=>∃p xs i v,x= .ref p/\y= .int i/\SqT K H p xs/\atI xs i=some v/\Q v H
theorem Qq7:IxR X (Qy8 X.K):=by
 intro value slice pins s σ H x y v u Q I rx ry h hs;obtain⟨p,xs,i,z,rfl,rfl,hq,he,q⟩:=h;cases rx;obtain⟨t,rfl⟩:=ry;obtain⟨its,r,pl,hz⟩:=I.list hq;obtain⟨j,h1,h2,h3,h4,h5⟩:=QmY he;obtain⟨w,ew,rw'⟩:=r.get h2;have hl:=r.length;have hn:=Qg8;have fin:EP X pins σ Q w s:=⟨z,H,I,rw',q⟩;by_cases h0:0<=i
 ·have hj:i.toNat=j:=by
   rw[seqIndex_of h0 h5]at h1;exact Option.some.inj h1
  exact item_listR pl.isList h0 ⋯ (by rw[hj];simpa using ew) fin hs
 ·have hj:(i+(its.toArray.size:Int)).toNat=j:=by
   rw[seqIndex_neg ⋯ h4]at h1;rw[Zx,← hl];exact Option.some.inj h1
  exact subscriptTail_builtinR (x:=w) pl.isList.typeIs slot_list_getitem.lookup
   (wpAny_getItem_list_neg (Q:=λr s'=>r=w/\EP X pins σ Q r s') pl.isList ⋯ (by rw[Zx]<;>omega) ⋯ (by rw[hj];simpa using ew) ⟨rfl,fin⟩) hs
theorem QtG:IxR X (QCa X.K):=by
 intro value slice pins s σ H x y v u Q I rx ry h hs;obtain⟨p,xs,i,z,rfl,rfl,hq,he,q⟩:=h;cases rx;obtain⟨t,rfl⟩:=ry;obtain⟨its,r,pl,hz⟩:=I.tuple hq;obtain⟨j,h1,h2,h3,h4,h5⟩:=QmY he;obtain⟨w,ew,rw'⟩:=r.get h2;have hl:=r.length;have hn:=Qg8;have fin:EP X pins σ Q w s:=⟨z,H,I,rw',q⟩
 exact subscriptTail_builtinR (x:=w) pl.typeIs slot_tuple_getitem.lookup
  (getItem_tuple (j:=j) (Q:=λr s'=>r=w/\EP X pins σ Q r s') pl ⋯ ⋯ (by rw[Zx,← hl];exact h1) (by simpa using ew) ⟨rfl,fin⟩) hs
theorem Qsa(its:List Value)(n j:Nat)(u:Value):Obj.mapSeq (·.setIfInBounds j u) {cls:= .type "list",data:= .seq its.toArray n}={cls:= .type "list",data:= .seq (its.set j u).toArray n}:=by
 simp[Obj.mapSeq]
theorem Inv.lst{pins:List (Addr×Obj)}{σ:St}{H:Hp}{s:Shared}{p:Addr}{xs:List V}(I:Inv X pins σ H s)(h:H p=some (.lst xs)):
  ∃(its:List Value) (n:Nat),QK xs its/\s.heap.get? p=some {cls:= .type "list",data:= .seq its.toArray n}/\xs.length<=sizeLine:=by
 obtain⟨z,its,n,r,e⟩:=I.hok p _ h;exact⟨its,n,r,e,z⟩
theorem Inv.Qy7{pins:List (Addr×Obj)}{σ:St}{H:Hp}{s:Shared}{p:Addr}{xs ys:List V}{its its':List Value}{n n':Nat}{f:Obj->Obj}(I:Inv X pins σ H s)(h:H p=some (.lst xs))
  (ho:s.heap.get? p=some {cls:= .type "list",data:= .seq its.toArray n}) (hf:f {cls:= .type "list",data:= .seq its.toArray n}={cls:= .type "list",data:= .seq its'.toArray n'}) (r:QK ys its') (hz:ys.length<=sizeLine) (t:Nat):
  Inv X pins σ (upd H p (.lst ys)) {s with heap:=s.heap.update p f,toks:=t}:=by
 have e:(s.heap.update p f).get? p=some {cls:= .type "list",data:= .seq its'.toArray n'}:=by
  rw[Heap.get?_update_self f ho (by rw[hf]<;>rfl),hf]
 refine I.write (x:=p) (e:=p) (by rw[h];trivial) (.inl rfl) (λb u hb q=>(Heap.get?_update_other _ _ (Ne.symm hb)).trans q) ⟨_,e⟩ ?_;exact⟨hz,its',n',r,e⟩
noncomputable def Qgt:V->V->V->Hp->(Hp->Prop)->Prop:=λo i v H Q=>∃p xs k j,o= .ref p/\i= .int k/\H p=some (.lst xs)/\ixN xs.length k=some j/\Q (upd H p (.lst (xs.set j v)))
theorem set_list:Qwb X Qgt:=by
 intro pins s σ H o i v ov iv u Q I ro ri rv h;obtain⟨p,xs,k,j,rfl,rfl,hp,hj,q⟩:=h;cases ro;obtain⟨t,rfl⟩:=ri;obtain⟨its,n,r,ho,hz⟩:=I.lst hp;obtain⟨h1,h2,h3,h4⟩:=Qcc hj;have hl:=r.length;have hn:=Qg8
 have I':Inv X pins σ (upd H p (.lst (xs.set j v))) {s with heap:=s.heap.update p (Obj.mapSeq (·.setIfInBounds j u))}:=
  I.Qy7 hp ho (Qsa its n j u) (r.set rv j) (by rw[ZZ];exact hz) s.toks
 by_cases h0:0<=k
 ·have hk:k.toNat=j:=by
   rw[seqIndex_of h0 h4]at h1;exact Option.some.inj h1
  exact PySem.W.ki_setAt ho h0 ⋯ (by rw[Zx,← hl];exact h4) (by rw[hk];exact⟨_,I',q⟩)
 ·have hk:(k+(its.toArray.size:Int)).toNat=j:=by
   rw[seqIndex_neg ⋯ h3]at h1;rw[Zx,← hl];exact Option.some.inj h1
  exact PySem.W.ki_setBack ho ⋯ (by rw[Zx,← hl];exact h3) ⋯ (by rw[hk];exact⟨_,I',q⟩)
theorem QoK(lo hi:Option Int)(n:Nat):(sliceBounds lo hi none n).1=((HT.sIx n 0 lo:Nat):Int)/\(sliceBounds lo hi none n).2.1=((HT.sIx n n hi:Nat):Int)/\(sliceBounds lo hi none n).2.2=1:=by
 refine⟨?_,?_,rfl⟩
 ·cases lo with
  | none=>simp[sliceBounds,HT.sIx]
  | some i=>
   simp only[sliceBounds,HT.sIx,Option.getD_none,show(1:Int)>0 by decide,if_true];by_cases h:i<0
   ·simp only[h,if_true]<;>omega
   ·simp only[h,if_false]<;>omega
 ·cases hi with
  | none=>simp[sliceBounds,HT.sIx]
  | some i=>
   simp only[sliceBounds,HT.sIx,Option.getD_none,show(1:Int)>0 by decide,if_true];by_cases h:i<0
   ·simp only[h,if_true]<;>omega
   ·simp only[h,if_false]<;>omega
theorem Qn7(its:List Value)(lo hi:Option Int):slicePick its.toArray lo hi none=((its.drop (HT.sIx its.length 0 lo)).take (HT.sIx its.length its.length hi-HT.sIx its.length 0 lo)).toArray:=by
 obtain⟨h1,h2,h3⟩:=QoK lo hi its.toArray.size;unfold slicePick;rw[h1,h2,h3];simp only[sliceRange_one,pick_run,Zx]<;>rfl
noncomputable def QCu(K:Fgg):V->Option Int->Option Int->Hp->VK->Prop:=λx lo hi H Q=>∃a xs,x= .ref a/\SqL K H a xs/\∀p,H p=none->Q (.ref p) (upd H p (.lst (Qms xs lo hi)))
theorem QyI:SlR X (QCu X.K):=by
 intro pins s σ H x v vl vu lo hi sl Q I rx hs pl pu h;obtain⟨a,xs,rfl,hx,q⟩:=h;cases rx;obtain⟨its,r,ht,hz⟩:=I.list hx;have hlen:=r.length;refine⟨"list",_,slot_list_getitem.lookup,ht.isList.typeIs,?_⟩;refine wpAny_getItem_list_slice ht.isList hs pl pu .none (by simp) ?_ (by rw[Zx]<;>omega);rw[Qn7,← hlen];refine⟨.ref s.heap.objs.size,_,I.laid (t':=s.toks) (o:= .lst (Qms xs lo hi)) (λb ob q=>Zb _ q) (Zi _) ?_,rfl,q _ (I.hok.fresh (Zi _))⟩;exact⟨Zt (Qqf xs lo hi) hz,_,0,(r.drop (HT.sIx xs.length 0 lo)).take (HT.sIx xs.length xs.length hi-HT.sIx xs.length 0 lo),ZC _ rfl⟩
theorem QpG:QcI X (.builtin "len") (λxs H Q=>∃p ys,xs=[.ref p]/\(SqL X.K H p ys∨SqT X.K H p ys)/\Q (.int ys.length) H):=by
 intro pins s σ H xs us Q I r h;obtain⟨p,ys,rfl,hq,q⟩:=h;obtain⟨u,rfl,rx⟩:=vals1 r;cases rx;have hn:=Qg8;rcases hq with hq | hq
 ·obtain⟨its,r',pl,hz⟩:=I.list hq;have hlen:=r'.length;exact Calls.call_len_list pl.isList (by simp only[Zx]<;>omega) ⟨.int ys.length,H,I.tok _,⟨s.toks+1,by rw[Zx,hlen]⟩,q⟩
 ·obtain⟨its,r',pl,hz⟩:=I.tuple hq;have hlen:=r'.length;exact len_tuple pl (by simp only[Zx]<;>omega) ⟨.int ys.length,H,I.tok _,⟨s.toks+1,by rw[Zx,hlen]⟩,q⟩
theorem Qjb:QcI X (.type "list") (λxs H Q=>∃p ys,xs=[.ref p]/\(SqL X.K H p ys∨SqT X.K H p ys)/\∀l,H l=none->Q (.ref l) (upd H l (.lst ys))):=by
 intro pins s σ H xs us Q I r h;obtain⟨p,ys,rfl,hq,q⟩:=h;obtain⟨u,rfl,rx⟩:=vals1 r;cases rx
 have fin:∀(its:List Value),QK ys its->ys.length<=sizeLine->∀(h':Heap) (c':Nat),(∀b o',s.heap.get? b=some o'->h'.get? b=some o')→
   h'.get? s.heap.objs.size=some {cls:= .type "list",dict:=none,data:= .seq its.toArray c',slots:= #[]}->EP X pins σ Q (.ref s.heap.objs.size) {s with heap:=h'}:=λits r' hz h' c' kp e=>
  ⟨.ref s.heap.objs.size,_,I.laid (t':=s.toks) kp (Zi _) (show QbW X.prog X.w _ h' _ (.lst ys)from⟨hz,its,c',r',e⟩),rfl,q _ (I.hok.fresh (Zi _))⟩
 rcases hq with hq | hq
 ·obtain⟨its,r',pl,hz⟩:=I.list hq;have hlen:=r'.length;obtain⟨o,ho,hc,n,hd⟩:=pl.isList;exact call_list_seq p (.inl rfl) ho hc hd (λh' c' kp e=>fin its r' hz h' c' kp e) (by simp only[Zx]<;>omega)
 ·obtain⟨its,r',pl,hz⟩:=I.tuple hq;have hlen:=r'.length;obtain⟨o,ho,hc,n,hd⟩:=pl;exact call_list_seq p (.inr rfl) ho hc hd (λh' c' kp e=>fin its r' hz h' c' kp e) (by simp only[Zx]<;>omega)
theorem Qob:QcI X (.type "tuple") (λxs H Q=>∃p ys,xs=[.ref p]/\((SqL X.K H p ys/\∀l,H l=none->Q (.ref l) (upd H l (.tup ys)))∨(SqT X.K H p ys/\Q (.ref p) H))):=by
 intro pins s σ H xs us Q I r h;obtain⟨p,ys,rfl,h⟩:=h;obtain⟨u,rfl,rx⟩:=vals1 r;cases rx;rcases h with⟨hq,q⟩ | ⟨hq,q⟩
 ·obtain⟨its,r',pl,hz⟩:=I.list hq;have hlen:=r'.length;refine call_tuple_list pl.isList (λh' kp=>?_) (by simp only[Zx]<;>omega);have I1:Inv X pins σ H {s with heap:=h'}:=I.kept (t':=s.toks) kp
  have I2:Inv X pins σ (upd H h'.objs.size (.tup ys)) {s with heap:=h'.push {cls:= .type "tuple",data:= .seq its.toArray}}:=
   I1.laid (t':=s.toks) (λb o e=>Zb _ e) (Zi _) (show QbW X.prog X.w _ _ _ (.tup ys)from⟨hz,its,r',IsTup.new _ _⟩)
  exact⟨.ref h'.objs.size,_,I2,rfl,q _ (I1.hok.fresh (Zi _))⟩
 ·obtain⟨its,r',pl,hz⟩:=I.tuple hq;exact call_tuple_same pl ⟨.ref p,H,I,rfl,q⟩
def tyV(K:Fgg)(T:String)(x:V)(H:Hp):Prop:=match x with
 | .str _=>T= "str"
 | .int _=>T= "int"
 | .ref p=>(T= "list" /\∃xs,SqL K H p xs)∨(T= "tuple" /\∃o,K.lookup p=some o/\o.cls= .type "tuple" /\o.dict=none)∨
   (T= "dict" /\((∃kvs,H p=some (.dK kvs))∨∃kvs,H p=some (.dT kvs)))∨(T= "set" /\∃S n,H p=some (.set S n))
 | _=>False
theorem Qsx{pins:List (Addr×Obj)}{σ:St}{H:Hp}{s:Shared}{T:String}{x:V}{v:Value}(I:Inv X pins σ H s)(r:RelV x v)(ty:tyV X.K T x H):
  s.TypeIs v T/\∀a,v= .ref a->∃ob,s.heap.get? a=some ob/\ob.dict=none:=by
 cases x with
 | str z=>
  obtain⟨t,rfl⟩:=r;cases(show T= "str" from ty);exact⟨typeIs_str s z t,λ_ e=>nomatch e⟩
 | int i=>
  obtain⟨t,rfl⟩:=r;cases(show T= "int" from ty);exact⟨typeIs_int s i t,λ_ e=>nomatch e⟩
 | ref p=>
  cases r;rcases ty with⟨rfl,xs,hq⟩ | ⟨rfl,o,hk,hc,hd⟩ | ⟨rfl,hk⟩ | ⟨rfl,S,n,hk⟩
  ·obtain⟨its,_,pl,_⟩:=I.list hq;refine⟨pl.isList.typeIs,λa e=>?_⟩;cases e;obtain⟨o,n,e,c,hd,_⟩:=pl;exact⟨o,e,hd⟩
  ·refine⟨⟨o,I.kIn p o hk,hc⟩,λa e=>?_⟩;cases e;exact⟨o,I.kIn _ o hk,hd⟩
  ·have z:∃o,s.heap.get? p=some o/\o.ExactDict:=by
    rcases hk with⟨kvs,hk⟩ | ⟨kvs,hk⟩
    ·obtain⟨_,_,_,_,o,_,_,e,ex,_⟩:=I.hok p _ hk;exact⟨o,e,ex⟩
    ·obtain⟨_,_,_,_,o,_,_,e,ex,_⟩:=I.hok p _ hk;exact⟨o,e,ex⟩
   obtain⟨o,e,ex⟩:=z;refine⟨⟨o,e,ex.1⟩,λa e2=>?_⟩;cases e2;exact⟨o,e,ex.2.1⟩
  ·obtain⟨o,_,_,_,e,ex,_⟩:=I.hok p _ hk;refine⟨⟨o,e,ex.1⟩,λa e2=>?_⟩;cases e2;exact⟨o,e,ex.2.1⟩
 | _=>exact False.elim ty
noncomputable def QCA(K:Fgg)(T:String)(r:V->List V->Hp->VK->Prop)(to:TE):TE:=λσ H Q=>to σ H λx H1=>tyV K T x H1/\r x [] H1 Q
noncomputable def tBM(K:Fgg)(T:String)(r:V->List V->Hp->VK->Prop)(to:TE)(t:TA):TE:=λσ H Q=>to σ H λx H1=>tyV K T x H1/\t σ H1 λxs H2=>r x xs H2 Q
variable {o e:Expr}{es:List Expr}{to:TE}{t:TA}{name:Str}{apos cpos:Pos}{T id:String}{r:V->List V->Hp->VK->Prop}
theorem QAd(pa:PlainAttrs T)(slot:Slot T name id)(hty:typeOf (.builtin id)=pure (.type "method_descriptor"))(hm:MtR X id r)(ho:PE X o to)
  (hbase:attributeBase o name X.env (eval o X.env)=eval o X.env:=by rfl) (hline:(apos.endLine == cpos.line)=true:=by rfl):PE X (.Call (.Attribute o name apos) [] [] cpos) (QCA X.K T r to):=by
 intro pins s σ H Q I h;refine wpAny_Call_method0_late hbase hline (thn (ho pins s σ H _ I h) λv s1 Z=>?_);obtain⟨x,H1,I1,r1,ty,q1⟩:=Z;obtain⟨h1,h2⟩:=Qsx I1 r1 ty;exact⟨T,id,pa,slot,hty,h1,h2,Calls.callWith_builtin rfl (PySem.evalArgs_none (hm pins s1 σ H1 x [] v [] Q I1 r1 .nil q1))⟩
theorem QBk(pa:PlainAttrs T)(slot:Slot T name id)(hty:typeOf (.builtin id)=pure (.type "method_descriptor"))(hm:MtR X id r)(ho:PE X o to)(ha:PA X (e::es) t)
  (hbase:attributeBase o name X.env (eval o X.env)=eval o X.env:=by rfl)
  (hfew:((backTo cpos (starEach (e::es) X.env)).all (λx=> !x.1) && (backToKw cpos (keywordEach [] X.env)).all (λx=>x.1.isSome)
   && decide ((e::es).length+([]:List Keyword).length+(if([]:List Keyword).isEmpty then 0 else 1)<30))=true:=by rfl)
  (hline:(apos.endLine == cpos.line)=true:=by rfl) (hs:starEach (e::es) X.env=(false,eval e X.env)::starEach es X.env:=by rfl) (hplain:(backTo cpos (starEach es X.env)).any (·.1)=false:=by rfl):
  PE X (.Call (.Attribute o name apos) (e::es) [] cpos) (tBM X.K T r to t):=by
 intro pins s σ H Q I h;refine wpAny_Call_method_late hbase hfew hline rfl (thn (ho pins s σ H _ I h) λv s1 Z=>?_);obtain⟨x,H1,I1,r1,ty,q1⟩:=Z;obtain⟨h1,h2⟩:=Qsx I1 r1 ty;refine⟨T,id,pa,slot,hty,h1,h2,?_⟩;have hA:=ha cpos pins s1 σ H1 _ I1 q1;rw[hs]at hA ⊢;refine Calls.callWith_builtin (by show(false || (backTo cpos (starEach es X.env)).any (·.1))=false;rw[hplain]<;>rfl) (Calls.evalArgs_plain ?_);exact thn hA λus s2 ⟨vs,H2,I2,r2,q2⟩=>hm pins s2 σ H2 x vs v us Q I2 r1 r2 q2
end
def MtM(X:Cx)(id:String)(r:V->List V->Hp->VK->Prop):Prop:=
 ∀(pins:List (Addr×Obj)) (s:Shared) (σ:St) (H:Hp) (x:V) (xs:List V) (v:Value) (us:List Value) (Q:VK),Inv X pins σ H s->RelV x v->QK xs us->r x xs H Q→
  wpAny (model X.prog X.w) X.A (call (.builtin id) (v::us)) (EP X pins σ Q) X.xe s
theorem QK.one{x:V}{us:List Value}(r:QK [x] us):∃u,us=[u]/\RelV x u:=vals1 r
theorem QK.zero:∀{us:List Value},QK [] us->us=[]
 | _,.nil=>rfl
theorem QK.reverse{xs:List V}{us:List Value}(h:QK xs us):QK xs.reverse us.reverse:=by
 induction h with
 | nil=>exact .nil
 | cons r t ih=>rw[Zbv,Zbv];exact QK.append ih (.cons r .nil)
theorem QK.rep{xs:List V}{us:List Value}(h:QK xs us):∀k:Nat,QK (List.replicate k xs).flatten (List.replicate k us).flatten
 | 0=> .nil
 | k+1=>by
  rw[Zaq,Zaq,Zat,Zat];exact QK.append h (QK.rep h k)
theorem foldl_rep(its:List Value):∀(k:Nat) (acc:List Value),
  List.foldl (λx1 x2=>x1++x2) acc.toArray (List.replicate k its.toArray)=(acc++(List.replicate k its).flatten).toArray
 | 0,acc=>by simp
 | k+1,acc=>by
  have e:acc.toArray++its.toArray=(acc++its).toArray:=by simp
  have e2:(acc++its)++(List.replicate k its).flatten=acc++(List.replicate (k+1) its).flatten:=by
   rw[Zaq,Zat,Zbc]
  rw[← e2,← foldl_rep its k (acc++its),← e,Zaq,List.foldl_cons]
section
variable {X:Cx}{pins:List (Addr×Obj)}{σ:St}{H:Hp}{s:Shared}{l b:Addr}{xs ys zs:List V}
theorem Inv.QCH{its its':List Value}{n:Nat}{f:Array Value->Array Value}{t':Nat}(I:Inv X pins σ H s)(hH:H l=some (.lst xs))
  (e:s.heap.get? l=some {cls:= .type "list",data:= .seq its.toArray n}) (hf:f its.toArray=its'.toArray) (hv:QK ys its') (hz:ys.length<=sizeLine):
  Inv X pins σ (upd H l (.lst ys)) {s with heap:=s.heap.update l (Obj.mapSeq f),toks:=t'}:=by
 have q:=PySem.IsL.update e f;rw[hf]at q;refine I.write (x:=l) (e:=l) (by rw[hH];exact trivial) (.inl rfl) (λb' u hb hu=>(Heap.get?_update_other s.heap (Obj.mapSeq f) (Ne.symm hb)).trans hu) ⟨_,q⟩ ?_;exact⟨hz,its',_,hv,q⟩
theorem Inv.Qy2{its:List Value}{t':Nat}(I:Inv X pins σ H s)(hv:QK ys its)(hz:ys.length<=sizeLine):
  Inv X pins σ (upd H s.heap.objs.size (.lst ys)) {s with heap:=s.heap.push {cls:= .type "list",data:= .seq its.toArray},toks:=t'}:=
 I.laid (λ_ _ q=>Zb _ q) (Zi _) ⟨hz,its,0,hv,ZC _ rfl⟩
theorem Inv.fresh(I:Inv X pins σ H s):H s.heap.objs.size=none:=I.hok.fresh (Zi _)
theorem Inv.Qy0(I:Inv X pins σ H s)(hH:H l=some (.lst xs)):xs.length<=sizeLine/\∃(its:List Value) (n:Nat),QK xs its/\xs.length=its.length/\s.heap.get? l=some {cls:= .type "list",data:= .seq its.toArray n}:=by
 obtain⟨z,its,n,r,e⟩:=I.hok l _ hH;exact⟨z,its,n,r,r.length,e⟩
theorem Qv8{n:Nat}(h:n<=sizeLine):Builtin.List.listTooLong n=false:=by
 unfold Builtin.List.listTooLong;exact decide_eq_false ⋯
end
section
variable {X:Cx}
noncomputable def QqU:V->List V->Hp->VK->Prop:=λx vs H Q=>∃l xs y,x= .ref l/\vs=[y]/\H l=some (.lst xs)/\xs.length<sizeLine/\Q .non (upd H l (.lst (xs++[y])))
theorem Qnq:MtM X "list.append" QqU:=by
 intro pins s σ H x vs v us Q I rx rv h;obtain⟨l,xs,y,rfl,rfl,hH,hz,q⟩:=h;cases rx;obtain⟨u,rfl,ru⟩:=rv.one;obtain⟨z,its,n,r,hl,e⟩:=I.Qy0 hH;refine call_meets F.slot_list_append ⟨_,e,rfl⟩ F.entry_list_append (F.args_list_append_2 _ _) (PySem.list_append l its.toArray n u (by rw[Zx];omega)) ⟨e,?_⟩;refine⟨.non,_,I.QCH (its':=its++[u]) hH e (by simp) (r.append (.cons ru .nil)) ?_,rfl,q⟩;rw[Zy,ZbD];omega
theorem len_rep{α:Type}(xs:List α)(k:Nat):(List.replicate k xs).flatten.length=k*xs.length:=by
 induction k with
 | zero=>simp
 | succ k ih=>rw[Zaq,Zat,Zy,ih,Nat.succ_mul,Nat.add_comm]
end
section
variable {prog:Program}{w:World}{A:Around}{E:Value->Shared->Prop}{s:Shared}
end
section
variable {X:Cx}
end
end L2
namespace Att
open PySem PySem.W PySem.Calls PyProof.Rows
theorem QlF{P:Params}{h:Heap}:∀(ns:List Int) (vs:List Value),WellAll P h vs (ns.map WData.int)->IntsAre vs ns:=by
 intro ns
 induction ns with
 | nil=>
  intro vs w;rw[List.map_nil]at w;cases w;exact .nil
 | cons n ns ih=>
  intro vs w;rw[ZJ]at w;cases w with
  | cons a b=>
   cases a;exact .cons _ _ (ih _ b)
theorem QtV{l:OpenLaw}{n:Nat}(hn:l.most=some n){P:Params}{h:Heap}{args:List WData}{vals:List Value}
  (hpre:l.row.toRowW.claim.pre args=true) (hwl:WellAll P h vals args):
  ∃a vs ns,vals=[Value.ref a]/\args=[WData.list (ns.map WData.int)]/\h.get? a=some {cls:= .type "list",data:= .seq vs.toArray}/\IntsAre vs ns/\ns.length<=n:=by
 have hsh:WShape.hasAll [] args [.list .int]=true:=(pre_splitW hpre).1;have hc:l.pre.holds [] {args:=args}=true:=(pre_splitW hpre).2;obtain⟨d,r,rfl,h1,h2⟩:=hasAllW_cons hsh;obtain rfl:=hasAllW_nil h2;obtain⟨xs,rfl,h3⟩:=hasW_list h1;obtain⟨ns,rfl⟩:=items_int h3;have hlen:ns.length<=n:=by
  unfold OpenLaw.pre at hc;have h4:(WTm.not (.lt (.lit (.int (n:Int))) (.len (.arg 0)))).holds [] {args:=[.list (ns.map .int)]}=true:=by
   have h4:=(holds_andW hc).1;rw[hn]at h4;exact h4
  have h5:=condW_of h4 (w_not (w_lt w_lit (w_len_list (w_arg rfl))));rw[Zn]at h5;refine Nat.le_of_not_lt λq=>?_;have q':(n:Int)<((ns.length:Nat):Int):= ⋯
  first
   | (rw[decide_eq_true q']at h5;exact absurd h5 (by decide))
   | (simp at h5;omega)
 cases hwl with
 | cons w1 w2=>
  cases w2;cases w1 with
  | list ho hall=>exact⟨_,_,ns,rfl,rfl,ho,QlF ns _ hall,hlen⟩
theorem Qtz(l:OpenLaw)(args:List WData):l.row.toRowW.claim.post args (.bool true) args=true:=
 postW_of (r:=l.row.toRowW) (X:=(true == true))
  (show WShape.has [] (.bool true) .bool=true by first | rfl | decide | simp[WShape.has,WShape.arms,WShape.armsAll])
  (show(WTm.eq .res (.lit (.bool true))).value [] {args:=args,res:=some (.bool true),after:=args}=some (.bool (true == true))from w_eq_bool (w_res rfl) w_lit) rfl
section
variable {prog:Program}{w:World}{A:Around}{E:Value->Shared->Prop}{s:Shared}{K:Frag}
end
end Att
namespace L2
open PySem PySem.Spec PyProof.Rows
theorem QbR:∀{vs:List Value}{ns:List Int},IntsAre vs ns->QK (ns.map V.int) vs
 | _,_,.nil=> .nil
 | _,_,.cons n t h=> .cons ⟨t,rfl⟩ (QbR h)
def QAI(H:Hp):Prop:=∀b,H b=none∨∃o xs,H b=some (.frz o (.lst xs))
theorem QvS{P:Program}{w:World}{K:Fgg}{mg mb:Str->Option Value}{CX:CXT}{k:Nat}{fa a:Addr}{fd:FuncData}{x:Str}{sp:Sp}{s₁:Shared}{vs:List Value}{ns:List Int}
  (KX:K.In s₁.heap) (hns:s₁.heap.Ns mainGlobals mg) (hb:s₁.heap.Ns builtinsNs mb) (hbb:∀x:Str,x≠ "__name__" ->mb x=bootBuiltins x) (hlim:s₁.heap.NoLimit) (hg:s₁.gens= #[])
  (ha:s₁.heap.get? a=some {cls:= .type "list",data:= .seq vs.toArray}) (hi:IntsAre vs ns) (hl:ns.length<=sizeLine) (hr:Qbf k callerA)
  (F:∀base:Heap,K.In base->base.Ns mainGlobals mg->Qcs P w K mg base CX k fa fd [x] sp) (hbind:∀(s:Shared) (u:Value),BindsTo s fd ⟨[u],[]⟩ [(x,u)])
  (hsp:∀H:Hp,QAI H->SqL K H a (ns.map V.int)->sp [.ref a] H (λv _=>v= .bl true) λ_ _ _=>False)
  (hCX:∀H e s',CX [] H s₁ (λ_ _ _=>False) e s'->False):
  codeAny (model P w) callerA (.call (.ref fa) ⟨[.ref a],[]⟩) (λr s'=>r= .ok (.ret (.bool true))/\OldK s₁.heap s'.heap/\s'.os=s₁.os/\AllBare s'.gens) s₁:=by
 have rv:=QbR hi;have lenV:=hi.length
 have core:∀H:Hp,QAI H->SqL K H a (ns.map V.int)->HOk P w H s₁.heap->(∀b,H b≠none->b=a)->(H a≠none->K.lookup a=none)→
   codeAny (model P w) callerA (.call (.ref fa) ⟨[.ref a],[]⟩) (λr s'=>r= .ok (.ret (.bool true))/\OldK s₁.heap s'.heap/\s'.os=s₁.os/\AllBare s'.gens) s₁:=by
  intro H hO hS hok hA hK;have base_of:∀{b:Addr}{o:Obj},s₁.heap.get? b=some o->H b=none->(Qib s₁.heap H).get? b=some o:=λe n=>QuL e n;have noA:∀{b:Addr}{o:Obj}{es:Array DictEntry}{ep:Nat},s₁.heap.get? b=some o->o.data= .dict es ep->H b=none:=λ{b o es ep} e d=>by
   cases q:H b with
   | none=>rfl
   | some u=>
    have e':b=a:=hA b (by rw[q];simp);subst e';rw[ha]at e;cases e;have d':Data.seq vs.toArray _=Data.dict es ep:=d;cases d'
  have nsK:∀{b:Addr}{m:Str->Option Value},s₁.heap.Ns b m->(Qib s₁.heap H).Ns b m:=λ{b m} ⟨o,es,ep,e,d,r⟩=>⟨o,es,ep,base_of e (noA e d),d,r⟩;have hKb:K.In (Qib s₁.heap H):=λb o e=>base_of (KX b o e) (by
   cases q:H b with
   | none=>rfl
   | some u=>
    have e':b=a:=hA b (by rw[q];simp);subst e';rw[hK (by rw[q];simp)]at e;cases e)
  have hM:Mod K mg (Qib s₁.heap H):=⟨hKb,nsK hns,⟨mb,nsK hb,hbb⟩,let ⟨mc,h1,h2⟩:=hlim;⟨mc,nsK h1,h2⟩⟩;have e0:Qr0 P w K mg (Qib s₁.heap H) callerA [] s₁ H:=⟨rfl,hM,λb o e=>QwZ e,Nat.le_of_eq (QtP _ _),trivial,λb hb=>absurd (show b∈([]:LAd)from hb) (by simp),hok,.of_eq hg⟩;refine codeAny_mono ((F _ hKb (nsK hns)).run callerA [] s₁ H ⟨[.ref a],[]⟩ [.ref a] [.ref a] _ _ hr e0 (hbind s₁ (.ref a)) (.cons rfl .nil) (hsp H hO hS)) λr s' h=>?_;cases r with
  | error e=>exact(hCX H e s' h).elim
  | ok fl=>
   cases fl with
   | next=>exact False.elim h
   | brk=>exact False.elim h
   | cont=>exact False.elim h
   | ret u=>
    obtain⟨v,H',os,bare,un,hok',r',q⟩:=h;have q':v= .bl true:=q;subst q';obtain rfl:u=Value.bool true:=r';refine⟨rfl,OldK.of_keep λb o e=>?_,os,bare⟩;cases q:H b with
    | none=>exact un.keep b o e q (by intro z;exact absurd (show b∈([]:LAd)from z) (by simp)) (by simp)
    | some u=>
     rcases hO b with z | ⟨ob,xs,z⟩
     ·rw[q]at z;cases z
     ·have z2:=un.frzs b ob _ z;obtain⟨e1,_⟩:=hok b _ z;obtain⟨e2,_⟩:=hok' b _ z2;rw[e]at e1;cases e1;exact e2
 cases hk:K.lookup a with
 | some o=>
  have e:=KX a o hk;rw[ha]at e;cases e;refine core (λ_=>none) (λ_=> .inl rfl) (.inr ⟨_,vs.toArray,_,hk,rfl,rfl,rfl,by rw[Zx,lenV];exact hl,by simpa using rv⟩) (λb u z=>by have z':(none:Option HO)=some u:=z;cases z') (λb z=>absurd rfl z) λz=>absurd rfl z
 | none=>
  refine core (λb=>if b=a then some (.frz {cls:= .type "list",data:= .seq vs.toArray} (.lst (ns.map V.int)))else none) (λb=>?_) (.inl (.inr ⟨{cls:= .type "list",data:= .seq vs.toArray},if_pos rfl⟩)) (λb u z=>?_) (λb z=>?_) λ_=>hk
  ·by_cases hb:b=a
   ·exact .inr ⟨_,_,if_pos hb⟩
   ·exact .inl (if_neg hb)
  ·by_cases hb:b=a
   ·have z':=(if_pos hb).symm.trans z;cases z';subst hb;exact⟨ha,by rw[Zn];exact hl,vs,_,rv,ha⟩
   ·have z':=(if_neg hb).symm.trans z;cases z'
  ·by_cases hb:b=a
   ·exact hb
   ·exact absurd (if_neg hb) z
noncomputable abbrev KOf{K:Fgg}{h:Heap}(_:K.In h):PySem.W.Frag:=K
noncomputable def Qfy(s:Stmt):Arguments:=match s with
 | .FunctionDef _ a _ _ _ _ _ _ _ _=>a
 | _=>{posonlyargs:=[],args:=[],vararg:=none,kwonlyargs:=[],kw_defaults:=[],kwarg:=none,defaults:=[]}
noncomputable def Qa5(s:Stmt):List Stmt:=match s with
 | .FunctionDef _ _ b _ _ _ _ _ _ _=>b
 | _=>[]
noncomputable def Qv(s:Stmt):Scope:=match s with
 | .FunctionDef _ _ _ _ _ _ sc _ _ _=>sc
 | _=>{kind:= .function,names:=[],isGenerator:=false,isCoroutine:=false}
noncomputable abbrev CX0:CXT:=λ_ _ _ _ _ _=>False
noncomputable abbrev E0:XK:=λ_ _ _=>False
theorem Qwv{X:Cx}:QlV CX0 X E0:=λ_ _ _ _ _ _ _ h=>h.elim
structure Fun (K:Fgg) (x qual:Str) (st:Stmt) (f:Addr) (fd:FuncData):Prop where
 ex:∃(oc:Value) (od:Option Addr) (kV doc pm:Value) (an:Option Addr) (cdv ct:Value) (osl:Array (Option Value)),
  fd=PySem.W.fnOf x qual (Qfy st) (Qa5 st) (Qv st) .none kV doc pm an cdv ct/\K.lookup f=some ⟨oc,od,.func fd,osl⟩/\PySem.W.codeIn K cdv qual=true
 kp:PySem.W.keepIn K (.ref f)=true
section
variable {P:Program}{w:World}{K:Fgg}{mg:Str->Option Value}{base:Heap}
theorem Fun.ok{x qual:Str}{st:Stmt}{f:Addr}{fd:FuncData}{N ps:List Str}{k:Nat}{sp:Sp}(F:Fun K x qual st f fd)(S:Qb8 N ps (Qv st))(len:∀vs H Q E,sp vs H Q E->vs.length=ps.length)
  (hbody:∀(cdv:Value) (A:Around) (outer:List Env) (s:Shared) (H:Hp) (vs:List V) (Q:VK) (E:XK),Qbf k (A.deeper (envOfC qual (Qv st) s.heap.objs.size f cdv))->sp vs H Q E→
   ∃t,PSs (Qfg CX0 P w K mg base N qual (Qv st) f cdv A outer s H E).nox (Qa5 st) t/\t {nx:=λ_ H'=>Q .non H',rt:=Q} (start N vs) H):Qcs P w K mg base CX0 (k+1) f fd ps sp:=by
 obtain⟨oc,od,kV,doc,pm,an,cdv,ct,osl,rfl,lk,hcd⟩:=F.ex;refine QwL lk hcd S len λA outer s H vs Q E hr hsp=>?_;obtain⟨t,h,q⟩:=hbody cdv A outer s H vs Q E hr hsp;exact⟨t,h.nox,q⟩
theorem Fun.binds{x qual:Str}{st:Stmt}{f:Addr}{fd:FuncData}{ps:List Str}(F:Fun K x qual st f fd)
  (h:∀(kV doc pm:Value) (an:Option Addr) (cdv ct:Value) (us:List Value),us.length=ps.length->bindArgs (PySem.W.fnOf x qual (Qfy st) (Qa5 st) (Qv st) .none kV doc pm an cdv ct) ⟨us,[]⟩=pure (ps.zip us)):Binds K fd ps []:=by
 obtain⟨oc,od,kV,doc,pm,an,cdv,ct,osl,rfl,lk,hcd⟩:=F.ex;exact .all (h kV doc pm an cdv ct)
theorem QAe{x qual:Str}{st:Stmt}{f:Addr}{oc:Value}{od an:Option Addr}{osl:Array (Option Value)}{kV doc pm cdv ct:Value}(l:K.lookup f=some ⟨oc,od,.func (PySem.W.fnOf x qual (Qfy st) (Qa5 st) (Qv st) .none kV doc pm an cdv ct),osl⟩)
  (c:PySem.W.codeIn K cdv qual=true) (k:PySem.W.keepIn K (.ref f)=true):Fun K x qual st f (PySem.W.fnOf x qual (Qfy st) (Qa5 st) (Qv st) .none kV doc pm an cdv ct):=⟨⟨oc,od,kV,doc,pm,an,cdv,ct,osl,rfl,l,c⟩,k⟩
end
section
variable {X:Cx}
end
theorem QrH{A B:Prop}(h:B):if false=true then A else B:=by
 rw[if_neg Zak];exact h
theorem Qsp{A B:Prop}(h:A):if true=true then A else B:=by
 rw[if_pos rfl];exact h
def QQ(H H':Hp):Prop:=∀b o,H b=some o->H' b=some o
theorem QQ.refl(H:Hp):QQ H H:=λ_ _ h=>h
theorem QQ.trans{H H1 H2:Hp}(a:QQ H H1)(b:QQ H1 H2):QQ H H2:=λc o h=>b c o (a c o h)
theorem QQ.free{H H':Hp}(e:QQ H H'){l:Addr}(h:H' l=Option.none):H l=Option.none:=by
 cases q:H l with
 | none=>rfl
 | some o=>
  rw[e l o q]at h;cases h
theorem QmM(env:Env)(body:Str×NameKind->List (Str×Addr)->Sem (ForInStep (List (Str×Addr))))
  (hb:∀n k cs,body (n,k) cs=if(k == NameKind.free)=true then(do let c ← cellOf env n;pure (ForInStep.yield ((n,c)::cs)))else pure (ForInStep.yield cs)):
  ∀(names:List (Str×NameKind)) (acc:List (Str×Addr)),(∀y∈names,y.2= .free->∃c,env.cells.lookup y.1=some c)->(∀x c,acc.lookup x=some c->env.cells.lookup x=some c)→
   ∃cl,forIn names acc body=(pure cl:Sem _)/\(∀x c,cl.lookup x=some c->env.cells.lookup x=some c)/\(∀x,acc.lookup x≠none->cl.lookup x≠none)/\∀y∈names,y.2= .free->cl.lookup y.1≠none
 | [],acc,_,ha=>⟨acc,rfl,ha,λ_ h=>h,λy hy=>by simp at hy⟩
 | (n,k)::r,acc,hn,ha=>by
  rw[Zcn,hb];have hr:∀y∈r,y.2= .free->∃c,env.cells.lookup y.1=some c:=λy hy=>hn y (Zc _ hy);by_cases hk:k= .free
  ·subst hk;obtain⟨c,hc⟩:=hn (n,.free) Zl rfl;have hce:cellOf env n=pure c:=by unfold cellOf;rw[show env.cells.lookup n=some c from hc]
   rw[if_pos (by rfl),hce];obtain⟨cl,e,h1,h2,h3⟩:=QmM env body hb r ((n,c)::acc) hr (λx c' e=>by
    rw[Zw]at e;cases q:x == n with
    | true=>rw[q]at e;cases e;rw[beq_iff_eq]at q;rw[q];exact hc
    | false=>rw[q]at e;exact ha x c' e)
   have hcons:∀x,((n,c)::acc).lookup x≠none->cl.lookup x≠none:=h2;refine⟨cl,by simpa using e,h1,λx hx=>hcons x ?_,λy hy hf=>?_⟩
   ·rw[Zw];cases x == n with
    | true=>simp
    | false=>exact hx
   ·rcases Zj.mp hy with rfl | hy
    ·exact hcons _ (by simp[Zw])
    ·exact h3 y hy hf
  ·rw[if_neg (by simpa using hk)];obtain⟨cl,e,h1,h2,h3⟩:=QmM env body hb r acc hr ha;refine⟨cl,by simpa using e,h1,h2,λy hy hf=>?_⟩;rcases Zj.mp hy with rfl | hy
   ·exact absurd hf hk
   ·exact h3 y hy hf
theorem QxY(h:∀y∈scope.names,y.2= .free->∃c,env.cells.lookup y.1=some c):
  ∃cl,closureFor scope env=pure cl/\(∀x c,cl.lookup x=some c->env.cells.lookup x=some c)/\∀y∈scope.names,y.2= .free->∃c,cl.lookup y.1=some c:=by
 unfold closureFor;obtain⟨cl,e,h1,_,h3⟩:=QmM env (λx cs=>match x with | (name,kind)=>if(kind == NameKind.free)=true then(do let c ← cellOf env name;pure (ForInStep.yield ((name,c)::cs)))else pure (ForInStep.yield cs)) (λ_ _ _=>rfl) scope.names [] h (λx c e=>by simp at e);refine⟨cl,?_,h1,λy hy hf=>Option.ne_none_iff_exists'.mp (h3 y hy hf)⟩;show(forIn scope.names [] _ >>= λr=>pure r)=_;rw[e];rfl
noncomputable def cxc(X:Cx)(N':List Str)(scope:Scope)(cl:List (Str×Addr))(C:Addr)(fp:LAd)(s3:Shared)(H3:Hp):Cx:=
 {X with N:=N',s₀:=s3,H₀:=H3,env:=compEnvC scope cl C X.env,outer:=X.stack,ex:=fp,fn:=λx=>decide (scope.names.lookup x=some .cell),pn:=[],xe:=λ_ _=>False}
def PTs(X:Cx)(ifs:List Expr)(t:TT):Prop:=
 ∀(pins:List (Addr×Obj)) (s:Shared) (σ:St) (H:Hp) (Q:Bool->Hp->Prop),Inv X pins σ H s->t σ H Q→
  wpAny (model X.prog X.w) X.A (forIn ifs true λc r=>if r=true then do let ok ← isTrue c X.env (eval c X.env);pure (ForInStep.yield ok)else pure (ForInStep.yield r)) (TP X pins σ Q) X.xe s
noncomputable def QCk:TT:=λ_ H Q=>Q true H
theorem QyC:PTs X [] QCk:=λ_ _ _ H _ I h=>wpAny_tests_nil ⟨H,I,h⟩
theorem Qyd(h:PT X c t):PTs X [c] t:=λpins s σ H Q I q=>wpAny_tests_one (h pins s σ H Q I q)
def Qk5(X:Cx)(N':List Str)(scope:Scope)(σ σ':St):Prop:=
 σ'.length=N'.length/\∀(j:Nat) (x:Str) (v:V),N'[j]? =some x->σ'[j]? =some (some v)->scope.names.lookup x=some .free/\∃i:Nat,X.N[i]? =some x/\σ[i]? =some (some v)/\(X.env.kindOf x=some .cell∨X.env.kindOf x=some .free)
noncomputable def Qoc(wi:TI)(cap:St->St->Prop)(g:TG)(tc:TT)(te:TE):TE:=λσ H Q=>wi σ H λJ H1=>∃σc,cap σ σc/\∀D,H1 D=none->∃W:Nat->Nat->List V->Hp->Prop,
 (∃m,W 0 m [] (upd H1 D (.lst [])))/\∀i m acc H2,W i m acc H2->(J.stop i H2/\Q (.ref D) H2)∨
  (J.go i H2/\∀x H3,J.yld i H2 x H3->g x σc H3 λσ2 H4=>(∀(j:Nat) v,σc[j]? =some (some v)->σ2[j]? =some (some v))/\tc σ2 H4 λb H5=>if b=true then
   te σ2 H5 λy H6=>H6 D=some (.lst acc)/\acc.length<sizeLine/\∃m',m'<m/\W (i+1) m' (acc++[y]) (upd H6 D (.lst (acc++[y])))
   else ∃m',m'<m/\W (i+1) m' acc H5)
theorem QcF{env:Env}:∀{names:List (Str×NameKind)}{x:Str},names.lookup x=some .free→
  (names.map λ(n,k)=>if(k == NameKind.free && env.scope.kind == .function && env.kindOf n == some .cell)then(n,NameKind.cell)else(n,k)).lookup x=some .cell∨
  (names.map λ(n,k)=>if(k == NameKind.free && env.scope.kind == .function && env.kindOf n == some .cell)then(n,NameKind.cell)else(n,k)).lookup x=some .free
 | [],_,h=>by simp at h
 | (n,k)::r,x,h=>by
  have ih:= @QcF env r x;rw[ZJ];cases hx:x == n with
  | true=>
   simp only[Zw,hx]at h;cases h;dsimp only;split
   ·left;simp[Zw,hx]
   ·right;simp[Zw,hx]
  | false=>
   simp only[Zw,hx]at h;dsimp only;split
   ·simp only[Zw,hx];exact ih h
   ·simp only[Zw,hx];exact ih h
theorem QeS{env:Env}:∀{names:List (Str×NameKind)}{x:Str},
  ((names.map λ(n,k)=>if(k == NameKind.free && env.scope.kind == .function && env.kindOf n == some .cell)then(n,NameKind.cell)else(n,k)).lookup x=some .cell∨
  (names.map λ(n,k)=>if(k == NameKind.free && env.scope.kind == .function && env.kindOf n == some .cell)then(n,NameKind.cell)else(n,k)).lookup x=some .free)→
  ∃k,(x,k)∈names/\(k= .free∨k= .cell)
 | [],_,h=>by simp at h
 | (n,k)::r,x,h=>by
  have ih:= @QeS env r x;rw[ZJ]at h;cases hx:x == n with
  | true=>
   have hn:x=n:=by simpa using hx
   subst hn;dsimp only at h;split at h
   ·rename_i hc;simp only[Zm]at hc;refine⟨k,Zl,.inl (by simpa using hc.1.1)⟩
   ·simp only[Zw,hx]at h;refine⟨k,Zl,?_⟩;rcases h with h | h
    ·exact .inr (Option.some.inj h)
    ·exact .inl (Option.some.inj h)
  | false=>
   dsimp only at h;have:∃k,(x,k)∈r/\(k= .free∨k= .cell):=by
    apply ih;split at h
    ·simpa only[Zw,hx]using h
    ·simpa only[Zw,hx]using h
   obtain⟨k',h1,h2⟩:=this;exact⟨k',Zc _ h1,h2⟩
theorem Qhr:∀(names:List (Str×NameKind)) (n:Nat) (acc:List (Str×Addr)) (x:Str) (c:Addr),(cellsFrom n names acc).lookup x=some c->acc.lookup x=some c∨(n<=c/\(x,NameKind.cell)∈names)
 | [],_,_,_,_,h=> .inl h
 | (nm,k)::r,n,acc,x,c,h=>by
  unfold cellsFrom at h;split at h
  ·rename_i hk;have hk:k= .cell:=by simpa using hk
   rcases Qhr r (n+1) ((nm,n)::acc) x c h with h | ⟨h1,h2⟩
   ·rw[Zw]at h;cases q:x == nm with
    | true=>
     rw[q]at h;cases h;have:x=nm:=by simpa using q
     exact .inr ⟨Zi _,by rw[this,hk];exact Zl⟩
    | false=>rw[q]at h;exact .inl h
   ·exact .inr ⟨⋯,Zc _ h2⟩
  ·rcases Qhr r n acc x c h with h | ⟨h1,h2⟩
   ·exact .inl h
   ·exact .inr ⟨h1,Zc _ h2⟩
theorem Qpr:∀(names:List (Str×NameKind)) (n:Nat) (acc:List (Str×Addr)) (x:Str) (c:Addr),(x,NameKind.cell)∈names->(cellsFrom n names acc).lookup x=some c->n<=c
 | (nm,k)::r,n,acc,x,c,hm,h=>by
  unfold cellsFrom at h;split at h
  ·by_cases hr:(x,NameKind.cell)∈r
   ·have:=Qpr r (n+1) _ x c hr h;omega
   ·have hx:x=nm:=by
     rcases Zj.mp hm with e | e
     ·exact(Prod.mk.inj e).1
     ·exact absurd e hr
    rcases Qhr r (n+1) ((nm,n)::acc) x c h with h | ⟨h1,_⟩
    ·rw[Zw,show(x == nm)=true by simpa using hx]at h;cases h;exact Zi _
    ·omega
  ·rename_i hk;rcases Zj.mp hm with e | e
   ·exact absurd (by rw[← (Prod.mk.inj e).2];rfl) hk
   ·exact Qpr r n acc x c e h
theorem QoG:∀(names:List (Str×NameKind)) (n:Nat) (acc:List (Str×Addr)),(∀x y c,acc.lookup x=some c->acc.lookup y=some c->x=y)->(∀x c,acc.lookup x=some c->c<n)→
  ∀x y c,(cellsFrom n names acc).lookup x=some c->(cellsFrom n names acc).lookup y=some c->x=y
 | [],_,_,hi,_,x,y,c,h1,h2=>hi x y c h1 h2
 | (nm,k)::r,n,acc,hi,hb,x,y,c,h1,h2=>by
  unfold cellsFrom at h1 h2;split at h1
  ·rename_i hk;rw[if_pos hk]at h2;refine QoG r (n+1) ((nm,n)::acc) (λx y c h1 h2=>?_) (λx c h=>?_) x y c h1 h2
   ·rw[Zw]at h1 h2;cases qx:x == nm with
    | true=>
     rw[qx]at h1;cases h1;cases qy:y == nm with
     | true=>rw[show x=nm by simpa using qx,show y=nm by simpa using qy]
     | false=>rw[qy]at h2;exact absurd (hb y _ h2) (ZY _)
    | false=>
     rw[qx]at h1;cases qy:y == nm with
     | true=>rw[qy]at h2;cases h2;exact absurd (hb x _ h1) (ZY _)
     | false=>rw[qy]at h2;exact hi x y c h1 h2
   ·rw[Zw]at h;cases qx:x == nm with
    | true=>rw[qx]at h;cases h;exact Zbh _
    | false=>rw[qx]at h;exact ZaT (hb x c h)
  ·rename_i hk;rw[if_neg hk]at h2;exact QoG r n acc hi hb x y c h1 h2
theorem Qhh:∀(names:List (Str×NameKind)) (n:Nat) (acc:List (Str×Addr)) (x:Str),(∃c,acc.lookup x=some c)->∃c,(cellsFrom n names acc).lookup x=some c
 | [],_,_,_,h=>h
 | (nm,k)::r,n,acc,x,h=>by
  unfold cellsFrom;split
  ·refine Qhh r (n+1) _ x ?_;rw[Zw];cases x == nm with
   | true=>exact⟨n,rfl⟩
   | false=>exact h
  ·exact Qhh r n acc x h
theorem Qpq:∀(names:List (Str×NameKind)) (n:Nat) (acc:List (Str×Addr)) (x:Str),(x,NameKind.cell)∈names->∃c,(cellsFrom n names acc).lookup x=some c
 | (nm,k)::r,n,acc,x,hm=>by
  unfold cellsFrom;rcases Zj.mp hm with e | e
  ·obtain⟨e1,e2⟩:=Prod.mk.inj e;subst e1;rw[← e2,if_pos (by rfl)];exact Qhh r (n+1) _ x ⟨n,by simp[Zw]⟩
  ·split
   ·exact Qpq r (n+1) _ x e
   ·exact Qpq r n acc x e
theorem Qnc(lo:Nat):∀(names:List (Str×NameKind)) (h:Heap) (acc:List (Str×Addr)),(∀x c,acc.lookup x=some c->lo<=c->h.IsCell c none)->lo<=h.objs.size→
  ∀x c,(cellsFrom h.objs.size names acc).lookup x=some c->lo<=c->(pushCells h names).IsCell c none
 | [],_,_,ha,_,x,c,e,hl=>ha x c e hl
 | (nm,k)::r,h,acc,ha,hlo,x,c,e,hl=>by
  unfold cellsFrom at e;unfold pushCells;split at e
  ·rename_i hk;rw[if_pos hk];have hs:=Zar h {cls:= .type "cell",data:= .cell none};refine Qnc lo r (h.push {cls:= .type "cell",data:= .cell none}) ((nm,h.objs.size)::acc) (λx c e hl=>?_) (by rw[hs];omega) x c (by rw[hs];exact e) hl;rw[Zw]at e;cases q:x == nm with
   | true=>rw[q]at e;cases e;exact⟨_,ZC _ rfl,rfl⟩
   | false=>rw[q]at e;exact(ha x c e hl).keeps λb o e=>Zb _ e
  ·rename_i hk;rw[if_neg hk];exact Qnc lo r h acc ha hlo x c e hl
theorem Qr2
  (hQ:∀h':Heap,h'.Ns s.heap.objs.size (λ_=>none)->(∀b o,s.heap.get? b=some o->h'.get? b=some o)->((∀x c,cl.lookup x=some c->c<s.heap.objs.size)->∀x c,(cellsFrom (s.heap.objs.size+1) scope.names cl).lookup x=some c->s.heap.objs.size+1<=c->h'.IsCell c none)→
   Q (newEnv scope s.heap.objs.size globals (cellsFrom (s.heap.objs.size+1) scope.names cl) qual none .none (some env) builtins) {s with heap:=h'}):
  wpAny M A (newFunctionEnv scope globals cl [] qual none .none (some env) builtins) Q E s:=by
 simp only[newFunctionEnv,Option.isSome_some,if_true];refine wpAny_bind (wpAny_alloc ?_);refine wpAny_bind (wpAny_layCells _ (λname kind cells=>by cases hkc:kind == NameKind.cell<;>simp[hkc]) _ _ _ _ ?_);have hs:=Zar s.heap {cls:= .type "dict",data:= .dict #[]};rw[show({s with heap:=s.heap.push {cls:= .type "dict",data:= .dict #[]}}:Shared).heap.objs.size=s.heap.objs.size+1 from hs];refine wpAny_bind (wpAny_pure (wpAny_pure ?_));refine hQ _ ((Heap.Ns.new s.heap (.type "dict")).keeps (pushCells_keeps _ _)) (λb o e=>pushCells_keeps _ _ b o (Zb _ e)) λhb x c e hl=>?_;refine Qnc (s.heap.objs.size+1) scope.names (s.heap.push {cls:= .type "dict",data:= .dict #[]}) cl (λx c e hl=>?_) (by rw[hs];exact Zi _) x c (by rw[hs];exact e) hl;exact absurd (Zp (hb x c e) (Zt (ZbG _) hl)) (ZY _)
section
variable {X:Cx}{tg iter elt:Expr}{ifs:List Expr}{scope:Scope}{N':List Str}{pos:Pos}
structure Qe0 (X:Cx) (N':List Str) (scope:Scope):Prop where
 kind:scope.kind= .function
 own:∀y∈scope.names,y.2= .cell->scope.names.lookup y.1=some .cell
 loc:∀y∈scope.names,y.2= .local ->scope.names.lookup y.1=some .local
 free:∀y∈scope.names,y.2= .free->X.env.kindOf y.1=some .cell∨X.env.kindOf y.1=some .free
theorem QvA{pins:List (Addr×Obj)}{σ σc:St}{H3:Hp}{s3:Shared}{fp:LAd}{cl:List (Str×Addr)}{h':Heap}{tk:Nat}(S:Qe0 X N' scope)(I:Inv X pins σ H3 s3)
  (hf:∀b∈fp,QdO X pins H3 b) (hfl:∀b∈fp,b<s3.heap.objs.size) (hc1:∀x c,cl.lookup x=some c->X.env.cells.lookup x=some c) (hc2:∀y∈scope.names,y.2= .free->∃c,cl.lookup y.1=some c) (cap:Qk5 X N' scope σ σc)
  (hns:h'.Ns s3.heap.objs.size (λ_=>none)) (hk:∀b o,s3.heap.get? b=some o->h'.get? b=some o)
  (hown:(∀x c,cl.lookup x=some c->c<s3.heap.objs.size)->∀x c,(cellsFrom (s3.heap.objs.size+1) scope.names cl).lookup x=some c->s3.heap.objs.size+1<=c->h'.IsCell c none):
  Inv (cxc X N' scope (cellsFrom (s3.heap.objs.size+1) scope.names cl) s3.heap.objs.size fp s3 H3) [] σc H3 {s3 with heap:=h',toks:=tk}:=by
 have nold:∀b,b∈fp->b≠s3.heap.objs.size:=λb hb e=>absurd (hfl b hb) (by rw[e];exact ZY _);have cellOld:∀x c,cl.lookup x=some c->∃v,s3.heap.IsCell c v:=λx c e=>I.cell x c (hc1 x c e);have cellLt:∀x c,cl.lookup x=some c->c<s3.heap.objs.size:=λx c e=>let ⟨v,q⟩:=cellOld x c e;q.lt;have cellNew:∀c v,s3.heap.IsCell c v->h'.IsCell c v:=λc v ⟨o,ho,hd⟩=>⟨o,hk c o ho,hd⟩;have hown:=hown cellLt;have look:∀x c,(cellsFrom (s3.heap.objs.size+1) scope.names cl).lookup x=some c->cl.lookup x=some c∨(s3.heap.objs.size+1<=c/\(x,NameKind.cell)∈scope.names):=Qhr scope.names _ cl
 refine⟨⟨I.ok.mod,S.kind,I.ok.glob,I.ok.blt,Zi _,QoG scope.names _ cl (λx y c h1 h2=>I.ok.inj x y c (hc1 x c h1) (hc1 y c h2)) (λx c e=>ZaT (cellLt x c e)),λx hx=>?_,λx c e1 e2=>?_,I.ok.hd,I.ok.frames,.inl rfl,λb hb=>⟨nold b hb,λx c e=>?_⟩,
  I.bs,Zt I.ok.bsz I.sz,λb o e hb=>?_,λb hb hs=>?_,I.stack,I.Qni⟩,rfl,I.bare,Un.kept hk,⟨_,hns,λj x v h1 h2 h3=>?_⟩,λx c e=>?_,I.hok.fresh (Zi _),λx c e=>?_,λp hp=>absurd (show p∈([]:List (Addr×Obj))from hp) (by simp),I.hok.kept hk,cap.1⟩
 ·obtain⟨k,hm,hk'⟩:=QeS hx;rcases hk' with rfl | rfl
  ·exact Qhh scope.names _ cl x (hc2 _ hm rfl)
  ·exact Qpq scope.names _ cl x hm
 ·have e1:decide (scope.names.lookup x=some .cell)=true:=e1;have:=Qpr scope.names _ cl x c (Zap (of_decide_eq_true e1)) e2;exact Zt (ZbG _) this
 ·rcases look x c e with e | ⟨e,_⟩
  ·exact(hf b hb).2.2.2.2.1 x c (hc1 x c e)
  ·intro z;rw[z]at e;exact absurd (Zp (hfl b hb) (Zt (ZbG _) e)) (ZY _)
 ·rcases(hf b hb).2.2.2.1 with z | z
  ·exact I.ok.noex b o e z
  ·exact absurd (Zp (Zs e) (Zt I.ok.bsz z)) (ZY _)
 ·rcases Zj.mp (I.QfS b hs)with e | z
  ·exact(hf b hb).2.1 e
  ·exact(hf b hb).2.2.1 z
 ·obtain⟨hl,i,e1,e2,e3⟩:=cap.2 j x v h1 h2;obtain⟨m,hn,look'⟩:=I.loc;obtain⟨u,r,l⟩:=look' i x v e1 e2 (e3.elim (λz=> .inr (.inl z)) λz=> .inr (.inr z));refine⟨u,r,.inr ⟨QcF hl,?_⟩⟩;rcases l with⟨k,_⟩ | ⟨_,c,ec,hcell⟩
  ·rcases e3 with z | z<;>(rw[k]at z;cases z)
  ·obtain⟨c',ec'⟩:=Qhh scope.names (s3.heap.objs.size+1) cl x (hc2 (x,.free) (Zap hl) rfl);rcases look x c' ec' with q | ⟨_,q⟩
   ·have:=hc1 x c' q;rw[ec]at this;cases this;exact⟨c,ec',cellNew c _ hcell⟩
   ·have:=S.own _ q rfl;rw[hl]at this;cases this
 ·rcases look x c e with q | ⟨q,_⟩
  ·obtain⟨v,q⟩:=cellOld x c q;exact⟨v,cellNew c v q⟩
  ·exact⟨none,hown x c e q⟩
 ·rcases look x c e with q | ⟨q,_⟩
  ·exact I.freeC x c (hc1 x c q)
  ·exact I.hok.fresh ⋯
theorem Quh(J:Nat->Shared->Prop)
  (turn:∀n s,J n s->wpAny (model prog w) A (pyNext it) (λr s1=>match r with
   | none=>R (.ok .next) s1
   | some v=>wpAny (model prog w) A (letOwnedTupleGo tg it v) (λ_ s2=>wpAny (model prog w) A (assign tg env v) (λ_ s3=>
     wpAny (model prog w) A (forIn ifs true λc r=>if r=true then do let ok ← isTrue c env (eval c env);pure (ForInStep.yield ok)else pure (ForInStep.yield r)) (λok s4=>
      if ok=true then wpAny (model prog w) A (eval elt env) (λx s5=>wpAny (model prog w) A (call (.builtin "list.append") [acc,x]) (λ_ s6=>∃m,m<n/\J m s6) (λ_ _=>False) s5) (λ_ _=>False) s4
      else ∃m,m<n/\J m s4) (λ_ _=>False) s3) (λ_ _=>False) s2) (λ_ _=>False) s1) (λ_ _=>False) s)
  (n:Nat) (h:J n s0):codeAny (model prog w) A (.compLoop (.ListComp elt [⟨tg,iter,ifs,0⟩] scope pos) 0 it acc env) R s0:=by
 have up:∀{α:Type}{t:Sem α}{Q:α->Shared->Prop}{E:Value->Shared->Prop}{s:Shared},wpAny (model prog w) A t Q (λ_ _=>False) s->wpAny (model prog w) A t Q E s:=λh=>wpAny_mono h (λ_ _ q=>q) λ_ _ f=>f.elim;refine codeAny_loop (by rfl) J (λk sk hk=>?_) n h;show wpAny (model prog w) A ((compTurn (.ListComp elt [⟨tg,iter,ifs,0⟩] scope pos) 0 it acc env).onRaise (λx=>do noteFrame x env;theTreesLotGoes x)) _ _ sk;refine wpAny_noted (up ?_);rw[compTurn_list];refine wpAny_bind (wpAny_standAt (wpAny_bind (thn (turn k sk hk) λr s1 h1=>?_)));cases r with
 | none=>exact wpAny_pure h1
 | some v=>
  refine wpAny_bind (thn h1 λ_ s2 h2=>wpAny_bind (thn h2 λ_ s3 h3=>wpAny_bind (thn h3 λok s4 h4=>?_)));cases ok with
  | false=>exact wpAny_pure ⟨rfl,h4⟩
  | true=>exact wpAny_bind (wpAny_bind (thn h4 λx s5 h5=>wpAny_bind (thn h5 λ_ s6 h6=>wpAny_pure (wpAny_pure ⟨rfl,h6⟩))))
theorem Qvv{it D C:Addr}{fp:LAd}{tn:Nat->Heap->Prop}{J:It}{cl:List (Str×Addr)}{s3 s4:Shared}{H3:Hp}{σc:St}{g:TG}{tc:TT}{te:TE}{Q:Hp->Prop}(hcalm:X.calm=true)
  (T:Turn X.prog X.w X.K tg J fp it tn)
  (hg:PG (cxc X N' scope cl C fp s3 H3) tg g) (ht:PTs (cxc X N' scope cl C fp s3 H3) ifs tc) (he:PE (cxc X N' scope cl C fp s3 H3) elt te)
  (I:Inv (cxc X N' scope cl C fp s3 H3) [] σc H3 s4) (st:tn 0 s4.heap) (ff:∀b∈fp,QdO (cxc X N' scope cl C fp s3 H3) [] H3 b)
  (W:Nat->Nat->List V->Hp->Prop) (hw:∃m,W 0 m [] H3)
  (turn:∀i m acc H2,W i m acc H2->(J.stop i H2/\Q H2)∨
   (J.go i H2/\∀x H5,J.yld i H2 x H5->g x σc H5 λσ2 H6=>(∀(j:Nat) v,σc[j]? =some (some v)->σ2[j]? =some (some v))/\tc σ2 H6 λb H7=>if b=true then
    te σ2 H7 λy H8=>H8 D=some (.lst acc)/\acc.length<sizeLine/\∃m',m'<m/\W (i+1) m' (acc++[y]) (upd H8 D (.lst (acc++[y])))
    else ∃m',m'<m/\W (i+1) m' acc H7))
  {R:Result->Shared->Prop}(hR:∀H' s',Inv (cxc X N' scope cl C fp s3 H3) [] σc H' s'->Q H'->R (.ok .next) s'):
  codeAny (model X.prog X.w) X.A (.compStart (.ListComp elt [⟨tg,iter,ifs,0⟩] scope pos) 0 (.ref it) (.ref D) (compEnvC scope cl C X.env)) R s4:=by
 obtain⟨m0,w0⟩:=hw;have stat:∀{H':Hp},(∀b∈fp,H' b=none)->∀b∈fp,QdO (cxc X N' scope cl C fp s3 H3) [] H' b:=λhn b hb=>⟨hn b hb,(ff b hb).2⟩;have loop:codeAny (model X.prog X.w) X.A (.compLoop (.ListComp elt [⟨tg,iter,ifs,0⟩] scope pos) 0 (.ref it) (.ref D) (compEnvC scope cl C X.env)) R s4:=by
  refine Quh (λn s'=>∃i acc H',Inv (cxc X N' scope cl C fp s3 H3) [] σc H' s'/\tn i s'.heap/\(∀b∈fp,H' b=none)/\W i n acc H') ?_ m0 ⟨0,[],H3,I,st,λb hb=>(ff b hb).1,w0⟩;rintro n s5 ⟨i,acc,H5,I5,st5,fr5,w5⟩;rcases turn i n acc H5 w5 with⟨stop,q⟩ | ⟨go,step⟩
  ·refine thn (T.done (cxc X N' scope cl C fp s3 H3) rfl rfl rfl hcalm i [] s5 σc H5 _ I5 (stat fr5) st5 stop) λr s6 Z=>?_;obtain⟨hr,I6⟩:=Z;subst hr;exact hR H5 s6 I6 q
  ·refine thn (T.item (cxc X N' scope cl C fp s3 H3) rfl rfl rfl hcalm i [] s5 σc H5 _ I5 (stat fr5) st5 go) λr s6 Z=>?_;obtain⟨u,hr,h6⟩:=Z;subst hr;refine thn h6 λ_ s7 Z=>?_;obtain⟨x,H7,I7,r7,y7,st7,fr7⟩:=Z;have I7':=I7.pinned (stat fr7) (T.obj _ _ st7);refine thn (hg _ s7 σc H7 x u _ I7' r7 (step x H7 y7)) λ_ s8=>exJ λσ8 H8 I8 k8 q8=>?_;refine thn (ht _ s8 σ8 H8 _ I8 q8) λok s9 Z=>?_;obtain⟨H9,I9,q9⟩:=Z
   have again:∀{H':Hp}{s':Shared}{acc':List V},Inv (cxc X N' scope cl C fp s3 H3) ([]++QiB fp s7.heap) σ8 H' s'->(∃m',m'<n/\W (i+1) m' acc' H')→
     ∃m,m<n/\∃i acc H',Inv (cxc X N' scope cl C fp s3 H3) [] σc H' s'/\tn i s'.heap/\(∀b∈fp,H' b=none)/\W i m acc H':=λ{H' s' acc'} I' ⟨m',hm,w'⟩=>by
    have pin:∀b∈fp,∀o,s7.heap.get? b=some o->s'.heap.get? b=some o/\H' b=none:=λb hb o e=>by
     have z:=I'.pin (b,o) (Ze _ (Ze _ (Qh3 hb e)));exact⟨z.1,z.2.1⟩
    refine⟨m',hm,i+1,acc',H',?_,T.keep _ _ _ st7 λb hb o e=>(pin b hb o e).1,λb hb=>?_,w'⟩
    ·exact I'.Qh4.weak (I.len.trans I8.len.symm) k8
    ·obtain⟨o,e,_⟩:=T.obj _ _ st7 b hb;exact(pin b hb o e).2
   cases ok with
   | false=>
    rw[if_neg Zak]at q9 ⊢;exact again I9 q9
   | true=>
    rw[if_pos rfl]at q9 ⊢;refine thn (he _ s9 σ8 H9 _ I9 q9) λyv s10 Z=>?_;obtain⟨y,H10,I10,r10,e10,l10,q10⟩:=Z;refine thn (Qnq _ s10 σ8 H10 (.ref D) [y] (.ref D) [yv] (λv H11=>H11=upd H10 D (.lst (acc++[y]))) I10 rfl (.cons r10 .nil) ⟨D,acc,y,rfl,rfl,e10,l10,rfl⟩) λ_ s11 Z=>?_;obtain⟨_,H11,I11,_,e11⟩:=Z;subst e11;exact again I11 q10
 exact codeAny_compStart_list loop (T.self _ 0 _ _ _ st loop)
theorem QoL{wi:TI}{g:TG}{tc:TT}{te:TE}{cp:Pos}{use:Option (Value->Sem Unit)}{pins:List (Addr×Obj)}{s:Shared}{σ:St}{H:Hp}{QV:Value->Shared->Prop}{Q:VK}(hcalm:X.calm=true)(S:Qe0 X N' scope)(hi:PI X tg iter wi)
  (hin:∀cl C fp s3 H3,PG (cxc X N' scope cl C fp s3 H3) tg g/\PTs (cxc X N' scope cl C fp s3 H3) ifs tc/\PE (cxc X N' scope cl C fp s3 H3) elt te)
  (hs:∀x,foldedSetIterable iter X.env x=pure x) (I:Inv X pins σ H s) (h:Qoc wi (Qk5 X N' scope) g tc te σ H Q)
  (fin:∀(D C:Addr) (H':Hp) (s':Shared),Inv X pins σ H' s'->H' C=none->C≠X.env.locals->X.s₀.heap.objs.size<=C->(∀x c,X.env.cells.lookup x=some c->c≠C)->(∀p∈X.pn++pins,p.1≠C)->(∃m,s'.heap.Ns C m)->Q (.ref D) H'→
   compPost (model X.prog X.w) X.A X.xe use QV (.ref D) C (.ok .next) s'):
  wpAny (model X.prog X.w) X.A (comprehension (.ListComp elt [⟨tg,iter,ifs,0⟩] scope pos) scope X.env cp (newList []) false (eval iter X.env) use) QV X.xe s:=by
 obtain⟨cl,hcl,hc1,hc2⟩:=QxY λy hy hf=>I.ok.has y.1 (S.free y hy hf);refine wpAny_comprehension_free rfl hs hcl S.kind S.loc ?_;refine thn (hi pins s σ H _ I h) λv s1 h1=>thn h1 λitv s2 h2=>?_;obtain⟨it,fp,tn,J,H2,e,I2,T,st2,f2,σc,cap,hw⟩:=h2;subst e;have hD0:H2 s2.heap.objs.size=none:=I2.hok.fresh (Zi _);obtain⟨W,hW0,turn⟩:=hw _ hD0;have fpl:∀b∈fp,b<s2.heap.objs.size:=λb hb=>let ⟨o,e,_⟩:=T.obj _ _ st2 b hb;Zs e;have hlist:∀D:Addr,D=s2.heap.objs.size->∃x,x=D:=λD _=>⟨D,rfl⟩;refine wpAny_newObj_type ?_
 have I3:Inv X pins σ (upd H2 s2.heap.objs.size (.lst [])) {s2 with heap:=s2.heap.push {cls:= .type "list",dict:=none,data:= .seq ([]:List Value).toArray}}:=
  I2.laid (t':=s2.toks) (λb o e=>Zb _ e) (Zi _) ⟨Zaa _,[],0,.nil,ZC _ rfl⟩
 generalize hs3:({s2 with heap:=s2.heap.push {cls:= .type "list",dict:=none,data:= .seq ([]:List Value).toArray}}:Shared)=s3 at I3;have hs3':s3.heap=s2.heap.push {cls:= .type "list",dict:=none,data:= .seq ([]:List Value).toArray}:=by rw[← hs3]
 have sz3:s3.heap.objs.size=s2.heap.objs.size+1:=by rw[hs3',Zar]
 have old3:∀b o,s2.heap.get? b=some o->s3.heap.get? b=some o:=λb o e=>by rw[hs3'];exact Zb _ e
 have f3:∀b∈fp,QdO X pins (upd H2 s2.heap.objs.size (.lst [])) b:=λb hb=>⟨by rw[QP (ZN (fpl b hb))];exact(f2 b hb).1,(f2 b hb).2⟩;have fpl3:∀b∈fp,b<s3.heap.objs.size:=λb hb=>by rw[sz3];exact ZaT (fpl b hb)
 refine Qr2 (λh4 hns4' keep4 hown4=>?_);have I4:=QvA (tk:=s3.toks) S I3 f3 fpl3 hc1 hc2 cap hns4' keep4 hown4;have hout:∀H' s',Inv (cxc X N' scope (cellsFrom (s3.heap.objs.size+1) scope.names cl) s3.heap.objs.size fp s3 (upd H2 s2.heap.objs.size (.lst []))) [] σc H' s'->Inv X pins σ H' s':=λH' s' J'=>
  I3.QwB J'.os J'.base J'.hok J'.bare λb hb=>⟨(f3 b hb).2.2.2.1,(f3 b hb).2.1,(f3 b hb).2.2.2.2.1,(f3 b hb).2.2.2.2.2⟩
 obtain⟨hg,ht,he⟩:=hin (cellsFrom (s3.heap.objs.size+1) scope.names cl) s3.heap.objs.size fp s3 (upd H2 s2.heap.objs.size (.lst []));have fc:∀b∈fp,QdO (cxc X N' scope (cellsFrom (s3.heap.objs.size+1) scope.names cl) s3.heap.objs.size fp s3 (upd H2 s2.heap.objs.size (.lst []))) [] (upd H2 s2.heap.objs.size (.lst [])) b:=λb hb=>
  ⟨(f3 b hb).1,ZN (fpl3 b hb),λhs'=>(Zj.mp (I3.QfS b hs')).elim (f3 b hb).2.1 (f3 b hb).2.2.1,.inl hb,λx c e=>(by
   rcases Qhr scope.names _ cl x c e with e | ⟨e,_⟩
   ·exact(f3 b hb).2.2.2.2.1 x c (hc1 x c e)
   ·intro z;rw[z]at e;exact absurd (Zp (fpl3 b hb) (Zt (ZbG _) e)) (ZY _)),λp hp=>absurd (show p∈([]:List (Addr×Obj))from hp) (by simp)⟩
 have hC1:s3.heap.objs.size≠X.env.locals:=Ne.symm (ZN I3.lt);refine Qvv (W:=W) hcalm T hg ht he I4 (T.keep _ _ _ st2 λb hb o e=>keep4 b o (old3 b o e)) fc hW0 turn λH' s' J' q=>?_;have O:=hout H' s' J';refine fin _ _ H' s' O J'.free hC1 (Zt I3.sz (Zi _)) (λx c e z=>?_) (λp hp z=>?_) (let ⟨m,hn,_⟩:=J'.loc;⟨m,hn⟩) q
 ·obtain⟨v,o,ho,_⟩:=I3.cell x c e;exact absurd (Zs ho) (by rw[z];exact ZY _)
 ·exact absurd (Zs (I3.pin p hp).1) (by rw[z];exact ZY _)
theorem Inv.Qwx(I:Inv X pins σ H s)(hs:Heap.SameBut C s.heap h')(hn:H C=none)(hL:C≠X.env.locals)(h1:X.s₀.heap.objs.size<=C)
  (h2:∀x c,X.env.cells.lookup x=some c->c≠C) (h3:∀p∈X.pn++pins,p.1≠C):Inv X pins σ H {s with heap:=h'}:=
 I.turned (t':=s.toks) (λb o hb e=>(hs.2 b hb).trans e) hn hL (.inr h1) h2 h3
theorem QqS(hcalm:X.calm=true)(S:Qe0 X N' scope)(hi:PI X tg iter wi)
  (hin:∀cl C fp s3 H3,PG (cxc X N' scope cl C fp s3 H3) tg g/\PTs (cxc X N' scope cl C fp s3 H3) ifs tc/\PE (cxc X N' scope cl C fp s3 H3) elt te)
  (hs:∀x,foldedSetIterable iter X.env x=pure x:=by intro _;rfl):PE X (.ListComp elt [⟨tg,iter,ifs,0⟩] scope pos) (Qoc wi (Qk5 X N' scope) g tc te):=by
 intro pins s σ H Q I h;rw[eval_ListComp];refine QoL hcalm S hi hin hs I h λD C H' s' O h1 h2 h3 h4 h5 Z q=>?_;obtain⟨m,hm⟩:=Z;exact⟨m,hm,λh' hs'=>⟨.ref D,H',O.Qwx hs' h1 h2 h3 h4 h5,rfl,q⟩⟩
theorem Qx6(hN:X.N.Nodup)(hx1:X.N[i]? =some x)(hx:Loc X.env.scope x)(hf:X.fn x=true∨X.env.scope.names.lookup x=some .local)(hcalm:X.calm=true)(S:Qe0 X N' scope)(hi:PI X tg iter wi)
  (hin:∀cl C fp s3 H3,PG (cxc X N' scope cl C fp s3 H3) tg g/\PTs (cxc X N' scope cl C fp s3 H3) ifs tc/\PE (cxc X N' scope cl C fp s3 H3) elt te)
  (hs:∀x,foldedSetIterable iter X.env x=pure x:=by intro _;rfl):
  PS X (.Assign [.Name x pos'] (.ListComp elt [⟨tg,iter,ifs,0⟩] scope pos) spos) (Qej (Qoc wi (Qk5 X N' scope) g tc te) (Qgl i)):=by
 have hb:∃b,swapsWith (.ListComp elt [⟨tg,iter,ifs,0⟩] scope pos) (some (.Name x pos')) spos.line X.env=pure b:=⟨_,rfl⟩;obtain⟨b,hb⟩:=hb;cases b with
 | false=>exact Qf3 hN hx1 hx (QqS hcalm S hi hin hs) hb hf
 | true=>
  intro pins s σ H D I h;rw[exec_Assign_Name_used _ _ _ _ hb];refine wpAny_bind (wpAny_standAt (wpAny_bind ?_));show wpAny _ X.A (do let _ ← comprehension (.ListComp elt [⟨tg,iter,ifs,0⟩] scope pos) scope X.env _ (newList []) false (eval iter X.env) (some (assign (.Name x pos') X.env))) _ _ s;refine wpAny_bind (thn (QoL hcalm S hi hin hs I h λDl C H' s' O h1 h2 h3 h4 h5 ⟨m,hm⟩ q=>?_) λ_ s' hq=>wpAny_pure (wpAny_pure hq));refine wpAny_assign_Name (QnY O hN hx1 hx (v:= .ref Dl) rfl (λs2 I2 hsb=>?_) hf);obtain⟨a,sb,ha⟩:=hsb;have haC:C≠a:=by
   rcases ha with rfl | ha
   ·exact h2
   ·exact Ne.symm (h4 _ _ ha)
  exact⟨m,hm.sameBut sb haC,λh' hs'=>⟨_,H',I2.Qwx hs' h1 h2 h3 h4 h5,q⟩⟩
end
section
theorem Inv.QrU{t':Nat}{ch:LAd}{T:Addr}{ts:List V}(I:Inv X pins σ H s)(hf:∀b∈ch,QdO X pins H b)(k:∀b o,b∉ch->s.heap.get? b=some o->h'.get? b=some o)(hp:∀b∈ch,∃o,h'.get? b=some o)
  (hT:s.heap.objs.size<=T) (hnew:ts.length<=sizeLine/\∃its:List Value,QK ts its/\IsTup h' T its.toArray):Inv X pins σ (upd H T (.tup ts)) {s with heap:=h',toks:=t'}:=by
 have hn:H T=none:=I.hok.fresh hT;have neT:∀b u,H b=some u->b≠T:=λb u e=>QbU e hn;have nch:∀b u,H b=some u->b∉ch:=λb u e hb=>by rw[(hf b hb).1]at e;cases e
 have ltT:∀b o,s.heap.get? b=some o->b≠T:=λb o e=>ZN (Zp (Zs e) hT)
 refine I.step (g':=s.gens) (d':=s.drawn) (ch:=ch) (λb hb=>?_) (λb o _ _ hc e _=>k b o hc e) (λb o _ _ hc e _=>⟨o.slots,k b o hc e⟩) (λb o _ e n=>by rw[QP (ltT b o e)];exact n)
  (λb o hc e=>⟨o,k b o hc e⟩) (λb xs e=>by rw[QP (neT b _ e)];exact e) (λb o u e=>by rw[QP (neT b _ e)];exact e) (λb ps e=>⟨#[],by rw[QP (neT b _ e),e];simp⟩) (λm hm=>?_) (λb u e=>?_) I.bare
 ·obtain⟨f0,f1,f2,f3,f4,f5⟩:=hf b hb;exact⟨f3,f1,f4,f5⟩
 ·obtain⟨o,es,ep,ho,r⟩:=hm;exact⟨o,es,ep,k _ o (λz=>(hf _ z).2.1 rfl) ho,r⟩
 ·by_cases hb:b=T
  ·subst hb;rw[Qac]at e;cases e;exact hnew
  ·rw[QP hb]at e;refine(I.hok b u e).QgV (λc v hc q=>k c v ?_ q) (λc q=>by rw[QP (neT c _ q)];exact q) λc xs q=>by rw[QP (neT c _ q)];exact q
   rcases hc with z | z
   ·rw[z];exact nch b u e
   ·exact nch c _ z
theorem Inv.turns{t':Nat}{ch:LAd}(I:Inv X pins σ H s)(hf:∀b∈ch,QdO X pins H b)(k:∀b o,b∉ch->s.heap.get? b=some o->h'.get? b=some o):Inv X pins σ H {s with heap:=h',toks:=t'}:=by
 have nch:∀b u,H b=some u->b∉ch:=λb u e hb=>by rw[(hf b hb).1]at e;cases e
 refine I.step (g':=s.gens) (d':=s.drawn) (ch:=ch) (λb hb=>?_) (λb o _ _ hc e _=>k b o hc e) (λb o _ _ hc e _=>⟨o.slots,k b o hc e⟩) (λb o _ e n=>n)
  (λb o hc e=>⟨o,k b o hc e⟩) (λb xs e=>e) (λb o u e=>e) (λb ps e=>⟨#[],by rw[e];simp⟩) (λm hm=>?_) (λb u e=>?_) I.bare
 ·obtain⟨f0,f1,f2,f3,f4,f5⟩:=hf b hb;exact⟨f3,f1,f4,f5⟩
 ·obtain⟨o,es,ep,ho,r⟩:=hm;exact⟨o,es,ep,k _ o (λz=>(hf _ z).2.1 rfl) ho,r⟩
 ·refine(I.hok b u e).QgV (λc v hc q=>k c v ?_ q) (λc q=>q) λc xs q=>q;rcases hc with z | z
  ·rw[z];exact nch b u e
  ·exact nch c _ z
end
noncomputable def Ite(K:Fgg)(a:Addr):It:=
 ⟨λi H=>∃xs x,SqL K H a xs/\xs[i]? =some x,λi H v H'=>∃p x,v= .ref p/\H p=none/\H'=upd H p (.tup [.int i,x])/\∀xs,SqL K H a xs->xs[i]? =some x,λi H=>∃xs,SqL K H a xs/\xs.length<=i⟩
theorem mm0{a:Addr}{l:LAd}:a∈a::l:= .head _
theorem mm1{a b:Addr}{l:LAd}:a∈b::a::l:= .tail _ mm0
theorem mm2{a b c:Addr}{l:LAd}:a∈b::c::a::l:= .tail _ mm1
theorem mm3{a b c d:Addr}{l:LAd}:a∈b::c::d::a::l:= .tail _ mm2
theorem mm4{a b c d e:Addr}{l:LAd}:a∈b::c::d::e::a::l:= .tail _ mm3
theorem nmm{a b:Addr}{l:LAd}(hb:b∉l)(ha:a∈l):b≠a:=λe=>hb (e▸ha)
theorem fa1{p:Addr->Prop}{a:Addr}{l:LAd}(h:p a)(t:∀x∈l,p x):∀x∈a::l,p x:=List.forall_mem_cons.2 ⟨h,t⟩
def NL(h:Heap)(b:Addr):Prop:=∃o,h.get? b=some o/\o.cls≠ .type "list" /\∀v,o.data≠ .cell v
theorem NL.it{h:Heap}(q:h.IsListIter b l k):NL h b:=by
 obtain⟨o,ho,hc,hd⟩:=q;exact⟨o,ho,by rw[hc];simp,λv z=>by rw[hd]at z;cases z⟩
theorem NL.zip(hz:IsZip h z T1 T2 x):NL h z:=⟨_,hz,by simp,λv z=>by cases z⟩
theorem NL.tup{h:Heap}(q:h.get? b=some {cls:= .type "tuple",data:= .seq a}):NL h b:=⟨_,q,by simp,λv z=>by cases z⟩
theorem NL.obj(n:NL h b):∃o,h.get? b=some o/\∀v,o.data≠ .cell v:=let ⟨o,e,_,v⟩:=n;⟨o,e,v⟩
theorem NL.ex(n:NL h b):∃o,h.get? b=some o:=let ⟨o,e,_⟩:=n;⟨o,e⟩
theorem NL.lt(n:NL h b):b<h.objs.size:=let ⟨_,e⟩:=n.ex;Zs e
theorem NL.apart{X:Cx}{H:Hp}{s:Shared}(n:NL s.heap b)(I:Inv X pins σ H s)(hn:H b=none)(hq:SqL X.K H l ys):l≠b:=λe=>by
 subst e;rcases hq with(hq | ⟨_,hq⟩) | ⟨o',its,k,hk,hc',_⟩
 ·rw[hn]at hq;cases hq
 ·rw[hn]at hq;cases hq
 ·obtain⟨o,ho,hc,_⟩:=n;rw[I.kIn l o' hk]at ho;exact hc (Option.some.inj ho▸hc')
theorem QtK{P:Program}{w:World}{K:Fgg}{es:List Expr}{tk:Nat}{tpos:Pos}(a e it:Addr)(hne:e≠it):Turn P w K (.Tuple es tk tpos) (Ite K a) [e,it] e (λi h=>∃old,IsEnum h e it (i:Int) old/\h.IsListIter it a i) where
 mem:=mm0
 obj:=λi h st b hb=>by
  obtain⟨old,he,hi⟩:=st;exact(fa1 (p:=NL h) ⟨_,he,by simp,λv z=>by cases z⟩ (fa1 (.it hi) (List.forall_mem_nil _)) b hb).obj
 keep:=λi h h' st k=>by
  obtain⟨old,he,hi⟩:=st;exact⟨old,k e mm0 _ he,hi.at (k it mm1)⟩
 item:=by
  intro X hP hw hK hc i pins s σ H E I hf st hg;subst hP hw hK;obtain⟨old,he,hi⟩:=st;obtain⟨xs,x,hq,hx⟩:=hg;obtain⟨its,rv,p,hz⟩:=I.list hq;obtain⟨u,hu,ru⟩:=rv.get hx;refine wpAny_pyNext_enum_item he hi p.isList (x:=u) (by simpa using hu) hne λh1 heo hi1 ht1 hz1 hk1=>?_;refine⟨.ref s.heap.objs.size,rfl,wpAny_letOwnedTupleGo_enum heo λh2 he2 hs2=>?_⟩
  replace hs2:Heap.SameBut e h1 h2:=hs2
  have helt:e<s.heap.objs.size:=Zs he;have hilt:it<s.heap.objs.size:=by obtain⟨o,ho,_⟩:=hi;exact Zs ho
  have ht2:IsTup h2 s.heap.objs.size [Value.int i s.toks,u].toArray:=⟨_,(hs2.2 _ (Zbu helt)).trans ht1,rfl,_,rfl⟩;have hi2:h2.IsListIter it a (i+1):=hi1.extBut hs2.extBut (Ne.symm hne);have kk:∀b o,b∉[e,it]->s.heap.get? b=some o->h2.get? b=some o:=λb o hb q=>by
   have h1:b≠e:=λz=>hb (by simp[z]);have h2:b≠it:=λz=>hb (by simp[z]);exact hs2.extBut b o h1 (hk1 b o h1 h2 q)
  refine⟨.ref s.heap.objs.size,upd H s.heap.objs.size (.tup [.int i,x]),I.QrU (t':=s.toks+1) hf kk (λb hb=>?_) (Zi _) ⟨by show 2<=sizeLine;decide,_,.cons ⟨_,rfl⟩ (.cons ru .nil),ht2⟩,rfl,
   ⟨_,x,rfl,I.hok.fresh (Zi _),rfl,λys hy=>by rw[I.Qdo hy hq];exact hx⟩,⟨u,?_,hi2⟩,λb hb=>?_⟩
  ·have hb:b=e∨b=it:=by simpa using hb
   rcases hb with rfl | rfl
   ·exact⟨_,he2⟩
   ·obtain⟨o,ho,_⟩:=hi2;exact⟨o,ho⟩
  ·have:((i+1:Nat):Int)=(i:Int)+1:=by push_cast;rfl
   rw[this];exact he2
  ·have hb':b=e∨b=it:=by simpa using hb
   have:b≠s.heap.objs.size:=by
    rcases hb' with rfl | rfl
    ·exact ZN helt
    ·exact ZN hilt
   rw[QP this];exact(hf b hb).1
 done:=by
  intro X hP hw hK hc i pins s σ H E I hf st hg;subst hP hw hK;obtain⟨old,he,hi⟩:=st;obtain⟨xs,hq,hx⟩:=hg;obtain⟨its,rv,p,hz⟩:=I.list hq;have hl:=rv.length;refine wpAny_pyNext_enum_end (I.ok.hd hc) he hi p.isList (by simp;omega) λh1 eb=>⟨rfl,?_⟩;exact I.turns (t':=s.toks) hf λb o hb q=>eb b o (λz=>hb (by simp[z])) q
 self:=λ_ _ _ _ _ st h=>by
  obtain⟨old,he,hi⟩:=st;exact wpAny_pyIter_enum he h
section
noncomputable def QBV(K:Fgg)(ta:TA):TI:=λσ H R=>ta σ H λvs H1=>∃a,vs=[.ref a]/\(∃xs,SqL K H1 a xs)/\R (Ite K a) H1
theorem Qxo{a:Expr}{ta:TA}{p pos:Pos}{es:List Expr}{tk:Nat}{tpos:Pos}(hg:Gl X "enumerate")(hm:X.mg "enumerate" =none)(ha:PA X [a] ta)(hs:starEach [a] X.env=[(false,eval a X.env)]):
  PI X (.Tuple es tk tpos) (.Call (.Name "enumerate" p) [a] [] pos) (QBV X.K ta):=by
 intro pins s σ H R I h;refine Call_ (Qdi I hg hm PyProof.Rows.boot_enumerate (Zac (thn (ha pos pins s σ H _ I h) λus s1 ⟨vs,H1,I1,r1,q1⟩=>?_) hs rfl));obtain⟨l,e,⟨xs,hq⟩,q⟩:=q1;subst e;obtain⟨u,rfl,ru⟩:=vals1 r1;cases ru;obtain⟨its,rv,pl,hz⟩:=I1.list hq;refine call_enumerate_list pl.isList λh2 he2 hi2 hz2 hk2=>?_;have I2:Inv X pins σ H1 {s1 with heap:=h2}:=I1.kept (t':=s1.toks) hk2;refine wpAny_pyIter_enum he2 ⟨_,[s1.heap.objs.size+1,s1.heap.objs.size],_,_,H1,rfl,I2,QtK l _ _ (Nat.succ_ne_self _),⟨_,he2,hi2⟩,λb hb=>?_,q⟩;have hb:b=s1.heap.objs.size+1∨b=s1.heap.objs.size:=by simpa using hb
 have hle:s1.heap.objs.size<=b:=by rcases hb with rfl | rfl<;>omega
 exact I1.Qkg hle (I1.hok.fresh hle)
end
noncomputable def Itz(K:Fgg)(a b:Addr):It:=
 ⟨λi H=>∃xs ys x y,SqL K H a xs/\SqL K H b ys/\xs[i]? =some x/\ys[i]? =some y,λi H v H'=>∃p x y,v= .ref p/\H p=none/\H'=upd H p (.tup [x,y])/\(∀xs,SqL K H a xs->xs[i]? =some x)/\∀ys,SqL K H b ys->ys[i]? =some y,
  λi H=>∃xs ys,SqL K H a xs/\SqL K H b ys/\(xs.length<=i∨ys.length<=i)⟩
structure QqN (z TI TO i1 i2:Addr):Prop where
 a:TI≠z
 b:TO≠z
 c:i1≠z
 d:i2≠z
 e:TI≠TO
 f:TI≠i1
 g:TI≠i2
 h:TO≠i1
 i:TO≠i2
 j:i1≠i2
theorem QkZ{h:Heap}(hz:IsZip h z T1 T2 x)(hA:IsPair h T1 a b)(hB:IsPair h T2 c d)(h1:h.IsListIter i1 l1 k)(h2:h.IsListIter i2 l2 k):∀b∈[z,T1,T2,i1,i2],NL h b:=
 fa1 (.zip hz) (fa1 (.tup hA) (fa1 (.tup hB) (fa1 (.it h1) (fa1 (.it h2) λ_ h=>nomatch h))))
theorem Qs2{X:Cx}{s:Shared}(D:QqN z T1 T2 i1 i2)(I:Inv X pins σ H s)(hf:∀b∈[z,T1,T2,i1,i2],QdO X pins H b)(O:∀b∈[z,T1,T2,i1,i2],NL s.heap b)(hq1:SqL X.K H l1 xs)(hq2:SqL X.K H l2 ys):ZipApart z T1 T2 i1 i2 l1 l2:=by
 have A1:=λb hb=>(O b hb).apart I (hf b hb).1 hq1;have A2:=λb hb=>(O b hb).apart I (hf b hb).1 hq2;exact⟨D.a,D.b,D.c,D.d,D.e,D.f,D.g,D.h,D.i,D.j,A1 z mm0,A1 T2 mm2,A1 i1 mm3,A1 i2 mm4,A2 z mm0,A2 T2 mm2,A2 i1 mm3,A2 i2 mm4⟩
theorem QvD{P:Program}{w:World}{K:Fgg}{es:List Expr}{tk:Nat}{tpos:Pos}(l1 l2 z TI TO i1 i2:Addr)(D:QqN z TI TO i1 i2):
  Turn P w K (.Tuple es tk tpos) (Itz K l1 l2) [z,TI,TO,i1,i2] z (λi h=>IsZip h z TI TO .none/\IsPair h TI (.ref i1) (.ref i2)/\(∃a b,IsPair h TO a b)/\h.IsListIter i1 l1 i/\h.IsListIter i2 l2 i) where
 mem:=mm0
 obj:=λi h st b hb=>by
  obtain⟨hz,hTI,⟨p,q,hTO⟩,h1,h2⟩:=st;exact(QkZ hz hTI hTO h1 h2 b hb).obj
 keep:=λi h h' st k=>by
  obtain⟨hz,hTI,⟨p,q,hTO⟩,h1,h2⟩:=st;exact⟨k z mm0 _ hz,k TI mm1 _ hTI,⟨p,q,k TO mm2 _ hTO⟩,h1.at (k i1 mm3),h2.at (k i2 mm4)⟩
 item:=by
  intro X hP hw hK hc i pins s σ H E I hf st hg;subst hP hw hK;obtain⟨hz,hTI,⟨a0,b0,hTO⟩,h1,h2⟩:=st;obtain⟨xs,ys,x,y,hq1,hq2,hx,hy⟩:=hg;obtain⟨its,rv,p,hzz⟩:=I.list hq1;obtain⟨its2,rv2,p2,hzz2⟩:=I.list hq2;obtain⟨u,hu,ru⟩:=rv.get hx;obtain⟨u2,hu2,ru2⟩:=rv2.get hy;have O:=QkZ hz hTI hTO h1 h2;refine wpAny_pyNext_zip_item (Qs2 D I hf O hq1 hq2) hz hTI hTO h1 h2 p.isList p2.isList (x:=u) (y:=u2) (by simpa using hu) (by simpa using hu2) λh3 z3 TO3 a3 b3 T3 sz3 k3=>?_;refine⟨.ref s.heap.objs.size,rfl,wpAny_letOwnedTupleGo_zip z3 λh4 z4 hs4=>?_⟩
  replace hs4:Heap.SameBut z h3 h4:=hs4
  have kk:∀b o,b∉[z,TI,TO,i1,i2]->s.heap.get? b=some o->h4.get? b=some o:=λb o hb q=>
   hs4.extBut b o (nmm hb mm0) (k3 b o (nmm hb mm0) (nmm hb mm2) (nmm hb mm3) (nmm hb mm4) q)
  have TI4:IsPair h4 TI (.ref i1) (.ref i2):=hs4.extBut _ _ D.a (k3 _ _ D.a D.e D.f D.g hTI);have TO4:IsPair h4 TO u u2:=hs4.extBut _ _ D.b TO3;have a4:h4.IsListIter i1 l1 (i+1):=a3.extBut hs4.extBut D.c;have b4:h4.IsListIter i2 l2 (i+1):=b3.extBut hs4.extBut D.d
  exact⟨.ref s.heap.objs.size,upd H s.heap.objs.size (.tup [x,y]),I.QrU (t':=s.toks) hf kk (λb hb=>(QkZ z4 TI4 TO4 a4 b4 b hb).ex) (Zi _) ⟨by show 2<=sizeLine;decide,_,.cons ru (.cons ru2 .nil),_,(hs4.2 _ (Zbu (O z mm0).lt)).trans T3,rfl,_,rfl⟩,rfl,
   ⟨_,x,y,rfl,I.hok.fresh (Zi _),rfl,λzs hy'=>by rw[I.Qdo hy' hq1];exact hx,λzs hy'=>by rw[I.Qdo hy' hq2];exact hy⟩,⟨z4,TI4,⟨_,_,TO4⟩,a4,b4⟩,λb hb=>by rw[QP (ZN (O b hb).lt)];exact(hf b hb).1⟩
 done:=by
  intro X hP hw hK hc i pins s σ H E I hf st hg;subst hP hw hK;obtain⟨hz,hTI,⟨a0,b0,hTO⟩,h1,h2⟩:=st;obtain⟨xs,ys,hq1,hq2,hx⟩:=hg;obtain⟨its,rv,p,hzz⟩:=I.list hq1;obtain⟨its2,rv2,p2,hzz2⟩:=I.list hq2;have hl:=rv.length;have hl2:=rv2.length;refine wpAny_pyNext_zip_end (I.ok.hd hc) (Qs2 D I hf (QkZ hz hTI hTO h1 h2) hq1 hq2) hz hTI hTO h1 h2 p.isList p2.isList (by rcases hx with hx | hx;(left;simp;omega);(right;simp;omega)) λh3 k3=>⟨rfl,?_⟩;exact I.turns (t':=s.toks) hf λb o hb q=>k3 b o (nmm hb mm0) (nmm hb mm2) (nmm hb mm3) (nmm hb mm4) q
 self:=λ_ _ _ _ _ st h=>wpAny_pyIter_zip st.1 h
section
noncomputable def QCw(K:Fgg)(ta:TA):TI:=λσ H R=>ta σ H λvs H1=>∃a b,vs=[.ref a,.ref b]/\(∃xs,SqL K H1 a xs)/\(∃ys,SqL K H1 b ys)/\R (Itz K a b) H1
theorem QzU{a b:Expr}{ta:TA}{p pos:Pos}{es:List Expr}{tk:Nat}{tpos:Pos}(hg:Gl X "zip")(hm:X.mg "zip" =none)(ha:PA X [a,b] ta)(hs:starEach [a,b] X.env=[(false,eval a X.env),(false,eval b X.env)])(hs2:starEach [b] X.env=[(false,eval b X.env)]):
  PI X (.Tuple es tk tpos) (.Call (.Name "zip" p) [a,b] [] pos) (QCw X.K ta):=by
 intro pins s σ H R I h;refine Call_ (Qdi I hg hm PyProof.Rows.boot_zip (Zac (thn (ha pos pins s σ H _ I h) λus s1 ⟨vs,H1,I1,r1,q1⟩=>?_) (by rw[hs,hs2]) (by rw[hs2];rfl)));obtain⟨l,l2,e,⟨xs,hq⟩,⟨ys,hq2⟩,q⟩:=q1;subst e;obtain⟨u,u2,rfl,ru,ru2⟩:=vals2 r1;cases ru;cases ru2;obtain⟨its,rv,pl,hz⟩:=I1.list hq;obtain⟨its2,rv2,pl2,hz2⟩:=I1.list hq2;refine call_zip_2 pl.isList pl2.isList λh2 hz hTI hTO h1 h2' hsz hk2=>?_;have I2:Inv X pins σ H1 {s1 with heap:=h2}:=I1.kept (t':=s1.toks) hk2;refine wpAny_pyIter_zip hz ⟨_,[s1.heap.objs.size+4,s1.heap.objs.size+2,s1.heap.objs.size+3,s1.heap.objs.size,s1.heap.objs.size+1],_,_,H1,rfl,I2,QvD l l2 _ _ _ _ _ ⟨?_,?_,?_,?_,?_,?_,?_,?_,?_,?_⟩,⟨hz,hTI,⟨_,_,hTO⟩,h1,h2'⟩,λb hb=>?_,q⟩
 iterate 10 (exact(by intro e;first | (have e':(s1.heap.objs.size:Nat)+_=_:=e;omega) | (have e':(s1.heap.objs.size:Nat)=_:=e;omega)))
 have hle:s1.heap.objs.size<=b:=by
  simp only[Zj,ZbY,or_false]at hb;rcases hb with rfl | rfl | rfl | rfl | rfl<;>first | exact Zi _ | exact Nat.le_add_right _ _
 exact I1.Qkg hle (I1.hok.fresh hle)
end
end L2
namespace L2
open PySem PySem.Spec
theorem Ql3(a b c:Value):checkTypeCall "zip" ⟨[a,b,c],[]⟩=pure ():=by kernel_rfl
theorem Qn3(a b c:Value):checkBuiltinCall "zip.__new__" ⟨[.type "zip",a,b,c],[]⟩=pure ():=by kernel_rfl
theorem Qiw(a b c d:Value):argsOk "object.__init__" ⟨[a,b,c,d],[]⟩:=by
 unfold argsOk;rw[signature?_of (n:=['_','_','t','i','n','i','_','_']) (by kernel_rfl) F.owner_object];kernel_rfl
abbrev Qaq(h:Heap)(T:Addr)(a b c:Value):Prop:=h.get? T=some {cls:= .type "tuple",data:= .seq #[a,b,c]}
section
variable {prog:Program}{w:World}{A:Around}{E:Value->Shared->Prop}{s:Shared}
theorem Qeu(hT:Qaq s.heap T a b c)
  (h:∀h',h'.get? T=some {cls:= .type "tuple",data:= .seq ((#[a,b,c]:Array Value).setIfInBounds k x)}->Heap.SameBut T s.heap h'->Q () {s with heap:=h'}):
  wpAny (model prog w) A (updateSeq T (·.setIfInBounds k x)) Q E s:=by
 refine wpAny_updateSeq hT rfl (h _ ?_ (Heap.SameBut.update ..));rw[Heap.get?_update_self _ hT rfl];simp[Obj.mapSeq]
structure Six (z TI TO i1 i2 i3:Addr):Prop where
 TIz:TI≠z
 TOz:TO≠z
 i1z:i1≠z
 i2z:i2≠z
 i3z:i3≠z
 TITO:TI≠TO
 TIi1:TI≠i1
 TIi2:TI≠i2
 TIi3:TI≠i3
 TOi1:TO≠i1
 TOi2:TO≠i2
 TOi3:TO≠i3
 i12:i1≠i2
 i13:i1≠i3
 i23:i2≠i3
def Off(z TO i1 i2 i3 l:Addr):Prop:=l≠z/\l≠TO/\l≠i1/\l≠i2/\l≠i3
theorem Qug{z TI TO i1 i2 i3 l1 l2 l3:Addr}{k:Nat}{xs ys zs:Array Value}{x y u a b c:Value}{Q:Value->Shared->Prop}(D:Six z TI TO i1 i2 i3)(O1:Off z TO i1 i2 i3 l1)(O2:Off z TO i1 i2 i3 l2)(O3:Off z TO i1 i2 i3 l3)
  (hz:IsZip s.heap z TI TO .none) (hTI:Qaq s.heap TI (.ref i1) (.ref i2) (.ref i3)) (hTO:Qaq s.heap TO a b c)
  (h1:s.heap.IsListIter i1 l1 k) (h2:s.heap.IsListIter i2 l2 k) (h3:s.heap.IsListIter i3 l3 k) (hl1:s.heap.IsList l1 xs) (hl2:s.heap.IsList l2 ys) (hl3:s.heap.IsList l3 zs) (hx:xs[k]? =some x) (hy:ys[k]? =some y) (hu:zs[k]? =some u)
  (hQ:∀h',IsZip h' z TI TO (rawInt s.heap.objs.size)->Qaq h' TO x y u->h'.IsListIter i1 l1 (k+1)->h'.IsListIter i2 l2 (k+1)->h'.IsListIter i3 l3 (k+1)->Qaq h' s.heap.objs.size x y u->h'.objs.size=s.heap.objs.size+1→
   (∀c o,c≠z->c≠TO->c≠i1->c≠i2->c≠i3->s.heap.get? c=some o->h'.get? c=some o)->Q (.ref s.heap.objs.size) {s with heap:=h'}):
  wpAny (model prog w) A (Builtin.«zip.__next__» ⟨[.ref z],[]⟩) (λfin s'=>∃v,fin= .done (.ret v)/\Q v s') E s:=by
 show wpAny _ _ (field (.ref z) 2 >>= _) _ _ _;refine wpAny_bind (wpAny_field hz rfl rfl ?_);show wpAny _ _ (field (.ref z) 3 >>= _) _ _ _;refine wpAny_bind (wpAny_field hz rfl rfl ?_);refine wpAny_bind (wpAny_seqItems hTI rfl ?_);show wpAny _ _ (Builtin.SmallTypes.ownedTupleIsFree (.ref z) >>= _) _ _ _;refine wpAny_bind ?_;unfold Builtin.SmallTypes.ownedTupleIsFree;refine wpAny_bind (wpAny_field hz rfl rfl (wpAny_pure ?_));simp only[if_true];refine wpAny_bind (wpAny_rule ?_);refine wpAny_bind (wpAny_field hz rfl rfl ?_);refine wpAny_bind (wpAny_setField_rec hz (by simp) λg1 hz1 s1=>?_)
 replace hz1:IsZip g1 z TI TO .ellipsis:=hz1
 refine wpAny_bind ?_;simp only[List.zipIdx_cons,List.zipIdx_nil,Zcn,List.forIn_nil];refine wpAny_bind (wpAny_bind (wpAny_onRaise ?_));show wpAny _ _ (Builtin.SmallTypes.nextOf (.ref i1) >>= _) _ _ _;have k1:∀e o,e≠z->s.heap.get? e=some o->g1.get? e=some o:=λe o a1 q=>s1.extBut _ _ a1 q;refine wpAny_bind (wpAny_nextOf_list_item (h1.at λo e=>k1 _ o D.i1z e) (hl1.at λo e=>k1 _ o O1.1 e) hx λg2 m1 s2=>wpAny_pure ?_);have k2:∀e o,e≠z->e≠i1->s.heap.get? e=some o->g2.get? e=some o:=λe o a1 a3 q=>s2.extBut _ _ a3 (k1 e o a1 q);have t2:Qaq g2 TO a b c:=k2 _ _ D.TOz D.TOi1 hTO;refine wpAny_bind (wpAny_seqItems t2 rfl ?_);refine wpAny_bind (Qeu t2 λg3 t3 s3=>?_)
 replace t3:Qaq g3 TO x b c:=t3
 have k3:∀e o,e≠z->e≠TO->e≠i1->s.heap.get? e=some o->g3.get? e=some o:=λe o a1 a2 a3 q=>s3.extBut _ _ a2 (k2 e o a1 a3 q);refine wpAny_bind (wpAny_letGo (wpAny_pure ?_));refine wpAny_bind (wpAny_bind (wpAny_onRaise ?_));show wpAny _ _ (Builtin.SmallTypes.nextOf (.ref i2) >>= _) _ _ _;refine wpAny_bind (wpAny_nextOf_list_item (h2.at λo e=>k3 _ o D.i2z D.TOi2.symm D.i12.symm e) (hl2.at λo e=>k3 _ o O2.1 O2.2.1 O2.2.2.1 e) hy λg4 m2 s4=>wpAny_pure ?_);have k4:∀e o,e≠z->e≠TO->e≠i1->e≠i2->s.heap.get? e=some o->g4.get? e=some o:=λe o a1 a2 a3 a4 q=>s4.extBut _ _ a4 (k3 e o a1 a2 a3 q);have t4:Qaq g4 TO x b c:=s4.extBut _ _ D.TOi2 t3;refine wpAny_bind (wpAny_seqItems t4 rfl ?_);refine wpAny_bind (Qeu t4 λg5 t5 s5=>?_)
 replace t5:Qaq g5 TO x y c:=t5
 have k5:∀e o,e≠z->e≠TO->e≠i1->e≠i2->s.heap.get? e=some o->g5.get? e=some o:=λe o a1 a2 a3 a4 q=>s5.extBut _ _ a2 (k4 e o a1 a2 a3 a4 q);refine wpAny_bind (wpAny_letGo (wpAny_pure ?_));refine wpAny_bind (wpAny_bind (wpAny_onRaise ?_));show wpAny _ _ (Builtin.SmallTypes.nextOf (.ref i3) >>= _) _ _ _;refine wpAny_bind (wpAny_nextOf_list_item (h3.at λo e=>k5 _ o D.i3z D.TOi3.symm D.i13.symm D.i23.symm e) (hl3.at λo e=>k5 _ o O3.1 O3.2.1 O3.2.2.1 O3.2.2.2.1 e) hu λg6 m3 s6=>wpAny_pure ?_);have k6:∀e o,e≠z->e≠TO->e≠i1->e≠i2->e≠i3->s.heap.get? e=some o->g6.get? e=some o:=λe o a1 a2 a3 a4 a5 q=>s6.extBut _ _ a5 (k5 e o a1 a2 a3 a4 q);have t6:Qaq g6 TO x y c:=s6.extBut _ _ D.TOi3 t5;refine wpAny_bind (wpAny_seqItems t6 rfl ?_);refine wpAny_bind (Qeu t6 λg7 t7 s7=>?_)
 replace t7:Qaq g7 TO x y u:=t7
 have k7:∀e o,e≠z->e≠TO->e≠i1->e≠i2->e≠i3->s.heap.get? e=some o->g7.get? e=some o:=λe o a1 a2 a3 a4 a5 q=>s7.extBut _ _ a2 (k6 e o a1 a2 a3 a4 a5 q);refine wpAny_bind (wpAny_letGo (wpAny_pure (wpAny_pure ?_)));refine wpAny_bind (wpAny_seqItems t7 rfl ?_);refine wpAny_bind (wpAny_newTuple ?_);have hsz:g7.objs.size=s.heap.objs.size:=by rw[s7.1,s6.1,s5.1,s4.1,s3.1,s2.1,s1.1]
 have hz7:IsZip g7 z TI TO .ellipsis:=s7.extBut _ _ D.TOz.symm (s6.extBut _ _ D.i3z.symm (s5.extBut _ _ D.TOz.symm (s4.extBut _ _ D.i2z.symm (s3.extBut _ _ D.TOz.symm (s2.extBut _ _ D.i1z.symm hz1)))));have n1:g7.IsListIter i1 l1 (k+1):=((((m1.extBut s3.extBut D.TOi1.symm).extBut s4.extBut D.i12).extBut s5.extBut D.TOi1.symm).extBut s6.extBut D.i13).extBut s7.extBut D.TOi1.symm;have n2:g7.IsListIter i2 l2 (k+1):=((m2.extBut s5.extBut D.TOi2.symm).extBut s6.extBut D.i23).extBut s7.extBut D.TOi2.symm;have n3:g7.IsListIter i3 l3 (k+1):=m3.extBut s7.extBut D.TOi3.symm;have hzlt:z<g7.objs.size:=Zs hz7;show wpAny _ _ (Builtin.SmallTypes.ownedTupleHandOut (.ref z) (.ref g7.objs.size) >>= _) _ _ _;refine wpAny_bind ?_;unfold Builtin.SmallTypes.ownedTupleHandOut;have hz8:IsZip (g7.push {cls:= .type "tuple",data:= .seq #[x,y,u]}) z TI TO .ellipsis:=Zb _ hz7;refine wpAny_bind (wpAny_setField_rec hz8 (by simp) λg9 hz9 s9=>?_)
 replace hz9:IsZip g9 z TI TO (rawInt g7.objs.size):=hz9
 refine wpAny_setField_rec hz9 (by simp) λg10 hz10 s10=>?_
 replace hz10:IsZip g10 z TI TO (rawInt g7.objs.size):=hz10
 have up:∀c o,c≠z->g7.get? c=some o->g10.get? c=some o:=λc o c1 e=>s10.extBut _ _ c1 (s9.extBut _ _ c1 (Zb _ e));have hT:Qaq g10 g7.objs.size x y u:=s10.extBut _ _ (Zbu hzlt) (s9.extBut _ _ (Zbu hzlt) (ZC _ rfl));have hz':g10.objs.size=g7.objs.size+1:=by rw[s10.1,s9.1,Zar]
 rw[hsz]at hz10 hT hz';refine wpAny_pure ⟨_,rfl,?_⟩;show Q (.ref g7.objs.size) _;rw[hsz];exact hQ g10 hz10 (up _ _ D.TOz t7) (n1.at λo e=>up _ o D.i1z e) (n2.at λo e=>up _ o D.i2z e) (n3.at λo e=>up _ o D.i3z e) hT hz' λc o c1 c2 c3 c4 c5 e=>up c o c1 (k7 c o c1 c2 c3 c4 c5 e)
theorem Qwc{z TI TO i1 i2 i3 l1:Addr}{k:Nat}{xs:Array Value}{Q:Fin->Shared->Prop}(hh:A.handled=none)(D:Six z TI TO i1 i2 i3)(O1:l1≠z)
  (hz:IsZip s.heap z TI TO .none) (hTI:Qaq s.heap TI (.ref i1) (.ref i2) (.ref i3)) (h1:s.heap.IsListIter i1 l1 k) (hl1:s.heap.IsList l1 xs) (hx:xs[k]? =none)
  (hE:∀h' e,(∀c o,c≠z->c≠i1->s.heap.get? c=some o->h'.get? c=some o)->(∃o,h'.get? e=some o/\o.cls= .type "StopIteration")->E (.ref e) {s with heap:=h'}):
  wpAny (model prog w) A (Builtin.«zip.__next__» ⟨[.ref z],[]⟩) Q E s:=by
 show wpAny _ _ (field (.ref z) 2 >>= _) _ _ _;refine wpAny_bind (wpAny_field hz rfl rfl ?_);show wpAny _ _ (field (.ref z) 3 >>= _) _ _ _;refine wpAny_bind (wpAny_field hz rfl rfl ?_);refine wpAny_bind (wpAny_seqItems hTI rfl ?_);show wpAny _ _ (Builtin.SmallTypes.ownedTupleIsFree (.ref z) >>= _) _ _ _;refine wpAny_bind ?_;unfold Builtin.SmallTypes.ownedTupleIsFree;refine wpAny_bind (wpAny_field hz rfl rfl (wpAny_pure ?_));simp only[if_true];refine wpAny_bind (wpAny_rule ?_);refine wpAny_bind (wpAny_field hz rfl rfl ?_);refine wpAny_bind (wpAny_setField_rec hz (by simp) λg1 hz1 s1=>?_)
 replace hz1:IsZip g1 z TI TO .ellipsis:=hz1
 refine wpAny_bind ?_;simp only[List.zipIdx_cons,List.zipIdx_nil,Zcn,List.forIn_nil];refine wpAny_bind (wpAny_bind (wpAny_onRaise ?_));show wpAny _ _ (Builtin.SmallTypes.nextOf (.ref i1) >>= _) _ _ _;refine wpAny_bind (wpAny_nextOf_list_end hh (h1.extBut s1.extBut D.i1z) (hl1.extBut s1.extBut O1) hx λg2 e s2 he=>?_);obtain⟨oe,hoe,hce⟩:=he;have hz2:IsZip g2 z TI TO .ellipsis:=s2 _ _ D.i1z.symm hz1;have hez:e≠z:=λx=>by subst x;rw[hz2]at hoe;cases hoe;simp at hce
 refine wpAny_setField_rec hz2 (by simp) λg3 _ s3=>hE g3 e (λc o c1 c3 x=>s3.extBut _ _ c1 (s2 _ _ c3 (s1.extBut _ _ c1 x))) ⟨oe,s3.extBut _ _ hez hoe,hce⟩
theorem Qqk{z TI TO i1 i2 i3 l1 l2 l3:Addr}{k:Nat}{xs ys zs:Array Value}{x y u a b c:Value}{Q:Option Value->Shared->Prop}(D:Six z TI TO i1 i2 i3)(O1:Off z TO i1 i2 i3 l1)(O2:Off z TO i1 i2 i3 l2)(O3:Off z TO i1 i2 i3 l3)
  (hz:IsZip s.heap z TI TO .none) (hTI:Qaq s.heap TI (.ref i1) (.ref i2) (.ref i3)) (hTO:Qaq s.heap TO a b c)
  (h1:s.heap.IsListIter i1 l1 k) (h2:s.heap.IsListIter i2 l2 k) (h3:s.heap.IsListIter i3 l3 k) (hl1:s.heap.IsList l1 xs) (hl2:s.heap.IsList l2 ys) (hl3:s.heap.IsList l3 zs) (hx:xs[k]? =some x) (hy:ys[k]? =some y) (hu:zs[k]? =some u)
  (hQ:∀h',IsZip h' z TI TO (rawInt s.heap.objs.size)->Qaq h' TO x y u->h'.IsListIter i1 l1 (k+1)->h'.IsListIter i2 l2 (k+1)->h'.IsListIter i3 l3 (k+1)->Qaq h' s.heap.objs.size x y u->h'.objs.size=s.heap.objs.size+1→
   (∀c o,c≠z->c≠TO->c≠i1->c≠i2->c≠i3->s.heap.get? c=some o->h'.get? c=some o)->Q (some (.ref s.heap.objs.size)) {s with heap:=h'}):
  wpAny (model prog w) A (pyNext (.ref z)) Q E s:=by
 have hT:s.TypeIs (.ref z) "zip" :=⟨_,hz,rfl⟩;unfold pyNext
 exact wpAny_bind (wpAny_attempt (wpAny_callSpecial?_slot hT ZbK
  (wpAny_call_entry ZbK hT F.entry_zip_next
   (Qug D O1 O2 O3 hz hTI hTO h1 h2 h3 hl1 hl2 hl3 hx hy hu λh' a1 a2 a3 a4 a5 a6 a7 a8=>wpAny_pure (hQ h' a1 a2 a3 a4 a5 a6 a7 a8)) (F.args_zip_next_1 _))))
theorem Qlk{z TI TO i1 i2 i3 l1:Addr}{k:Nat}{xs:Array Value}{Q:Option Value->Shared->Prop}(hh:A.handled=none)(D:Six z TI TO i1 i2 i3)(O1:l1≠z)
  (hz:IsZip s.heap z TI TO .none) (hTI:Qaq s.heap TI (.ref i1) (.ref i2) (.ref i3)) (h1:s.heap.IsListIter i1 l1 k) (hl1:s.heap.IsList l1 xs) (hx:xs[k]? =none)
  (hQ:∀h',(∀c o,c≠z->c≠i1->s.heap.get? c=some o->h'.get? c=some o)->Q none {s with heap:=h'}):wpAny (model prog w) A (pyNext (.ref z)) Q E s:=by
 have hT:s.TypeIs (.ref z) "zip" :=⟨_,hz,rfl⟩;unfold pyNext
 refine wpAny_bind (wpAny_attempt (wpAny_callSpecial?_slot hT ZbK
  (wpAny_call_entry ZbK hT F.entry_zip_next (Qwc hh D O1 hz hTI h1 hl1 hx λh' e hk he=>?_) (F.args_zip_next_1 _))))
 obtain⟨o,ho,hc⟩:=he;refine wpAny_bind (wpAny_isInstance ⟨o,ho,hc⟩ isSubtype_stop ?_);exact wpAny_pure (hQ _ hk)
end
noncomputable abbrev zA(h:Heap)(l1:Addr):Heap:=h.push {cls:= .type "list_iterator",data:= .fields #[.ref l1,.int 0 0]}
noncomputable abbrev zB(h:Heap)(l1 l2:Addr):Heap:=(zA h l1).push {cls:= .type "list_iterator",data:= .fields #[.ref l2,.int 0 0]}
noncomputable abbrev zC(h:Heap)(l1 l2 l3:Addr):Heap:=(zB h l1 l2).push {cls:= .type "list_iterator",data:= .fields #[.ref l3,.int 0 0]}
noncomputable abbrev zD(h:Heap)(l1 l2 l3:Addr):Heap:=(zC h l1 l2 l3).push {cls:= .type "tuple",data:= .seq #[.ref h.objs.size,.ref (zA h l1).objs.size,.ref (zB h l1 l2).objs.size]}
noncomputable abbrev zE(h:Heap)(l1 l2 l3:Addr):Heap:=(zD h l1 l2 l3).push {cls:= .type "tuple",data:= .seq #[.none,.none,.none]}
noncomputable abbrev zF(h:Heap)(l1 l2 l3:Addr):Heap:=(zE h l1 l2 l3).push {cls:= .type "zip",data:= .fields #[.none,.bool false,.bool false,.ref (zC h l1 l2 l3).objs.size,.ref (zD h l1 l2 l3).objs.size]}
theorem QmV(l1 l2 l3:Addr)(xs ys zs:Array Value):
  Meets (Builtin.«zip.__new__» ⟨[.type "zip",.ref l1,.ref l2,.ref l3],[]⟩) (λ_ R s=>s.heap.IsList l1 xs/\s.heap.IsList l2 ys/\s.heap.IsList l3 zs∧
   R (.ok (.ret (.ref (zE s.heap l1 l2 l3).objs.size))) {s with heap:=zF s.heap l1 l2 l3}):=
 .of_wp λprog w A R s h=>by
  obtain⟨hp,g,d,tk,os⟩:=s;obtain⟨hl1,hl2,hl3,h⟩:=h;have hsub:=sub_zip;have hL1:Heap.IsList (Shared.heap ⟨hp,g,d,tk,os⟩) l1 xs:=hl1;have hL2:Heap.IsList (Shared.heap ⟨hp.push {cls:= .type "list_iterator",data:= .fields #[.ref l1,.int 0 0]},g,d,tk,os⟩) l2 ys:=ZbZ hl2 _;have hL3:Heap.IsList (Shared.heap ⟨(hp.push {cls:= .type "list_iterator",data:= .fields #[.ref l1,.int 0 0]}).push {cls:= .type "list_iterator",data:= .fields #[.ref l2,.int 0 0]},g,d,tk,os⟩) l3 zs:=ZbZ (ZbZ hl3 _) _
  wp_walk using wpAny_pyIter_list hL1,wpAny_pyIter_list hL2,wpAny_pyIter_list hL3
  exact⟨_,rfl,h⟩
section
variable {prog:Program}{w:World}{A:Around}{E:Value->Shared->Prop}{s:Shared}
theorem Qsj(hl1:s.heap.IsList l1 xs)(hl2:s.heap.IsList l2 ys)(hl3:s.heap.IsList l3 zs)
  (h:∀h',IsZip h' (s.heap.objs.size+5) (s.heap.objs.size+3) (s.heap.objs.size+4) .none->Qaq h' (s.heap.objs.size+3) (.ref s.heap.objs.size) (.ref (s.heap.objs.size+1)) (.ref (s.heap.objs.size+2))→
   Qaq h' (s.heap.objs.size+4) .none .none .none->h'.IsListIter s.heap.objs.size l1 0->h'.IsListIter (s.heap.objs.size+1) l2 0->h'.IsListIter (s.heap.objs.size+2) l3 0→
   (∀c o,s.heap.get? c=some o->h'.get? c=some o)->Q (.ref (s.heap.objs.size+5)) {s with heap:=h'}):
  wpAny (model prog w) A (call (.type "zip") [.ref l1,.ref l2,.ref l3]) Q E s:=by
 refine callType_new F.called_zip (by decide) (Ql3 _ _ _) (Qn3 _ _ _) (λobj=>Qiw obj _ _ _) F.entry_zip_new
  (QmV l1 l2 l3 xs ys zs) ⟨hl1,hl2,hl3,?_⟩
 have z1:(zA s.heap l1).objs.size=s.heap.objs.size+1:=Zar ..;have z2:(zB s.heap l1 l2).objs.size=s.heap.objs.size+2:=by rw[Zar,z1]
 have z3:(zC s.heap l1 l2 l3).objs.size=s.heap.objs.size+3:=by rw[Zar,z2]
 have z4:(zD s.heap l1 l2 l3).objs.size=s.heap.objs.size+4:=by rw[Zar,z3]
 have z5:(zE s.heap l1 l2 l3).objs.size=s.heap.objs.size+5:=by rw[Zar,z4]
 have g6:(zF s.heap l1 l2 l3).get? (zE s.heap l1 l2 l3).objs.size=some _:=ZC _ rfl;have g5:(zF s.heap l1 l2 l3).get? (zD s.heap l1 l2 l3).objs.size=some _:=Zb _ (ZC _ rfl);have g4:(zF s.heap l1 l2 l3).get? (zC s.heap l1 l2 l3).objs.size=some _:=Zb _ (Zb _ (ZC _ rfl));have g3:(zF s.heap l1 l2 l3).get? (zB s.heap l1 l2).objs.size=some _:=Zb _ (Zb _ (Zb _ (ZC _ rfl)));have g2:(zF s.heap l1 l2 l3).get? (zA s.heap l1).objs.size=some _:=Zb _ (Zb _ (Zb _ (Zb _ (ZC _ rfl))));have g1:(zF s.heap l1 l2 l3).get? s.heap.objs.size=some _:=Zb _ (Zb _ (Zb _ (Zb _ (Zb _ (ZC _ rfl)))));show _/\_;rw[z3,z4,z5]at g6;rw[z1,z2,z3]at g4;rw[z4]at g5;rw[z2]at g3;rw[z1]at g2;rw[z5];exact⟨⟨_,g6,rfl⟩,h _ g6 g4 g5 ⟨_,g1,rfl,rfl⟩ ⟨_,g2,rfl,rfl⟩ ⟨_,g3,rfl,rfl⟩ λc o x=>
  Zb _ (Zb _ (Zb _ (Zb _ (Zb _ (Zb _ x)))))⟩
end
open PyProof.Rows
noncomputable def Quv(K:Fgg)(a b c:Addr):It:=
 ⟨λi H=>∃xs ys zs x y z,SqL K H a xs/\SqL K H b ys/\SqL K H c zs/\xs[i]? =some x/\ys[i]? =some y/\zs[i]? =some z,λi H v H'=>∃p x y z,v= .ref p/\H p=none/\H'=upd H p (.tup [x,y,z])/\(∀xs,SqL K H a xs->xs[i]? =some x)/\(∀ys,SqL K H b ys->ys[i]? =some y)/\∀zs,SqL K H c zs->zs[i]? =some z,
  λi H=>∃xs,SqL K H a xs/\xs.length<=i⟩
theorem mm5{a b c d e f:Addr}{l:LAd}:a∈b::c::d::e::f::a::l:= .tail _ mm4
theorem Qmo{h:Heap}(hz:IsZip h z T1 T2 x)(hA:Qaq h T1 a b c)(hB:Qaq h T2 d e f)(h1:h.IsListIter i1 l1 k)(h2:h.IsListIter i2 l2 k)(h3:h.IsListIter i3 l3 k):∀b∈[z,T1,T2,i1,i2,i3],NL h b:=
 fa1 (.zip hz) (fa1 (.tup hA) (fa1 (.tup hB) (fa1 (.it h1) (fa1 (.it h2) (fa1 (.it h3) λ_ h=>nomatch h)))))
theorem Qsv{P:Program}{w:World}{K:Fgg}{es:List Expr}{tk:Nat}{tpos:Pos}(l1 l2 l3 z TI TO i1 i2 i3:Addr)(D:Six z TI TO i1 i2 i3):
  Turn P w K (.Tuple es tk tpos) (Quv K l1 l2 l3) [z,TI,TO,i1,i2,i3] z (λi h=>IsZip h z TI TO .none/\Qaq h TI (.ref i1) (.ref i2) (.ref i3)/\(∃a b c,Qaq h TO a b c)/\h.IsListIter i1 l1 i/\h.IsListIter i2 l2 i/\h.IsListIter i3 l3 i) where
 mem:=mm0
 obj:=λi h st b hb=>by
  obtain⟨hz,hTI,⟨p,q,r,hTO⟩,h1,h2,h3⟩:=st;exact(Qmo hz hTI hTO h1 h2 h3 b hb).obj
 keep:=λi h h' st k=>by
  obtain⟨hz,hTI,⟨p,q,r,hTO⟩,h1,h2,h3⟩:=st;exact⟨k z mm0 _ hz,k TI mm1 _ hTI,⟨p,q,r,k TO mm2 _ hTO⟩,h1.at (k i1 mm3),h2.at (k i2 mm4),h3.at (k i3 mm5)⟩
 item:=by
  intro X hP hw hK hc i pins s σ H E I hf st hg;subst hP hw hK;obtain⟨hz,hTI,⟨a0,b0,c0,hTO⟩,h1,h2,h3⟩:=st;obtain⟨xs,ys,zs,x,y,u,hq1,hq2,hq3,hx,hy,hu⟩:=hg;obtain⟨its,rv,p,hzz⟩:=I.list hq1;obtain⟨its2,rv2,p2,hzz2⟩:=I.list hq2;obtain⟨its3,rv3,p3,hzz3⟩:=I.list hq3;obtain⟨v1,hv1,r1⟩:=rv.get hx;obtain⟨v2,hv2,r2⟩:=rv2.get hy;obtain⟨v3,hv3,r3⟩:=rv3.get hu;have O:=Qmo hz hTI hTO h1 h2 h3;have A:=λb hb l ys (hq:SqL X.K H l ys)=>(O b hb).apart I (hf b hb).1 hq;have off:∀l ys,SqL X.K H l ys->Off z TO i1 i2 i3 l:=λl ys hq=>⟨A z mm0 l ys hq,A TO mm2 l ys hq,A i1 mm3 l ys hq,A i2 mm4 l ys hq,A i3 mm5 l ys hq⟩;refine Qqk D (off l1 xs hq1) (off l2 ys hq2) (off l3 zs hq3) hz hTI hTO h1 h2 h3 p.isList p2.isList p3.isList (by simpa using hv1) (by simpa using hv2) (by simpa using hv3) λg3 z3 TO3 a3 b3 c3 T3 sz3 k3=>?_;refine⟨.ref s.heap.objs.size,rfl,wpAny_letOwnedTupleGo_zip z3 λg4 z4 hs4=>?_⟩
  replace hs4:Heap.SameBut z g3 g4:=hs4
  have kk:∀b o,b∉[z,TI,TO,i1,i2,i3]->s.heap.get? b=some o->g4.get? b=some o:=λb o hb q=>
   hs4.extBut b o (nmm hb mm0) (k3 b o (nmm hb mm0) (nmm hb mm2) (nmm hb mm3) (nmm hb mm4) (nmm hb mm5) q)
  have TI4:Qaq g4 TI (.ref i1) (.ref i2) (.ref i3):=hs4.extBut _ _ D.TIz (k3 _ _ D.TIz D.TITO D.TIi1 D.TIi2 D.TIi3 hTI);have TO4:Qaq g4 TO v1 v2 v3:=hs4.extBut _ _ D.TOz TO3;have a4:g4.IsListIter i1 l1 (i+1):=a3.extBut hs4.extBut D.i1z;have b4:g4.IsListIter i2 l2 (i+1):=b3.extBut hs4.extBut D.i2z;have c4:g4.IsListIter i3 l3 (i+1):=c3.extBut hs4.extBut D.i3z
  exact⟨.ref s.heap.objs.size,upd H s.heap.objs.size (.tup [x,y,u]),I.QrU (t':=s.toks) hf kk (λb hb=>(Qmo z4 TI4 TO4 a4 b4 c4 b hb).ex) (Zi _) ⟨by show 3<=sizeLine;decide,_,.cons r1 (.cons r2 (.cons r3 .nil)),_,(hs4.2 _ (Zbu (O z mm0).lt)).trans T3,rfl,_,rfl⟩,rfl,
   ⟨_,x,y,u,rfl,I.hok.fresh (Zi _),rfl,λws hy'=>by rw[I.Qdo hy' hq1];exact hx,λws hy'=>by rw[I.Qdo hy' hq2];exact hy,λws hy'=>by rw[I.Qdo hy' hq3];exact hu⟩,⟨z4,TI4,⟨_,_,_,TO4⟩,a4,b4,c4⟩,λb hb=>by rw[QP (ZN (O b hb).lt)];exact(hf b hb).1⟩
 done:=by
  intro X hP hw hK hc i pins s σ H E I hf st hg;subst hP hw hK;obtain⟨hz,hTI,⟨a0,b0,c0,hTO⟩,h1,h2,h3⟩:=st;obtain⟨xs,hq1,hx⟩:=hg;obtain⟨its,rv,p,hzz⟩:=I.list hq1;have hl:=rv.length;refine Qlk (I.ok.hd hc) D ((NL.zip hz).apart I (hf z mm0).1 hq1) hz hTI h1 p.isList (by simp;omega) λg3 k3=>⟨rfl,?_⟩;exact I.turns (t':=s.toks) hf λb o hb q=>k3 b o (nmm hb mm0) (nmm hb mm3) q
 self:=λ_ _ _ _ _ st h=>wpAny_pyIter_zip st.1 h
theorem vals3(r:QK [x,y,z] us):∃u v w',us=[u,v,w']/\RelV x u/\RelV y v/\RelV z w':=by
 cases r with
 | cons r1 r2=>
  obtain⟨v,w',rfl,h1,h2⟩:=vals2 r2;exact⟨_,_,_,rfl,r1,h1,h2⟩
section
noncomputable def QBl(K:Fgg)(ta:TA):TI:=λσ H R=>ta σ H λvs H1=>∃a b c,vs=[.ref a,.ref b,.ref c]/\(∃xs,SqL K H1 a xs)/\(∃ys,SqL K H1 b ys)/\(∃zs,SqL K H1 c zs)/\R (Quv K a b c) H1
theorem QxN{a b c:Expr}{ta:TA}{p pos:Pos}{es:List Expr}{tk:Nat}{tpos:Pos}(hg:Gl X "zip")(hm:X.mg "zip" =none)(ha:PA X [a,b,c] ta)(hs:starEach [a,b,c] X.env=(false,eval a X.env)::starEach [b,c] X.env)(hs2:(backTo pos (starEach [b,c] X.env)).any (·.1)=false):
  PI X (.Tuple es tk tpos) (.Call (.Name "zip" p) [a,b,c] [] pos) (QBl X.K ta):=by
 intro pins s σ H R I h;refine Call_ (Qdi I hg hm PyProof.Rows.boot_zip (Zac (thn (ha pos pins s σ H _ I h) λus s1 ⟨vs,H1,I1,r1,q1⟩=>?_) hs hs2));obtain⟨l,l2,l3,e,⟨xs,hq⟩,⟨ys,hq2⟩,⟨zs,hq3⟩,q⟩:=q1;subst e;obtain⟨u,u2,u3,rfl,ru,ru2,ru3⟩:=vals3 r1;cases ru;cases ru2;cases ru3;obtain⟨its,rv,pl,hz⟩:=I1.list hq;obtain⟨its2,rv2,pl2,hz2⟩:=I1.list hq2;obtain⟨its3,rv3,pl3,hz3⟩:=I1.list hq3;refine Qsj pl.isList pl2.isList pl3.isList λh2 hz hTI hTO h1 h2' h3' hk2=>?_;have I2:Inv X pins σ H1 {s1 with heap:=h2}:=I1.kept (t':=s1.toks) hk2;refine wpAny_pyIter_zip hz ⟨_,[s1.heap.objs.size+5,s1.heap.objs.size+3,s1.heap.objs.size+4,s1.heap.objs.size,s1.heap.objs.size+1,s1.heap.objs.size+2],_,_,H1,rfl,I2,Qsv l l2 l3 _ _ _ _ _ _ ⟨?_,?_,?_,?_,?_,?_,?_,?_,?_,?_,?_,?_,?_,?_,?_⟩,⟨hz,hTI,⟨_,_,_,hTO⟩,h1,h2',h3'⟩,λb hb=>?_,q⟩
 iterate 15 (exact(by intro e;first | (have e':(s1.heap.objs.size:Nat)+_=_:=e;omega) | (have e':(s1.heap.objs.size:Nat)=_:=e;omega)))
 have hle:s1.heap.objs.size<=b:=by
  simp only[Zj,ZbY,or_false]at hb;rcases hb with rfl | rfl | rfl | rfl | rfl | rfl<;>first | exact Zi _ | exact Nat.le_add_right _ _
 exact I1.Qkg hle (I1.hok.fresh hle)
end
end L2
namespace HS
open PySem PySem.Spec PyProof.Rows L2
inductive D where
 | non | bl (b:Bool) | int (i:Int) | str (x:Str) | tup (xs:List D) | lst (xs:List D) | exc (x:Str)
mutual
noncomputable def D.flat:D->Bool
 | .lst _=>false
 | .tup xs=>Qak xs
 | .non=>true
 | .bl _=>true
 | .int _=>true
 | .str _=>true
 | .exc _=>true
noncomputable def Qak:List D->Bool
 | []=>true
 | d::ds=>d.flat && Qak ds
end
mutual
noncomputable def D.nl:D->Nat
 | .lst xs=>nls xs+1
 | .tup xs=>nls xs
 | .non=>0
 | .bl _=>0
 | .int _=>0
 | .str _=>0
 | .exc _=>0
noncomputable def nls:List D->Nat
 | []=>0
 | d::ds=>d.nl+nls ds
end
mutual
theorem Qeo:∀(d:D),d.flat=true->d.nl=0
 | .non,_=>rfl
 | .bl _,_=>rfl
 | .int _,_=>rfl
 | .str _,_=>rfl
 | .exc _,_=>rfl
 | .tup xs,h=>by simp only[D.nl];simp only[D.flat]at h;exact QkO xs h
 | .lst xs,h=>by simp[D.flat]at h
theorem QkO:∀(ds:List D),Qak ds=true->nls ds=0
 | [],_=>rfl
 | d::ds,h=>by simp only[Qak,Zm]at h;simp only[nls,Qeo d h.1,QkO ds h.2]
end
def Fix(K:Fgg)(H:Hp)(a:Addr)(vs:List V):Prop:=
 (∃o,H a=some (.frz o (.lst vs)))∨
  ∃(its:List Value) (n:Nat),K.lookup a=some {cls:= .type "list",data:= .seq its.toArray n}/\vs.length<=sizeLine/\QK vs its
def Qdp(a C:Addr)(h:Heap):Prop:=∃o vs,h.get? a=some o/\o.cls= .ref C/\o.data= .fields vs
def ExcAt(K:Fgg)(H:Hp)(a:Addr)(x:Str):Prop:=∃C,PySem.W.nsIn K mainGlobals x=some (some (.ref C))/\H a=some (.ext (Qdp a C))
theorem Qsi{K:Fgg}{H H':Hp}{a:Addr}{x:Str}(s:QQ H H')(h:ExcAt K H a x):ExcAt K H' a x:=by
 obtain⟨C,h1,h2⟩:=h;exact⟨C,h1,s _ _ h2⟩
theorem Quo{K:Fgg}{H:Hp}{a p:Addr}{x:Str}{zs ys:List V}(hp:H p=some (.lst zs))(h:ExcAt K H a x):ExcAt K (upd H p (.lst ys)) a x:=by
 obtain⟨C,h1,h2⟩:=h;exact⟨C,h1,by rw[QP (Qon h2 hp (by intro z;cases z))];exact h2⟩
mutual
noncomputable def Rp(K:Fgg)(H:Hp):D->V->List Addr->Prop
 | .non,v,F=>v= .non/\F=[]
 | .bl b,v,F=>v= .bl b/\F=[]
 | .int i,v,F=>v= .int i/\F=[]
 | .str x,v,F=>v= .str x/\F=[]
 | .exc x,v,F=>(∃a,v= .ref a/\ExcAt K H a x)/\F=[]
 | .tup ds,v,F=>∃a vs,v= .ref a/\SqT K H a vs/\Rps K H ds vs F
 | .lst ds,v,F=>ds.length<=sizeLine/\∃a vs,v= .ref a/\((∃G,F=a::G/\H a=some (.lst vs)/\Rps K H ds vs G)∨(Fix K H a vs/\Rps K H ds vs F))
noncomputable def Rps(K:Fgg)(H:Hp):List D->List V->List Addr->Prop
 | [],vs,F=>vs=[]/\F=[]
 | d::ds,vs,F=>∃v ws F1 F2,vs=v::ws/\F=F1++F2/\Rp K H d v F1/\Rps K H ds ws F2
end
theorem QoT{K:Fgg}{H H':Hp}{a:Addr}{vs:List V}(s:QQ H H')(h:SqT K H a vs):SqT K H' a vs:=by
 rcases h with(h | ⟨o,h⟩) | h
 ·exact .inl (.inl (s _ _ h))
 ·exact .inl (.inr ⟨o,s _ _ h⟩)
 ·exact .inr h
theorem QpP{K:Fgg}{H H':Hp}{a:Addr}{vs:List V}(s:QQ H H')(h:Fix K H a vs):Fix K H' a vs:=by
 rcases h with⟨o,h⟩ | h
 ·exact .inl ⟨o,s _ _ h⟩
 ·exact .inr h
theorem QqE{K:Fgg}{H:Hp}{a p:Addr}{vs zs ys:List V}(hp:H p=some (.lst zs))(h:SqT K H a vs):SqT K (upd H p (.lst ys)) a vs:=by
 rcases h with(h | ⟨o,h⟩) | h
 ·exact .inl (.inl (by rw[QP (Qon h hp (by intro z;cases z))];exact h))
 ·exact .inl (.inr ⟨o,by rw[QP (Qon h hp (by intro z;cases z))];exact h⟩)
 ·exact .inr h
theorem Qxh{K:Fgg}{H:Hp}{a p:Addr}{vs zs ys:List V}(hp:H p=some (.lst zs))(h:Fix K H a vs):Fix K (upd H p (.lst ys)) a vs:=by
 rcases h with⟨o,h⟩ | h
 ·exact .inl ⟨o,by rw[QP (Qon h hp (by intro z;cases z))];exact h⟩
 ·exact .inr h
section
variable {K:Fgg}{H H':Hp}
mutual
theorem Rp.same(s:QQ H H'):∀{d:D}{v:V}{F:LAd},Rp K H d v F->Rp K H' d v F
 | .exc _,_,_,h=>by
  simp only[Rp]at h ⊢;obtain⟨⟨a,e,q⟩,z⟩:=h;exact⟨⟨a,e,Qsi s q⟩,z⟩
 | .non,_,_,h=>h
 | .bl _,_,_,h=>h
 | .int _,_,_,h=>h
 | .str _,_,_,h=>h
 | .tup ds,_,_,h=>by
  simp only[Rp]at h ⊢;obtain⟨a,vs,e,q,r⟩:=h;exact⟨a,vs,e,QoT s q,Rps.same s r⟩
 | .lst ds,_,_,h=>by
  simp only[Rp]at h ⊢;obtain⟨hz,a,vs,e,⟨G,eF,q,r⟩ | ⟨q,r⟩⟩:=h
  ·exact⟨hz,a,vs,e,.inl ⟨G,eF,s _ _ q,Rps.same s r⟩⟩
  ·exact⟨hz,a,vs,e,.inr ⟨QpP s q,Rps.same s r⟩⟩
theorem Rps.same(s:QQ H H'):∀{ds:List D}{vs:List V}{F:LAd},Rps K H ds vs F->Rps K H' ds vs F
 | [],_,_,h=>h
 | d::ds,_,_,h=>by
  simp only[Rps]at h ⊢;obtain⟨v,ws,F1,F2,e,eF,r,q⟩:=h;exact⟨v,ws,F1,F2,e,eF,Rp.same s r,Rps.same s q⟩
end
mutual
theorem Rp.upd{p:Addr}{zs ys:List V}(hp:H p=some (.lst zs)):∀{d:D}{v:V}{F:LAd},Rp K H d v F->p∉F->Rp K (upd H p (.lst ys)) d v F
 | .exc _,_,_,h,_=>by
  simp only[Rp]at h ⊢;obtain⟨⟨a,e,q⟩,z⟩:=h;exact⟨⟨a,e,Quo hp q⟩,z⟩
 | .non,_,_,h,_=>h
 | .bl _,_,_,h,_=>h
 | .int _,_,_,h,_=>h
 | .str _,_,_,h,_=>h
 | .tup ds,_,_,h,hn=>by
  simp only[Rp]at h ⊢;obtain⟨a,vs,e,q,r⟩:=h;exact⟨a,vs,e,QqE hp q,Rps.upd hp r hn⟩
 | .lst ds,_,_,h,hn=>by
  simp only[Rp]at h ⊢;obtain⟨hz,a,vs,e,⟨G,eF,q,r⟩ | ⟨q,r⟩⟩:=h
  ·subst eF;have h1:a≠p:=λz=>hn (by rw[z];exact Zl);exact⟨hz,a,vs,e,.inl ⟨G,rfl,by rw[QP h1];exact q,Rps.upd hp r λz=>hn (Zc _ z)⟩⟩
  ·exact⟨hz,a,vs,e,.inr ⟨Qxh hp q,Rps.upd hp r hn⟩⟩
theorem Rps.upd{p:Addr}{zs ys:List V}(hp:H p=some (.lst zs)):∀{ds:List D}{vs:List V}{F:LAd},Rps K H ds vs F->p∉F->Rps K (upd H p (.lst ys)) ds vs F
 | [],_,_,h,_=>h
 | d::ds,_,_,h,hn=>by
  simp only[Rps]at h ⊢;obtain⟨v,ws,F1,F2,e,eF,r,q⟩:=h;subst eF;exact⟨v,ws,F1,F2,e,rfl,Rp.upd hp r λz=>hn (Zg _ z),Rps.upd hp q λz=>hn (Ze _ z)⟩
end
mutual
theorem Rp.mem:∀{d:D}{v:V}{F:LAd},Rp K H d v F->∀a∈F,∃vs,H a=some (.lst vs)
 | .non,_,_,h,a,ha=>by simp only[Rp]at h;rw[h.2]at ha;simp at ha
 | .bl _,_,_,h,a,ha=>by simp only[Rp]at h;rw[h.2]at ha;simp at ha
 | .int _,_,_,h,a,ha=>by simp only[Rp]at h;rw[h.2]at ha;simp at ha
 | .str _,_,_,h,a,ha=>by simp only[Rp]at h;rw[h.2]at ha;simp at ha
 | .exc _,_,_,h,a,ha=>by simp only[Rp]at h;rw[h.2]at ha;simp at ha
 | .tup ds,_,_,h,a,ha=>by
  simp only[Rp]at h;obtain⟨_,vs,e,q,r⟩:=h;exact Rps.mem r a ha
 | .lst ds,_,_,h,a,ha=>by
  simp only[Rp]at h;obtain⟨_,b,vs,e,⟨G,eF,q,r⟩ | ⟨q,r⟩⟩:=h
  ·subst eF;rcases Zj.mp ha with z | z
   ·exact⟨vs,by rw[z];exact q⟩
   ·exact Rps.mem r a z
  ·exact Rps.mem r a ha
theorem Rps.mem:∀{ds:List D}{vs:List V}{F:LAd},Rps K H ds vs F->∀a∈F,∃vs,H a=some (.lst vs)
 | [],_,_,h,a,ha=>by simp only[Rps]at h;rw[h.2]at ha;simp at ha
 | d::ds,_,_,h,a,ha=>by
  simp only[Rps]at h;obtain⟨v,ws,F1,F2,e,eF,r,q⟩:=h;subst eF;rcases ZG.mp ha with z | z
  ·exact Rp.mem r a z
  ·exact Rps.mem q a z
end
mutual
theorem Rp.Qco:∀{d:D}{v:V}{F:LAd},Rp K H d v F->d.flat=true->F=[]
 | .non,_,_,h,_=>by simp only[Rp]at h;exact h.2
 | .bl _,_,_,h,_=>by simp only[Rp]at h;exact h.2
 | .int _,_,_,h,_=>by simp only[Rp]at h;exact h.2
 | .str _,_,_,h,_=>by simp only[Rp]at h;exact h.2
 | .exc _,_,_,h,_=>by simp only[Rp]at h;exact h.2
 | .tup ds,_,_,h,hf=>by
  simp only[Rp]at h;simp only[D.flat]at hf;obtain⟨_,vs,e,q,r⟩:=h;exact Rps.Qco r hf
 | .lst ds,_,_,h,hf=>by simp[D.flat]at hf
theorem Rps.Qco:∀{ds:List D}{vs:List V}{F:LAd},Rps K H ds vs F->Qak ds=true->F=[]
 | [],_,_,h,_=>by simp only[Rps]at h;exact h.2
 | d::ds,_,_,h,hf=>by
  simp only[Rps]at h;simp only[Qak,Zm]at hf;obtain⟨v,ws,F1,F2,e,eF,r,q⟩:=h;rw[eF,Rp.Qco r hf.1,Rps.Qco q hf.2];rfl
end
mutual
theorem Rp.QaJ:∀{d:D}{v:V}{F:LAd},Rp K H d v F->F.length<=d.nl
 | .non,_,_,h=>by simp only[Rp]at h;rw[h.2];exact Zaa _
 | .bl _,_,_,h=>by simp only[Rp]at h;rw[h.2];exact Zaa _
 | .int _,_,_,h=>by simp only[Rp]at h;rw[h.2];exact Zaa _
 | .str _,_,_,h=>by simp only[Rp]at h;rw[h.2];exact Zaa _
 | .exc _,_,_,h=>by simp only[Rp]at h;rw[h.2];exact Zaa _
 | .tup ds,_,_,h=>by
  simp only[Rp]at h;obtain⟨_,vs,e,q,r⟩:=h;simp only[D.nl];exact Rps.QaJ r
 | .lst ds,_,_,h=>by
  simp only[Rp]at h;simp only[D.nl];obtain⟨_,b,vs,e,⟨G,eF,q,r⟩ | ⟨q,r⟩⟩:=h
  ·rw[eF,ZR];have:=Rps.QaJ r;omega
  ·have:=Rps.QaJ r;omega
theorem Rps.QaJ:∀{ds:List D}{vs:List V}{F:LAd},Rps K H ds vs F->F.length<=nls ds
 | [],_,_,h=>by simp only[Rps]at h;rw[h.2];exact Zaa _
 | d::ds,_,_,h=>by
  simp only[Rps]at h;obtain⟨v,ws,F1,F2,e,eF,r,q⟩:=h;simp only[nls];rw[eF,Zy];have:=Rp.QaJ r;have:=Rps.QaJ q;omega
end
theorem Rps.length:∀{ds:List D}{vs:List V}{F:LAd},Rps K H ds vs F->ds.length=vs.length
 | [],_,_,h=>by simp only[Rps]at h;rw[h.1];rfl
 | d::ds,_,_,h=>by
  simp only[Rps]at h;obtain⟨v,ws,F1,F2,e,eF,r,q⟩:=h;rw[e,ZR,ZR,Rps.length q]
theorem Rps.append:∀{ds es:List D}{vs ws:List V}{F G:LAd},Rps K H ds vs F->Rps K H es ws G->Rps K H (ds++es) (vs++ws) (F++G)
 | [],_,_,_,_,_,h,g=>by simp only[Rps]at h;rw[h.1,h.2];exact g
 | d::ds,_,_,_,_,_,h,g=>by
  simp only[Rps,Zca]at h ⊢;obtain⟨v,ws,F1,F2,e,eF,r,q⟩:=h;subst e eF;exact⟨v,_,F1,_,rfl,by rw[Zbc],r,Rps.append q g⟩
theorem Rps.get:∀{ds:List D}{vs:List V}{F:LAd}{i:Nat}{d:D},Rps K H ds vs F->ds[i]? =some d->∃v F1 G F2,vs[i]? =some v/\F=F1++(G++F2)/\Rp K H d v G/\(F.length=nls ds->G.length=d.nl)
 | [],_,_,_,_,_,e=>by simp at e
 | d::ds,_,_,0,_,h,e=>by
  simp only[Rps]at h;obtain⟨v,ws,F1,F2,e1,eF,r,q⟩:=h;simp at e;subst e e1 eF;refine⟨v,[],F1,F2,by simp,rfl,r,λhl=>?_⟩;simp only[nls,Zy]at hl;have:=Rp.QaJ r;have:=Rps.QaJ q;omega
 | d::ds,_,_,i+1,_,h,e=>by
  simp only[Rps]at h;obtain⟨v,ws,F1,F2,e1,eF,r,q⟩:=h;obtain⟨v',G1,G,G2,h1,h2,h3,h4⟩:=Rps.get q (by simpa using e);have l1:=Rp.QaJ r;have l2:=Rps.QaJ q;subst e1 eF;refine⟨v',F1++G1,G,G2,by simpa using h1,by rw[h2,Zbc],h3,λhl=>h4 ?_⟩;simp only[nls,Zy]at hl;omega
theorem Fix.sq{K:Fgg}{H:Hp}{a:Addr}{vs:List V}(h:Fix K H a vs):SqL K H a vs:=by
 rcases h with⟨o,h⟩ | ⟨its,n,h,hz,r⟩
 ·exact .inl (.inr ⟨o,h⟩)
 ·exact .inr ⟨_,its.toArray,n,h,rfl,rfl,rfl,by rw[Zx,← r.length];exact hz,by simpa using r⟩
theorem _root_.L2.Inv.QpX(I:Inv X pins σ H s)(h:H a=some (.lst vs)∨Fix X.K H a vs):
  vs.length<=sizeLine/\∃(its:List Value) (n:Nat),QK vs its/\vs.length=its.length/\s.heap.get? a=some {cls:= .type "list",data:= .seq its.toArray n}:=by
 rcases h with h | ⟨o,h⟩ | ⟨its,n,h,hz,r⟩
 ·exact I.Qy0 h
 ·obtain⟨e,hz,its,n,r,e2⟩:=I.hok a _ h;exact⟨hz,its,n,r,r.length,e2⟩
 ·exact⟨hz,its,n,r,r.length,I.kIn _ _ h⟩
theorem Rp.lst_inv{K:Fgg}{H:Hp}{ds:List D}{v:V}{F:LAd}(h:Rp K H (.lst ds) v F):
  ∃a vs G,v= .ref a/\(H a=some (.lst vs)∨Fix K H a vs)/\Rps K H ds vs G/\ds.length<=sizeLine/\(F=a::G∨F=G):=by
 simp only[Rp]at h;obtain⟨hz,a,vs,e,⟨G,eF,q,r⟩ | ⟨q,r⟩⟩:=h
 ·exact⟨a,vs,G,e,.inl q,r,hz,.inl eF⟩
 ·exact⟨a,vs,F,e,.inr q,r,hz,.inr rfl⟩
theorem Q1{K:Fgg}{H:Hp}{a:Addr}{vs:List V}(h:H a=some (.lst vs)∨Fix K H a vs):SqL K H a vs:=h.elim (λh=>SqL.of h) Fix.sq
theorem Rp.Qa8{K:Fgg}{H:Hp}{ds:List D}{v:V}{F:LAd}(h:Rp K H (.tup ds) v F):∃a vs,v= .ref a/\SqT K H a vs/\Rps K H ds vs F:=by
 simp only[Rp]at h;exact h
theorem Rp.Qeb{K:Fgg}{H:Hp}{ds:List D}{a:Addr}{vs:List V}{G:LAd}(h:H a=some (.lst vs))(r:Rps K H ds vs G)(hz:ds.length<=sizeLine):Rp K H (.lst ds) (.ref a) (a::G):=by
 simp only[Rp];exact⟨hz,a,vs,rfl,.inl ⟨G,rfl,h,r⟩⟩
theorem Rp.Qhl{K:Fgg}{H:Hp}{ds:List D}{a:Addr}{vs:List V}{G:LAd}(h:H a=some (.tup vs))(r:Rps K H ds vs G):Rp K H (.tup ds) (.ref a) G:=by
 simp only[Rp];exact⟨a,vs,rfl,SqT.of h,r⟩
theorem Rp.int_inv{K:Fgg}{H:Hp}{i:Int}{v:V}{F:LAd}(h:Rp K H (.int i) v F):v= .int i:=by simp only[Rp]at h;exact h.1
theorem Rp.QiJ{K:Fgg}{H:Hp}{i:Bool}{v:V}{F:LAd}(h:Rp K H (.bl i) v F):v= .bl i:=by simp only[Rp]at h;exact h.1
theorem Rp.QmR{K:Fgg}{H:Hp}{v:V}{F:LAd}(h:Rp K H .non v F):v= .non:=by simp only[Rp]at h;exact h.1
theorem Rp.str_inv{K:Fgg}{H:Hp}{i:Str}{v:V}{F:LAd}(h:Rp K H (.str i) v F):v= .str i:=by simp only[Rp]at h;exact h.1
theorem Rp.int_mk{K:Fgg}{H:Hp}{i:Int}:Rp K H (.int i) (.int i) []:=by simp[Rp]
theorem Rp.QdK{K:Fgg}{H:Hp}{i:Bool}:Rp K H (.bl i) (.bl i) []:=by simp[Rp]
theorem Rp.Qle{K:Fgg}{H:Hp}:Rp K H .non .non []:=by simp[Rp]
theorem Rp.str_mk{K:Fgg}{H:Hp}{i:Str}:Rp K H (.str i) (.str i) []:=by simp[Rp]
theorem Qbj(h:H p=none):QQ H (L2.upd H p o):=λb u e=>by rw[QP (QbU e h)];exact e
end
end HS
namespace HS
open PySem PySem.Spec L2
noncomputable abbrev En:=List (Option (D×Bool))
noncomputable abbrev slT(d:D):Option (D×Bool):=some (d,true)
noncomputable abbrev slF(d:D):Option (D×Bool):=some (d,false)
noncomputable abbrev slI(i:Int):Option (D×Bool):=some (.int i,true)
theorem nn{α:Type}{x:α}{C:Prop}(h:(none:Option α)=some x):C:=nomatch h
structure R where
 d:D
 fr:Bool
 M:List Nat
noncomputable abbrev reT(d:D):R:=⟨d,true,[]⟩
noncomputable abbrev reF(d:D):R:=⟨d,false,[]⟩
noncomputable abbrev reI(i:Int):R:=⟨.int i,true,[]⟩
structure RA where
 ds:List D
 fr:Bool
 M:List Nat
noncomputable abbrev DE:=En->Option R
noncomputable abbrev DA:=En->Option RA
noncomputable abbrev DT:=En->Option Bool
structure Rel (K:Fgg) (H0:Hp) (A0:LAd) (hs:List (V×D×List Addr)) (U:En) (F:Nat->List Addr) (σ:St) (H:Hp):Prop where
 len:U.length=σ.length
 val:∀(i:Nat) d b,U[i]? =some (some (d,b))->∃v,σ[i]? =some (some v)/\Rp K H d v (F i)
 own:∀(i:Nat) d,U[i]? =some (some (d,true))->(F i).length=d.nl/\(F i).Nodup/\(∀a∈F i,H0 a=none)/\(∀(j:Nat) d' b',j≠i->U[j]? =some (some (d',b'))->∀a∈F i,a∉F j)/\∀t∈hs,∀a∈F i,a∉t.2.2
 src:∀(i:Nat) d b,U[i]? =some (some (d,b))->∀a∈F i,H0 a=none∨a∈A0
 held:∀t∈hs,Rp K H t.2.1 t.1 t.2.2/\∀a∈t.2.2,H0 a=none∨a∈A0
 same:QQ H0 H
def Src(U:En)(F:Nat->List Addr)(H:Hp)(M:List Nat)(G:LAd):Prop:=
 ∀a∈G,H a=none∨∃(i:Nat) (d:D) (b:Bool),U[i]? =some (some (d,b))/\a∈F i/\(b=true->i∈M)
noncomputable def nw(H:Hp)(a:Addr):Nat:=match H a with | none=>1 | some _=>0
def Cnt(F:Nat->List Addr)(H:Hp)(M:List Nat)(G:LAd):Prop:=
 ∀a,G.count a<=nw H a+((M.map F).flatten).count a
def Qbz(U:En)(M:List Nat):Prop:=∀i∈M,∃d,U[i]? =some (some (d,true))
structure Qaa (K:Fgg) (U:En) (F:Nat->List Addr) (H H':Hp) (r:R) (v:V) (G:LAd):Prop where
 same:QQ H H'
 rp:Rp K H' r.d v G
 src:Src U F H r.M G
 cnt:r.fr=true->Cnt F H r.M G/\G.length=r.d.nl
 own:Qbz U r.M
structure QrX (K:Fgg) (U:En) (F:Nat->List Addr) (H H':Hp) (r:RA) (vs:List V) (G:LAd):Prop where
 same:QQ H H'
 rp:Rps K H' r.ds vs G
 src:Src U F H r.M G
 cnt:r.fr=true->Cnt F H r.M G/\G.length=nls r.ds
 own:Qbz U r.M
noncomputable def tV(K:Fgg)(H0:Hp)(A0:LAd)(f:DE):TE:=λσ H Q=>∃U hs F r,Rel K H0 A0 hs U F σ H/\f U=some r/\∀v H' G,Qaa K U F H H' r v G->Q v H'
noncomputable def tVA(K:Fgg)(H0:Hp)(A0:LAd)(f:DA):TA:=λσ H Q=>∃U hs F r,Rel K H0 A0 hs U F σ H/\f U=some r/\∀v H' G,QrX K U F H H' r v G->Q v H'
noncomputable def tVT(K:Fgg)(H0:Hp)(A0:LAd)(f:DT):TT:=λσ H Q=>∃U hs F b,Rel K H0 A0 hs U F σ H/\f U=some b/\∀H',QQ H H'->Q b H'
def SE(X:Cx)(e:Expr)(f:DE):Prop:=∀H0 A0,PE X e (tV X.K H0 A0 f)
def SA(X:Cx)(es:List Expr)(f:DA):Prop:=∀H0 A0,PA X es (tVA X.K H0 A0 f)
def ST(X:Cx)(e:Expr)(f:DT):Prop:=∀H0 A0,PT X e (tVT X.K H0 A0 f)
theorem _root_.L2.PE.mono(h:PE X e t)(m:∀σ H Q,t' σ H Q->t σ H Q):PE X e t':=λpins s σ H Q I q=>h pins s σ H Q I (m σ H Q q)
theorem _root_.L2.PT.mono(h:PT X e t)(m:∀σ H Q,t' σ H Q->t σ H Q):PT X e t':=λpins s σ H Q I q=>h pins s σ H Q I (m σ H Q q)
theorem _root_.L2.PA.mono(h:PA X e t)(m:∀σ H Q,t' σ H Q->t σ H Q):PA X e t':=λpos pins s σ H Q I q=>h pos pins s σ H Q I (m σ H Q q)
section
theorem Rel.ext(r:Rel K H0 A0 hs U F σ H)(s:QQ H H'):Rel K H0 A0 hs U F σ H' where
 len:=r.len
 val:=λi d b e=>let ⟨v,h1,h2⟩:=r.val i d b e;⟨v,h1,h2.same s⟩
 own:=r.own
 src:=r.src
 held:=λt ht=>⟨(r.held t ht).1.same s,(r.held t ht).2⟩
 same:=r.same.trans s
theorem Rel.mem(r:Rel K H0 A0 hs U F σ H)(e:U[i]? =some (some (d,b)))(h:a∈F i):∃vs,H a=some (.lst vs):=
 let ⟨_,_,h2⟩:=r.val i d b e;h2.mem a h
theorem QcY(h:H a=some o):nw H a=0:=by simp[nw,h]
theorem Qbw(h:H a=none):nw H a=1:=by simp[nw,h]
theorem Rel.fl0(r:Rel K H0 A0 hs U F σ H)(ow:Qbz U M)(h:H a=none):((M.map F).flatten).count a=0:=by
 rw[ZS];intro hm;obtain⟨l,hl,ha⟩:=ZbF.mp hm;obtain⟨i,hi,rfl⟩:=ZL.mp hl;obtain⟨d,e⟩:=ow i hi;obtain⟨vs,q⟩:=r.mem e ha;rw[h]at q;cases q
theorem Cnt.append(r:Rel K H0 A0 hs U F σ H)(c1:Cnt F H M1 G1)(c2:Cnt F H1 M2 G2)(s:QQ H H1)(m1:∀a∈G1,∃vs,H1 a=some (.lst vs)):Cnt F H (M1++M2) (G1++G2):=λa=>by
 rw[Zau,ZaC,List.flatten_append,Zau];have h1:=c1 a;have h2:=c2 a;cases q:H1 a with
 | some o=>rw[QcY q]at h2;omega
 | none=>
  rw[Qbw q]at h2;have h3:H a=none:=s.free q;rw[Qbw h3]at h1 ⊢;have h4:G1.count a=0:=ZS.mpr λhm=>by obtain⟨vs,z⟩:=m1 a hm;rw[q]at z;cases z
  omega
theorem Src.append(c1:Src U F H M1 G1)(c2:Src U F H1 M2 G2)(s:QQ H H1):Src U F H (M1++M2) (G1++G2):=λa ha=>by
 rcases ZG.mp ha with h | h
 ·rcases c1 a h with z | ⟨i,d,b,e,m,w⟩
  ·exact .inl z
  ·exact .inr ⟨i,d,b,e,m,λhb=>Zg _ (w hb)⟩
 ·rcases c2 a h with z | ⟨i,d,b,e,m,w⟩
  ·exact .inl (s.free z)
  ·exact .inr ⟨i,d,b,e,m,λhb=>Ze _ (w hb)⟩
theorem Qbz.append(h1:Qbz U M1)(h2:Qbz U M2):Qbz U (M1++M2):=λi hi=>(ZG.mp hi).elim (h1 i) (h2 i)
theorem Qbz.nil:Qbz U []:=λi hi=>by simp at hi
theorem Src.nil:Src U F H M []:=λa ha=>by simp at ha
theorem Cnt.nil:Cnt F H M []:=λa=>by simp
theorem Qaa.flat(s:QQ H H')(r:Rp K H' d v [])(hf:d.flat=true:=by rfl):Qaa K U F H H' ⟨d,true,[]⟩ v []:=⟨s,r,Src.nil,λ_=>⟨Cnt.nil,(Qeo d hf).symm⟩,Qbz.nil⟩
theorem Qaa.sub(p:Qaa K U F H H1 r v G)(rp:Rp K H1 d u G')(hs:∀a,G'.count a<=G.count a)(hn:G.length=r.d.nl->G'.length=d.nl):Qaa K U F H H1 ⟨d,r.fr,r.M⟩ u G' where
 same:=p.same
 rp:=rp
 src:=λa ha=>p.src a (by
  have:=hs a;have h1:0<G'.count a:=Zal.mpr ha;exact Zal.mp ⋯)
 cnt:=λh=>⟨λa=>Zt (hs a) ((p.cnt h).1 a),hn (p.cnt h).2⟩
 own:=p.own
noncomputable def R.norm(r:R):R:=if r.d.flat then⟨r.d,true,[]⟩else r
theorem R.QcV(r:R):r.norm.d=r.d:=by unfold R.norm;split<;>rfl
theorem Qaa.norm(p:Qaa K U F H H' r v G):Qaa K U F H H' r.norm v G:=by
 unfold R.norm;split
 ·rename_i h;have:=p.rp.Qco h;subst this;exact .flat p.same p.rp h
 ·exact p
end
noncomputable def Qg(i:Nat):DE:=λU=>match U[i]? with
 | some (some (d,b))=>if d.flat then some ⟨d,true,[]⟩else if b then some ⟨d,true,[i]⟩else some ⟨d,false,[]⟩
 | _=>none
noncomputable def dC(d:D):DE:=λ_=>some ⟨d,true,[]⟩
noncomputable abbrev vv0:DE:=Qg 0
noncomputable abbrev vv1:DE:=Qg 1
noncomputable abbrev vv2:DE:=Qg 2
noncomputable abbrev vv3:DE:=Qg 3
noncomputable abbrev vv4:DE:=Qg 4
noncomputable abbrev vv5:DE:=Qg 5
noncomputable abbrev vv6:DE:=Qg 6
noncomputable abbrev vv7:DE:=Qg 7
noncomputable abbrev vv8:DE:=Qg 8
noncomputable abbrev vv9:DE:=Qg 9
noncomputable abbrev Qnf:DE:=Qg 10
noncomputable abbrev kk0:DE:=dC (.int 0)
noncomputable abbrev kk1:DE:=dC (.int 1)
noncomputable abbrev kk2:DE:=dC (.int 2)
noncomputable abbrev kk3:DE:=dC (.int 3)
noncomputable abbrev kk4:DE:=dC (.int 4)
noncomputable abbrev kk5:DE:=dC (.int 5)
noncomputable abbrev kk6:DE:=dC (.int 6)
noncomputable abbrev kk7:DE:=dC (.int 7)
noncomputable abbrev kk9:DE:=dC (.int 9)
noncomputable abbrev QCv:DE:=dC (.int 10)
noncomputable abbrev QCj:DE:=dC (.int 11)
noncomputable abbrev QzG:DE:=dC (.int 17)
noncomputable abbrev QyK:DE:=dC (.int 20)
noncomputable abbrev QCt:DE:=dC (.int 30)
noncomputable abbrev QCq:DE:=dC (.int 64)
noncomputable abbrev QCR:DE:=dC (.int 72)
noncomputable abbrev QA1:DE:=dC (.int 300)
noncomputable abbrev Qtr:DE:=dC (.int 7919)
noncomputable abbrev Qxi:DE:=dC (.int 16807)
noncomputable abbrev QjA:DE:=dC (.int 48271)
noncomputable abbrev QxJ:DE:=dC (.int 69621)
noncomputable abbrev Qnm:DE:=dC (.int 1000003)
noncomputable abbrev Qo5:DE:=dC (.int 2147483629)
noncomputable abbrev QfO:DE:=dC (.int 2147483647)
section
theorem Qdg(h:PE X (.Name x pos) (QgW i)):SE X (.Name x pos) (Qg i):=λH0 A0=>h.mono λσ H Q=>exK λU hs F r rel e q=>by
 unfold Qg at e;split at e
 ·rename_i d b q1;obtain⟨v,h1,h2⟩:=rel.val i d b q1;refine⟨v,h1,q v H (F i) ?_⟩;split at e
  ·rename_i hf;cases e;have:=h2.Qco hf;rw[this]at h2 ⊢;exact .flat (QQ.refl _) h2 hf
  ·split at e
   ·rename_i hb;cases e;subst hb;exact⟨QQ.refl _,h2,λa ha=> .inr ⟨i,d,true,q1,ha,λ_=>by simp⟩,λ_=>⟨λa=>(by simp),(rel.own i d q1).1⟩,λj hj=>by simp at hj;subst hj;exact⟨d,q1⟩⟩
   ·rename_i hb;cases e;simp at hb;subst hb;exact⟨QQ.refl _,h2,λa ha=> .inr ⟨i,d,false,q1,ha,λz=>by cases z⟩,λz=>(by cases z),Qbz.nil⟩
 ·cases e
theorem Ql8(h:PE X e (tC v))(r:∀K H,Rp K H d v [])(hf:d.flat=true):SE X e (dC d):=λH0 A0=>h.mono λσ H Q=>exK λU hs F r' rel e q=>by
 cases e;exact q v H [] (.flat (QQ.refl _) (r _ _) hf)
theorem two{K:Fgg}{H0:Hp}{A0:LAd}{fa fb:DE}{σ:St}{H:Hp}{hs:List (V×D×List Addr)}{U:En}{F:Nat->List Addr}{ra rb:R}{Rr:V->V->Hp->Prop}(rel:Rel K H0 A0 hs U F σ H)(ea:fa U=some ra)(eb:fb U=some rb)
  (k:∀x y H1 H2 G1 G2,Qaa K U F H H1 ra x G1->Qaa K U F H1 H2 rb y G2->Rr x y H2):tV K H0 A0 fa σ H λx H1=>tV K H0 A0 fb σ H1 λy H2=>Rr x y H2:=
 ⟨U,hs,F,ra,rel,ea,λx H1 G1 p1=>⟨U,hs,F,rb,rel.ext p1.same,eb,λy H2 G2 p2=>k x y H1 H2 G1 G2 p1 p2⟩⟩
noncomputable def dOp(g:D->D->Option D)(fa fb:DE):DE:=λU=>(fa U).bind λra=>(fb U).bind λrb=>(g ra.d rb.d).map λd=>⟨d,true,[]⟩
theorem Qng(e:dOp g fa fb U=some r):∃ra rb d,fa U=some ra/\fb U=some rb/\g ra.d rb.d=some d/\r=⟨d,true,[]⟩:=by
 unfold dOp at e;cases h1:fa U with
 | none=>rw[h1]at e;cases e
 | some ra=>
  cases h2:fb U with
  | none=>rw[h1,h2]at e;cases e
  | some rb=>
   rw[h1,h2]at e;cases h3:g ra.d rb.d with
   | none=>simp[h3]at e
   | some d=>simp[h3]at e;exact⟨ra,rb,d,rfl,rfl,h3,e.symm⟩
def QcE(K:Fgg)(g:D->D->Option D)(r:R2):Prop:=∀a b d,g a b=some d->d.flat=true/\∀H x y F G (Q:VK),Rp K H a x F->Rp K H b y G->(∀v,(∀H',Rp K H' d v [])->Q v H)->r x y H Q
theorem Qk7(ho:OpR X (binaryOp op) r)(hg:QcE X.K g r)(ha:SE X a fa)(hb:SE X b fb):SE X (.BinOp a op b pos) (dOp g fa fb):=λH0 A0=>
 (Qrt ho (ha H0 A0) (hb H0 A0)).mono λσ H Q=>exK λU hs F r' rel e q=>by
  obtain⟨ra,rb,d,ea,eb,eg,rfl⟩:=Qng e;refine two rel ea eb λx y H1 H2 G1 G2 p1 p2=>(hg _ _ _ eg).2 H2 x y G1 G2 Q (p1.rp.same p2.same) p2.rp λv hv=>?_;exact q v H2 [] (.flat (p1.same.trans p2.same) (hv H2) (hg _ _ _ eg).1)
theorem Qzm(ho:OpR X (compareOp op) r)(hg:QcE X.K g r)(ha:SE X a fa)(hb:SE X b fb)(hm:behindInMarks op b=false):SE X (.Compare a [op] [b] pos) (dOp g fa fb):=λH0 A0=>
 (QyD ho (ha H0 A0) (hb H0 A0) hm).mono λσ H Q=>exK λU hs F r' rel e q=>by
  obtain⟨ra,rb,d,ea,eb,eg,rfl⟩:=Qng e;refine two rel ea eb λx y H1 H2 G1 G2 p1 p2=>(hg _ _ _ eg).2 H2 x y G1 G2 Q (p1.rp.same p2.same) p2.rp λv hv=>?_;exact q v H2 [] (.flat (p1.same.trans p2.same) (hv H2) (hg _ _ _ eg).1)
end
noncomputable def Qd3(i j:Int):Int:=if 0<=j then i / j else i.fdiv j
noncomputable def Qdq(i j:Int):Int:=if 0<=j then i % j else i.fmod j
theorem QmD(i j:Int):Qd3 i j=i.fdiv j:=by
 unfold Qd3;split
 ·rw[ZbR _ (by assumption)]
 ·rfl
theorem QmH(i j:Int):Qdq i j=i.fmod j:=by
 unfold Qdq;split
 ·rw[Int.fmod_eq_emod_of_nonneg _ (by assumption)]
 ·rfl
noncomputable def QdT(i j:Int):Bool:=decide (i.natAbs<2^64) || decide (j.natAbs<2^64) || (decide (Builtin.Int.intBits i<=2^20) && decide (Builtin.Int.intBits j<=2^20))
noncomputable def Qb5(j:Int):Bool:=decide (j≠0) && decide (j.natAbs<2^8000)
noncomputable def gI(f:Int->Int->Option D)(a b:D):Option D:=match a,b with
 | .int i,.int j=>f i j
 | _,_=>none
noncomputable def Qax:=gI λi j=>some (.int (i-j))
noncomputable def Qa4:=gI λi j=>if Qb5 j then some (.int (Qd3 i j))else none
noncomputable def Q9:=gI λi j=>if j≠0 then some (.int (Qdq i j))else none
noncomputable def Qry:=gI λi j=>if 0<=j/\j<=1000/\i.natAbs<2^200 then some (.int (i^j.toNat))else none
noncomputable def QoD:=gI λi j=>if 0<=j then some (.int (i / 2^j.toNat))else none
noncomputable def gLt:=gI λi j=>some (.bl (decide (i<j)))
noncomputable def gLe:=gI λi j=>some (.bl (decide (i<=j)))
noncomputable def gGt:=gI λi j=>some (.bl (decide (j<i)))
noncomputable def gGe:=gI λi j=>some (.bl (decide (j<=i)))
theorem QsY(h:gI f a b=some d):∃i j,a= .int i/\b= .int j/\f i j=some d:=by
 unfold gI at h;split at h
 ·exact⟨_,_,rfl,rfl,h⟩
 ·cases h
section
theorem Qg3(hf:∀i j d,f i j=some d->d.flat=true)(h:∀i j d,f i j=some d->∀H (Q:VK),(∀v,(∀H',Rp K H' d v [])->Q v H)->r (.int i) (.int j) H Q):QcE K (gI f) r:=λa b d e=>by
 obtain⟨i,j,rfl,rfl,ef⟩:=QsY e;refine⟨hf i j d ef,λH x y F G Q ha hb q=>?_⟩;rw[ha.int_inv,hb.int_inv];exact h i j d ef H Q q
theorem QtB:QcE K Qax (rI0 λi j=> .int (i-j)):=Qg3 (λi j d e=>by cases e;rfl) λi j d e H Q q=>by cases e;exact⟨i,j,rfl,rfl,q _ λ_=> .int_mk⟩
theorem QvC(h:QdT i j=true):IntMulOk i j:=by
 have small:∀k:Int,k.natAbs<2^64->Builtin.Int.intBits k<=64:=λk hk=>by
  unfold Builtin.Int.intBits;split
  ·omega
  ·rename_i h0;have h0':k.natAbs≠0:=λz=>by simp_all
   have:=(Nat.log2_lt h0').mpr hk;omega
 unfold QdT at h;simp only[Zco,Zm,decide_eq_true_eq]at h;rcases h with(h | h) | ⟨h1,h2⟩
 ·exact .of_left (small i h)
 ·exact .of_right (small j h)
 ·exact .of_bits h1 h2
theorem QxK:OpR X (binaryOp .Mult) (rI (λi j=>QdT i j=true) λi j=> .int (i*j)):=opI λ_ _ _ _ _ _ _ hc q=>PyProof.Rows.mul_int q (QvC hc)
theorem Qx0:OpR X (binaryOp .FloorDiv) (rI (λi j=>Qb5 j=true) λi j=> .int (Qd3 i j)):=opI λi j _ _ _ _ _ hc q=>by
 unfold Qb5 at hc;simp only[Zm,decide_eq_true_eq]at hc;rw[QmD]at q;refine PyProof.Rows.floordiv_int hc.1 q (.inl (ZbV ?_));have h0:j.natAbs≠0:= ⋯
 exact Zch ((Nat.log2_lt h0).mpr hc.2) (by decide)
theorem QxW:OpR X (binaryOp .Mod) (rI (λi j=>j≠0) λi j=> .int (Qdq i j)):=opI λi j _ _ _ _ _ hc q=>by
 rw[QmH]at q;exact PyProof.Rows.mod_int' hc q
theorem Qz5:QcE K Qa4 (rI (λi j=>Qb5 j=true) λi j=> .int (Qd3 i j)):=Qg3 (λi j d e=>by split at e<;>cases e;rfl) λi j d e H Q q=>by
 split at e
 ·cases e;exact⟨i,j,rfl,rfl,by assumption,q _ λ_=> .int_mk⟩
 ·cases e
theorem QAP:QcE K Q9 (rI (λi j=>j≠0) λi j=> .int (Qdq i j)):=Qg3 (λi j d e=>by split at e<;>cases e;rfl) λi j d e H Q q=>by
 split at e
 ·cases e;exact⟨i,j,rfl,rfl,by assumption,q _ λ_=> .int_mk⟩
 ·cases e
theorem QxQ:OpR X (binaryOp .Pow) (rI (λi j=>0<=j/\j<=1000/\i.natAbs<2^200) λi j=> .int (i^j.toNat)):=opI λi j _ _ _ _ _ hc q=>by
 refine PyProof.Rows.pow_int hc.1 ?_ q;have hb:Builtin.Int.intBits i<=200:=by
  unfold Builtin.Int.intBits;split
  ·omega
  ·rename_i h0;have h0':i.natAbs≠0:=λz=>by simp_all
   have:=(Nat.log2_lt h0').mpr hc.2.2;omega
 have h1:((Builtin.Int.intBits i:Nat):Int)*j<=200*1000:=Int.mul_le_mul ⋯ hc.2.1 hc.1 (by decide);omega
theorem QzM:QcE K Qry (rI (λi j=>0<=j/\j<=1000/\i.natAbs<2^200) λi j=> .int (i^j.toNat)):=Qg3 (λi j d e=>by split at e<;>cases e;rfl) λi j d e H Q q=>by
 split at e
 ·rename_i h;cases e;exact⟨i,j,rfl,rfl,h,q _ λ_=> .int_mk⟩
 ·cases e
theorem QAF:QcE K QoD (rI (λ_ j=>0<=j) λi j=> .int (i / 2^j.toNat)):=Qg3 (λi j d e=>by split at e<;>cases e;rfl) λi j d e H Q q=>by
 split at e
 ·cases e;exact⟨i,j,rfl,rfl,by assumption,q _ λ_=> .int_mk⟩
 ·cases e
theorem QA9:QcE K gLt (rI0 λi j=> .bl (decide (i<j))):=Qg3 (λi j d e=>by cases e;rfl) λi j d e H Q q=>by cases e;exact⟨i,j,rfl,rfl,q _ λ_=> .QdK⟩
theorem QBy:QcE K gLe (rI0 λi j=> .bl (decide (i<=j))):=Qg3 (λi j d e=>by cases e;rfl) λi j d e H Q q=>by cases e;exact⟨i,j,rfl,rfl,q _ λ_=> .QdK⟩
theorem QBz:QcE K gGt (rI0 λi j=> .bl (decide (j<i))):=Qg3 (λi j d e=>by cases e;rfl) λi j d e H Q q=>by cases e;exact⟨i,j,rfl,rfl,q _ λ_=> .QdK⟩
theorem QAY:QcE K gGe (rI0 λi j=> .bl (decide (j<=i))):=Qg3 (λi j d e=>by cases e;rfl) λi j d e H Q q=>by cases e;exact⟨i,j,rfl,rfl,q _ λ_=> .QdK⟩
end
theorem QcM:∀(xs ys:List D),Qak (xs++ys)=(Qak xs && Qak ys)
 | [],ys=>by simp[Qak]
 | x::xs,ys=>by simp[Qak,QcM xs ys,Bool.and_assoc]
noncomputable def Qa0(ds:List D)(M:List Nat):R:=if Qak ds then⟨.lst ds,true,[]⟩else⟨.lst ds,false,M⟩
section
variable {K:Fgg}{H0 H H':Hp}{A0:LAd}{hs:List (V×D×List Addr)}{U:En}{F:Nat->List Addr}{σ:L2.St}
theorem Qaa.Qa0(s:QQ H H1)(hp:H1 p=none)(r:Rps K H1 ds vs G)(hz:ds.length<=sizeLine)(src:Src U F H M G)(ow:Qbz U M):
  Qaa K U F H (upd H1 p (.lst vs)) (Qa0 ds M) (.ref p) (p::G):=by
 have s2:QQ H1 (upd H1 p (.lst vs)):=Qbj hp;have rp:Rp K (upd H1 p (.lst vs)) (.lst ds) (.ref p) (p::G):=Rp.Qeb Qac (r.same s2) hz;have hH:H p=none:=s.free hp;unfold HS.Qa0;split
 ·rename_i hf;have:=r.Qco hf;subst this;refine⟨s.trans s2,rp,λa ha=>?_,λ_=>⟨λa=>?_,by simp only[D.nl,QkO ds hf];rfl⟩,Qbz.nil⟩
  ·have:a=p:=by simpa using ha
   subst this;exact .inl hH
  ·rw[List.count_singleton];split
   ·rename_i e;have e':p=a:=by simpa using e
    subst e';rw[Qbw hH];omega
   ·omega
 ·refine⟨s.trans s2,rp,λa ha=>?_,λz=>(by cases z),ow⟩;rcases Zj.mp ha with rfl | h
  ·exact .inl hH
  ·exact src a h
end
noncomputable def QE(fa fb:DE):DE:=λU=>(fa U).bind λra=>(fb U).bind λrb=>match ra.d,rb.d with
 | .int i,.int j=>some ⟨.int (i+j),true,[]⟩
 | .lst xs,.lst ys=>if xs.length+ys.length<=sizeLine then some (Qa0 (xs++ys) (ra.M++rb.M))else none
 | _,_=>none
noncomputable def QZ(fa fb:DE):DE:=λU=>(fa U).bind λra=>(fb U).bind λrb=>match ra.d,rb.d with
 | .int i,.int j=>if QdT i j then some ⟨.int (i*j),true,[]⟩else none
 | .lst xs,.int j=>if xs.length*j.toNat<=sizeLine/\ -(2^63)<=j/\j<2^63/\Qak xs=true then some ⟨.lst (List.replicate j.toNat xs).flatten,true,[]⟩else none
 | _,_=>none
theorem QrA{fa fb:DE}{U:En}{k:R->R->Option R}{r:R}(e:((fa U).bind λra=>(fb U).bind λrb=>k ra rb)=some r):∃ra rb,fa U=some ra/\fb U=some rb/\k ra rb=some r:=by
 cases h1:fa U with
 | none=>rw[h1]at e;cases e
 | some ra=>
  cases h2:fb U with
  | none=>rw[h1,h2]at e;cases e
  | some rb=>rw[h1,h2]at e;exact⟨ra,rb,rfl,rfl,e⟩
theorem bind1{α β:Type}{x:Option α}{k:α->Option β}{r:β}(e:x.bind k=some r):∃a,x=some a/\k a=some r:=by
 cases x with
 | none=>cases e
 | some a=>exact⟨a,rfl,e⟩
section
noncomputable def QBg(K:Fgg):R2:=λx y H Q=>∃l c xs zs,x= .ref l/\y= .ref c/\(H l=some (.lst xs)∨Fix K H l xs)/\(H c=some (.lst zs)∨Fix K H c zs)/\xs.length+zs.length<=sizeLine/\∀p,H p=none->Q (.ref p) (upd H p (.lst (xs++zs)))
theorem mapR{α γ:Type}{x:Option α}{f:α->γ}{r:γ}{M:γ->Prop}(e:x.map f=some r)(g:∀a,x=some a->M (f a)):M r:=by
 obtain⟨a,h,rfl⟩:=Zh.mp e;exact g a h
theorem Qf{α β:Type}{x:Option α}{k:α->Option β}{r:β}{G:Prop}(e:x.bind k=some r)(g:∀a,x=some a->k a=some r->G):G:=let ⟨a,h1,h2⟩:=bind1 e;g a h1 h2
theorem Qyv:OpR X (binaryOp .Add) (QBg X.K):=by
 intro pins s σ H x y v u Q I rx ry h;obtain⟨l,c,xs,zs,rfl,rfl,hH,hB,hz,q⟩:=h;cases rx;cases ry;obtain⟨z,its,n,r,hl,e⟩:=I.QpX hH;obtain⟨z2,its2,n2,r2,hl2,e2⟩:=I.QpX hB;refine PySem.P.add_list e e2 ?_ (by rw[Zx,Zx];omega);have ea:its.toArray++its2.toArray=(its++its2).toArray:=by simp
 rw[ea];exact⟨.ref _,_,I.Qy2 (t':=s.toks) (r.append r2) (by rw[Zy];omega),rfl,q _ I.fresh⟩
theorem QzK(ha:SE X a fa)(hb:SE X b fb):SE X (.BinOp a .Add b pos) (QE fa fb):=λH0 A0=>
 (Qrt (QAD.or Qyv) (ha H0 A0) (hb H0 A0)).mono λσ H Q=>exK λU hs F r' rel e q=>by
  obtain⟨ra,rb,ea,eb,ek⟩:=QrA e;refine two rel ea eb λx y H1 H2 G1 G2 p1 p2=>?_;have p1':=p1.rp.same p2.same;have p2':=p2.rp;have c1:=p1.src.append p2.src p1.same;have o1:=p1.own.append p2.own;revert ek;revert p1' p2';cases ra.d<;>cases rb.d<;>intro p1' p2' ek<;>first | (cases ek;done) | skip
  ·cases ek;rw[p1'.int_inv,p2'.int_inv];exact .inl ⟨_,_,rfl,rfl,q _ H2 [] (.flat (p1.same.trans p2.same) .int_mk)⟩
  ·rename_i xs ys;dsimp only at ek;split at ek
   ·rename_i hz;cases ek;obtain⟨l,vs,L1,rfl,hl,rl,zl,el⟩:=p1'.lst_inv;obtain⟨c,ws,L2',rfl,hc,rc,zc,ec⟩:=p2'.lst_inv;have n1:=rl.length;have n2:=rc.length;refine .inr ⟨l,c,vs,ws,rfl,rfl,hl,hc,⋯,λp hp=>?_⟩;refine q _ _ (p::(L1++L2')) (Qaa.Qa0 (p1.same.trans p2.same) hp (rl.append rc) (by rw[Zy];exact hz) (λa ha=>c1 a ?_) o1);rcases ZG.mp ha with h | h
    ·refine Zg _ ?_;rcases el with rfl | rfl
     ·exact Zc _ h
     ·exact h
    ·refine Ze _ ?_;rcases ec with rfl | rfl
     ·exact Zc _ h
     ·exact h
   ·cases ek
noncomputable def QBR(K:Fgg):R2:=λx y H Q=>∃l k xs,x= .ref l/\y= .int k/\(H l=some (.lst xs)∨Fix K H l xs)/\ -(2^63)<=k/\k<2^63/\xs.length*k.toNat<=sizeLine∧
 ∀p,H p=none->Q (.ref p) (upd H p (.lst (List.replicate k.toNat xs).flatten))
theorem QxE:OpR X (binaryOp .Mult) (QBR X.K):=by
 intro pins s σ H x y v u Q I rx ry h;obtain⟨l,k,xs,rfl,rfl,hH,h1,h2,hz,q⟩:=h;cases rx;obtain⟨t,rfl⟩:=ry;obtain⟨z,its,n,r,hl,e⟩:=I.QpX hH;have hlen:its.toArray.size*k.toNat<=sizeLine:=by rw[Zx,← hl];exact hz
 have hcap:¬its.toArray.size*k.toNat>(2^63-1) / 8:=by
  have:(sizeLine:Nat)<=(2^63-1) / 8:=by decide
  omega
 have hfit:¬(!Builtin.List.listFitsIndex k)=true:=by
  rw[fitsIndex_both h1 h2];exact Zak
 have hlong:¬Builtin.List.listTooLong (its.toArray.size*k.toNat)=true:=by
  rw[Qv8 hlen];exact Zak
 have hnew:List.foldl (λx1 x2=>x1++x2) #[] (List.replicate (if its.toArray.isEmpty=true then 0 else k.toNat) its.toArray)=(List.replicate k.toNat its).flatten.toArray:=by
  have f0:∀m:Nat,List.foldl (λx1 x2=>x1++x2) #[] (List.replicate m its.toArray)=(List.replicate m its).flatten.toArray:=λm=>by
   have:=foldl_rep its m [];rw[ZbL]at this;exact this
  rw[f0];cases its with
  | nil=>simp
  | cons a r'=>rw[if_neg (by simp)]
 open PyProof.Rows in
 refine wpAny_binaryOp_repeat_ref (by decide) ⟨_,e,rfl⟩ (λs'=>typeIs_int s' k t) noFill_list_mul F.fills_int_mul F.slot_int_rmul repeat_list F.slot_int_index.lookup
  (call_meets F.slot_int_rmul (typeIs_int s k t) F.entry_int_rmul (F.args_int_rmul_2 _ _) (int___rmul___int_list k t l its.toArray n)
   ⟨e,rfl,⟨_,e,rfl⟩,call_meets F.slot_list_mul ⟨_,e,rfl⟩ F.entry_list_mul (F.args_list_mul_2 _ _) (AutoListH.list___mul___list_int_3 l its.toArray n k t hfit hcap hlong) ⟨e,?_⟩⟩)
 rw[hnew];exact⟨.ref _,_,I.Qy2 (t':=s.toks) (r.rep k.toNat) (by rw[len_rep,ZaU];exact hz),rfl,q _ I.fresh⟩
theorem QnF(h:Qak xs=true):∀n:Nat,Qak (List.replicate n xs).flatten=true
 | 0=>by simp[Qak]
 | n+1=>by rw[Zaq,Zat,QcM,h,QnF h n];rfl
theorem Rps.rep(h:Rps K H ds vs []):∀n:Nat,Rps K H (List.replicate n ds).flatten (List.replicate n vs).flatten []
 | 0=>by simp[Rps]
 | n+1=>by rw[Zaq,Zat,Zaq,Zat];exact h.append (Rps.rep h n)
theorem Qzx(ha:SE X a fa)(hb:SE X b fb):SE X (.BinOp a .Mult b pos) (QZ fa fb):=λH0 A0=>
 (Qrt (QxK.or QxE) (ha H0 A0) (hb H0 A0)).mono λσ H Q=>exK λU hs F r' rel e q=>by
  obtain⟨ra,rb,ea,eb,ek⟩:=QrA e;refine two rel ea eb λx y H1 H2 G1 G2 p1 p2=>?_;have p1':=p1.rp.same p2.same;have p2':=p2.rp;revert ek;revert p1' p2';cases ra.d<;>cases rb.d<;>intro p1' p2' ek<;>first | (cases ek;done) | skip
  ·dsimp only at ek;split at ek
   ·rename_i hm;cases ek;rw[p1'.int_inv,p2'.int_inv];exact .inl ⟨_,_,rfl,rfl,hm,q _ H2 [] (.flat (p1.same.trans p2.same) .int_mk)⟩
   ·cases ek
  ·rename_i xs j;dsimp only at ek;split at ek
   ·rename_i hz;cases ek;obtain⟨hz1,hz2,hz3,hf⟩:=hz;obtain⟨l,vs,L1,rfl,hl,rl,zl,el⟩:=p1'.lst_inv;have n1:=rl.length;have e0:=rl.Qco hf;subst e0;rw[p2'.int_inv];refine .inr ⟨l,j,vs,rfl,rfl,hl,hz2,hz3,by rw[← n1];exact hz1,λp hp=>?_⟩;have w:HS.Qa0 (List.replicate j.toNat xs).flatten []=⟨.lst (List.replicate j.toNat xs).flatten,true,[]⟩:=by
     unfold HS.Qa0;rw[if_pos (QnF hf _)]
    rw[← w]at q;exact q _ _ (p::[]) (Qaa.Qa0 (p1.same.trans p2.same) hp (rl.rep _) (by rw[len_rep,ZaU];exact hz1) Src.nil Qbz.nil)
   ·cases ek
end
noncomputable def Qe:DA:=λ_=>some ⟨[],true,[]⟩
noncomputable def Qa(fa:DE)(fr:DA):DA:=λU=>(fa U).bind λr=>(fr U).bind λrs=>some ⟨r.d::rs.ds,r.fr && rs.fr,r.M++rs.M⟩
noncomputable def QaO(fa:DA):DE:=λU=>(fa U).bind λr=>if r.ds.length<=64 then some ⟨.tup r.ds,r.fr,r.M⟩else none
noncomputable def Qad(fa:DA):DE:=λU=>(fa U).bind λr=>if r.ds.length<=64 then some ⟨.lst r.ds,r.fr,r.M⟩else none
section
variable {X:Cx}{a b e:Expr}{es:List Expr}{fa fb:DE}{fs:DA}{pos:Pos}
theorem Qlj:SA X [] Qe:=λH0 A0=>QcQ.mono λσ H Q=>exK λU hs F r' rel e q=>by
 cases e;exact q [] H [] ⟨QQ.refl _,by simp[Rps],Src.nil,λ_=>⟨Cnt.nil,rfl⟩,Qbz.nil⟩
theorem Qhs(ha:SE X e fa)(hr:SA X es fs)(hs:starEach (e::es) X.env=(false,eval e X.env)::starEach es X.env):SA X (e::es) (Qa fa fs):=λH0 A0=>
 (Qar (ha H0 A0) (hr H0 A0) hs).mono λσ H Q=>exK λU hs F r' rel e q=>by
  refine Qf e λr e1 e=>?_;refine Qf e λrs e2 e=>?_;cases e;refine⟨U,hs,F,r,rel,e1,λx H1 G1 p1=>⟨U,hs,F,rs,rel.ext p1.same,e2,λxs H2 G2 p2=>?_⟩⟩;refine q _ H2 (G1++G2) ⟨p1.same.trans p2.same,?_,p1.src.append p2.src p1.same,λh=>?_,p1.own.append p2.own⟩
  ·simp only[Rps];exact⟨x,xs,G1,G2,rfl,rfl,p1.rp.same p2.same,p2.rp⟩
  ·simp only[Zm]at h;exact⟨(p1.cnt h.1).1.append rel (p2.cnt h.2).1 p1.same p1.rp.mem,by simp only[nls,Zy,(p1.cnt h.1).2,(p2.cnt h.2).2]⟩
theorem Qfo{n:Nat}(h:n<=64):n<=sizeLine:=Zt h (by decide)
theorem Qz1{k:Nat}(ha:SA X es fs):SE X (.Tuple es k pos) (QaO fs):=λH0 A0=>
 (Qt6 (ha H0 A0)).mono λσ H Q=>exK λU hs F r' rel e q=>by
  refine Qf e λr e1 e=>?_;split at e
  ·rename_i hz;cases e;refine⟨U,hs,F,r,rel,e1,λxs H1 G p=>⟨by rw[← p.rp.length];exact Qfo hz,λc hc=>q _ _ G ⟨p.same.trans (Qbj hc),Rp.Qhl Qac (p.rp.same (Qbj hc)),p.src,λh=>⟨(p.cnt h).1,by simp only[D.nl];exact(p.cnt h).2⟩,p.own⟩⟩⟩
  ·cases e
theorem QzQ(ha:SA X es fs):SE X (.List es pos) (Qad fs):=λH0 A0=>
 (Qzy (ha H0 A0)).mono λσ H Q=>exK λU hs F r' rel e q=>by
  refine Qf e λr e1 e=>?_;split at e
  ·rename_i hz;cases e;refine⟨U,hs,F,r,rel,e1,λxs H1 G p=>⟨by rw[← p.rp.length];exact Qfo hz,λc hc=>?_⟩⟩;have hH:H c=none:=p.same.free hc;refine q _ _ (c::G) ⟨p.same.trans (Qbj hc),Rp.Qeb Qac (p.rp.same (Qbj hc)) (Qfo hz),λz hz'=>?_,λh=>⟨λz=>?_,by simp only[D.nl,ZR,(p.cnt h).2]⟩,p.own⟩
   ·rcases Zj.mp hz' with rfl | h
    ·exact .inl hH
    ·exact p.src z h
   ·rw[ZaR];have:=(p.cnt h).1 z;split
    ·rename_i e';have e':c=z:=by simpa using e'
     subst e';have h0:G.count c=0:=ZS.mpr λhm=>by obtain⟨vs,w⟩:=p.rp.mem c hm;rw[hc]at w;cases w
     rw[Qbw hH];omega
    ·exact this
  ·cases e
noncomputable def D.items:D->Option (List D)
 | .lst xs=>some xs
 | .tup xs=>some xs
 | _=>none
noncomputable def Qr(fa fb:DE):DE:=λU=>(fa U).bind λra=>(fb U).bind λrb=>match rb.d with
 | .int i=>(ra.d.items).bind λxs=>(atI xs i).map λd=>(R.norm ⟨d,ra.fr,ra.M⟩)
 | _=>none
theorem QxD{α β:Type}{xs:List α}{i:Int}{d:α}(h:atI xs i=some d):∃j:Nat,xs[j]? =some d/\∀(ys:List β),ys.length=xs.length->∀y,ys[j]? =some y->atI ys i=some y:=by
 unfold atI at h;cases e:ixN xs.length i with
 | none=>rw[e]at h;cases h
 | some j=>
  rw[e]at h;refine⟨j,h,λys hl y hy=>?_⟩;unfold atI;rw[hl,e];exact hy
theorem QzP(ha:SE X a fa)(hb:SE X b fb)(hs:QjG b):SE X (.Subscript a b pos) (Qr fa fb):=λH0 A0=>
 (Qwt (Qq7.or QtG) (ha H0 A0) (hb H0 A0) hs).mono λσ H Q=>exK λU hs F r' rel e q=>by
  obtain⟨ra,rb,ea,eb,ek⟩:=QrA e;refine two rel ea eb λx y H1 H2 G1 G2 p1 p2=>?_;have p1':=p1.rp.same p2.same;have p2':=p2.rp;have pp:Qaa X.K U F H H2 ra x G1:=⟨p1.same.trans p2.same,p1',p1.src,p1.cnt,p1.own⟩;cases hb':rb.d with
  | int i=>
   rw[hb']at ek p2';rw[p2'.int_inv];refine Qf ek λxs ex ek=>?_;obtain⟨d,ed,ek⟩:=Zh.mp ek;subst ek;obtain⟨j,hj,hm⟩:=QxD ed;have fin:∀(L:LAd) (vs:List V),Rps X.K H2 xs vs L->(∀z,L.count z<=G1.count z)->(G1.length=ra.d.nl->L.length=nls xs)->∃v,atI vs i=some v/\Q v H2:=λL vs rl hc hn=>by
    obtain⟨v,F1,G,F2,hv,eF,rv,hx⟩:=rl.get hj;refine⟨v,hm vs rl.length.symm v hv,q v H2 G (Qaa.norm (Qaa.sub pp rv (λz=>Zt ?_ (hc z)) λz=>hx (hn z)))⟩;rw[eF,Zau,Zau];omega
   cases hra:ra.d with
   | lst ys=>
    rw[hra]at ex p1';cases ex;obtain⟨l,vs,L,rfl,hl,rl,zl,el⟩:=p1'.lst_inv;have hn:G1.length=ra.d.nl->L.length=nls xs:=λhz=>by
     have:=rl.QaJ;simp only[hra,D.nl]at hz;rcases el with rfl | rfl
     ·rw[ZR]at hz;omega
     ·omega
    have hc:∀z,L.count z<=G1.count z:=λz=>by
     rcases el with rfl | rfl
     ·rw[ZaR];omega
     ·exact Zi _
    obtain⟨v,h1,h2⟩:=fin L vs rl hc hn;exact .inl ⟨l,vs,i,v,rfl,rfl,Q1 hl,h1,h2⟩
   | tup ys=>
    rw[hra]at ex p1';cases ex;obtain⟨l,vs,rfl,hl,rl⟩:=p1'.Qa8;obtain⟨v,h1,h2⟩:=fin G1 vs rl (λz=>Zi _) λz=>(by simpa only[hra,D.nl]using z);exact .inr ⟨l,vs,i,v,rfl,rfl,hl,h1,h2⟩
   | _=>rw[hra]at ex;cases ex
  | _=>rw[hb']at ek;cases ek
noncomputable abbrev DO:=En->Option (Option Int)
noncomputable def Qa9:DO:=λ_=>some none
noncomputable def Qba(f:DE):DO:=λU=>(f U).bind λr=>match r.d with
 | .int i=>some (some i)
 | _=>none
noncomputable def tVO(K:Fgg)(H0:Hp)(A0:LAd)(f:DO):TO:=λσ H Q=>∃U hs F o,Rel K H0 A0 hs U F σ H/\f U=some o/\∀H',QQ H H'->Q o H'
def SO(X:Cx)(e:Option Expr)(f:DO):Prop:=∀H0 A0,PO X e (tVO X.K H0 A0 f)
theorem _root_.L2.PO.mono{X:Cx}{e:Option Expr}{t t':TO}(h:PO X e t)(m:∀σ H Q,t' σ H Q->t σ H Q):PO X e t':=by
 intro pins s σ H Q I q;exact h pins s σ H Q I (m σ H Q q)
theorem Qxr:SO X none Qa9:=λH0 A0=>Qx3.mono λσ H Q=>exK λU hs F o rel e q=>by
 cases e;exact q H (QQ.refl _)
theorem Qx9(h:SE X a fa):SO X (some a) (Qba fa):=λH0 A0=>(QwV (h H0 A0)).mono λσ H Q=>exK λU hs F o rel e q=>by
 refine Qf e λr e1 e=>?_;refine⟨U,hs,F,r,rel,e1,λv H1 G p=>?_⟩;have rp:=p.rp;cases hr:r.d with
 | int i=>
  rw[hr]at e rp;cases e;exact⟨i,rp.int_inv,q H1 p.same⟩
 | _=>rw[hr]at e;cases e
noncomputable def cutD(xs:List D)(lo hi:Option Int):List D:=(xs.drop (HT.sIx xs.length 0 lo)).take (HT.sIx xs.length xs.length hi-HT.sIx xs.length 0 lo)
noncomputable def QbX(fa:DE)(lo hi:DO):DE:=λU=>(fa U).bind λra=>(lo U).bind λl=>(hi U).bind λh=>match ra.d with
 | .lst xs=>some (Qa0 (cutD xs l h) ra.M)
 | _=>none
theorem Rps.drop:∀{ds:List D}{vs:List V}{F:LAd}{K:Fgg}{H:Hp}(n:Nat),Rps K H ds vs F->∃G,Rps K H (ds.drop n) (vs.drop n) G/\∀a∈G,a∈F
 | [],vs,F,K,H,n,h=>by simp only[Rps]at h;rw[h.1,h.2];exact⟨[],by simp[Rps],λ_ h=>h⟩
 | d::ds,vs,F,K,H,0,h=>⟨F,by simpa using h,λ_ h=>h⟩
 | d::ds,vs,F,K,H,n+1,h=>by
  simp only[Rps]at h;obtain⟨v,ws,F1,F2,e,eF,r,q⟩:=h;subst e eF;obtain⟨G,h1,h2⟩:=Rps.drop n q;exact⟨G,by simpa using h1,λa ha=>Ze _ (h2 a ha)⟩
theorem Rps.take:∀{ds:List D}{vs:List V}{F:LAd}{K:Fgg}{H:Hp}(n:Nat),Rps K H ds vs F->∃G,Rps K H (ds.take n) (vs.take n) G/\∀a∈G,a∈F
 | [],vs,F,K,H,n,h=>by simp only[Rps]at h;rw[h.1,h.2];exact⟨[],by simp[Rps],λ_ h=>h⟩
 | d::ds,vs,F,K,H,0,h=>⟨[],by simp[Rps],λ_ h=>by simp at h⟩
 | d::ds,vs,F,K,H,n+1,h=>by
  simp only[Rps]at h;obtain⟨v,ws,F1,F2,e,eF,r,q⟩:=h;subst e eF;obtain⟨G,h1,h2⟩:=Rps.take n q;refine⟨F1++G,?_,λa ha=>?_⟩
  ·simp only[List.take_succ_cons,Rps];exact⟨v,_,F1,G,rfl,rfl,r,h1⟩
  ·rcases ZG.mp ha with h | h
   ·exact Zg _ h
   ·exact Ze _ (h2 a h)
theorem Qzv{lo hi:Option Expr}{fl fh:DO}{p2:Pos}(ha:SE X a fa)(hl:SO X lo fl)(hh:SO X hi fh):SE X (.Subscript a (.Slice lo hi none p2) pos) (QbX fa fl fh):=λH0 A0=>
 (Qv9 QyI (ha H0 A0) (hl H0 A0) (hh H0 A0)).mono λσ H Q=>exK λU hs F r' rel e q=>by
  refine Qf e λra e1 e=>?_;refine Qf e λl e2 e=>?_;refine Qf e λh e3 e=>?_;refine⟨U,hs,F,ra,rel,e1,λx H1 G1 p1=>⟨U,hs,F,l,rel.ext p1.same,e2,λH2 s2=>⟨U,hs,F,h,(rel.ext p1.same).ext s2,e3,λH3 s3=>?_⟩⟩⟩;have rp:=p1.rp.same (s2.trans s3);cases hra:ra.d with
  | lst xs=>
   rw[hra]at e rp;cases e;obtain⟨c,vs,L,rfl,hc,rl,zl,el⟩:=rp.lst_inv;refine⟨c,vs,rfl,Q1 hc,λp hp=>?_⟩;obtain⟨G2,h2,m2⟩:=rl.drop (HT.sIx xs.length 0 l);obtain⟨G3,h3,m3⟩:=h2.take (HT.sIx xs.length xs.length h-HT.sIx xs.length 0 l);have n1:=rl.length;rw[show Qms vs l h=(vs.drop (HT.sIx xs.length 0 l)).take (HT.sIx xs.length xs.length h-HT.sIx xs.length 0 l) by unfold Qms;rw[n1]];refine q _ _ (p::G3) (Qaa.Qa0 (p1.same.trans (s2.trans s3)) hp h3 ?_ (λz hz=>p1.src z ?_) p1.own)
   ·unfold cutD;rw[ZbW,List.length_drop];omega
   ·have:=m2 z (m3 z hz);rcases el with rfl | rfl
    ·exact Zc _ this
    ·exact this
  | _=>rw[hra]at e;cases e
noncomputable def dBf(g:List D->Option D)(fs:DA):DE:=λU=>(fs U).bind λr=>(g r.ds).map λd=>⟨d,true,[]⟩
def Qe1(K:Fgg)(g:List D->Option D)(r:List V->Hp->VK->Prop):Prop:=∀ds d,g ds=some d->d.flat=true/\∀H vs F (Q:VK),Rps K H ds vs F->(∀v,(∀H',Rp K H' d v [])->Q v H)->r vs H Q
theorem Qh5{x:Str}{id:String}{g:List D->Option D}{r:List V->Hp->VK->Prop}{p:Pos}(hc:QcI X (.builtin id) r)(hk:Qe1 X.K g r)(hg:Gl X x)(hm:X.mg x=none)(hv:bootBuiltins x=some (.builtin id))(ha:SA X (e::es) fs)(hn:x≠ "__name__")(hdb:(x == ("__debug__" :Str))=false)
  (he:starEach (e::es) X.env=(false,eval e X.env)::starEach es X.env) (hpl:(backTo pos (starEach es X.env)).any (·.1)=false):SE X (.Call (.Name x p) (e::es) [] pos) (dBf g fs):=λH0 A0=>
 (QkQ hc hg hm hv (ha H0 A0) hn hdb he hpl).mono λσ H Q=>exK λU hs F r' rel e q=>by
  refine Qf e λra e1 e=>?_;obtain⟨d,ed,e⟩:=Zh.mp e;subst e;exact⟨U,hs,F,ra,rel,e1,λvs H1 G p1=>(hk _ _ ed).2 H1 vs G Q p1.rp λv hv=>q v H1 [] (.flat p1.same (hv _) (hk _ _ ed).1)⟩
theorem Rps.one{K:Fgg}{H:Hp}{d:D}{vs:List V}{F:LAd}(h:Rps K H [d] vs F):∃v,vs=[v]/\Rp K H d v F:=by
 simp only[Rps]at h;obtain⟨v,ws,F1,F2,rfl,rfl,r,rfl,rfl⟩:=h;exact⟨v,rfl,by simpa using r⟩
theorem Rps.two{K:Fgg}{H:Hp}{d e:D}{vs:List V}{F:LAd}(h:Rps K H [d,e] vs F):∃v w F1 F2,vs=[v,w]/\Rp K H d v F1/\Rp K H e w F2:=by
 simp only[Rps]at h;obtain⟨v,ws,F1,F2,rfl,rfl,r,w,ws',F3,F4,rfl,rfl,r2,rfl,rfl⟩:=h;exact⟨v,w,F1,F3,rfl,r,r2⟩
noncomputable def Q2:List D->Option D
 | [.lst xs]=>some (.int xs.length)
 | [.tup xs]=>some (.int xs.length)
 | _=>none
theorem Qze{K:Fgg}:Qe1 K Q2 (λxs H Q=>∃p ys,xs=[.ref p]/\(SqL K H p ys∨SqT K H p ys)/\Q (.int ys.length) H):=λds d e=>by
 unfold Q2 at e;split at e
 ·cases e;refine⟨rfl,λH vs F Q r q=>?_⟩;obtain⟨v,rfl,rp⟩:=r.one;obtain⟨l,ws,L,rfl,hl,rl,zl,el⟩:=rp.lst_inv;exact⟨l,ws,rfl,.inl (Q1 hl),by rw[← rl.length];exact q _ λ_=> .int_mk⟩
 ·cases e;refine⟨rfl,λH vs F Q r q=>?_⟩;obtain⟨v,rfl,rp⟩:=r.one;obtain⟨l,ws,rfl,hl,rl⟩:=rp.Qa8;exact⟨l,ws,rfl,.inr hl,by rw[← rl.length];exact q _ λ_=> .int_mk⟩
 ·cases e
noncomputable def QlL:List D->Option D
 | [.int i,.int j]=>some (.int (if j<i then j else i))
 | _=>none
noncomputable def Qll:List D->Option D
 | [.int i,.int j]=>some (.int (if j>i then j else i))
 | _=>none
noncomputable def QpD:List D->Option D
 | [.int i]=>some (.int (if i<0 then-i else i))
 | _=>none
theorem Qw5{K:Fgg}:Qe1 K QlL (λxs H Q=>∃i j,xs=[.int i,.int j]/\Q (.int (if j<i then j else i)) H):=λds d e=>by
 unfold QlL at e;split at e
 ·cases e;refine⟨rfl,λH vs F Q r q=>?_⟩;obtain⟨v,w,F1,F2,rfl,r1,r2⟩:=r.two;exact⟨_,_,by rw[r1.int_inv,r2.int_inv],q _ λ_=> .int_mk⟩
 ·cases e
theorem Qyq{K:Fgg}:Qe1 K Qll (λxs H Q=>∃i j,xs=[.int i,.int j]/\Q (.int (if j>i then j else i)) H):=λds d e=>by
 unfold Qll at e;split at e
 ·cases e;refine⟨rfl,λH vs F Q r q=>?_⟩;obtain⟨v,w,F1,F2,rfl,r1,r2⟩:=r.two;exact⟨_,_,by rw[r1.int_inv,r2.int_inv],q _ λ_=> .int_mk⟩
 ·cases e
theorem Qzc{K:Fgg}:Qe1 K QpD (λxs H Q=>∃i,xs=[.int i]/\Q (.int (if i<0 then-i else i)) H):=λds d e=>by
 unfold QpD at e;split at e
 ·cases e;refine⟨rfl,λH vs F Q r q=>?_⟩;obtain⟨v,rfl,r1⟩:=r.one;exact⟨_,by rw[r1.int_inv],q _ λ_=> .int_mk⟩
 ·cases e
noncomputable def dList(fs:DA):DE:=λU=>(fs U).bind λr=>match r.ds with
 | [.lst xs]=>some (Qa0 xs r.M)
 | [.tup xs]=>if xs.length<=sizeLine then some (Qa0 xs r.M)else none
 | _=>none
theorem Qw6{p:Pos}(hg:Gl X "list")(hm:X.mg "list" =none)(ha:SA X (e::es) fs)(he:starEach (e::es) X.env=(false,eval e X.env)::starEach es X.env)(hpl:(backTo pos (starEach es X.env)).any (·.1)=false):
  SE X (.Call (.Name "list" p) (e::es) [] pos) (dList fs):=λH0 A0=>
 (QiC Qjb hg hm Zbw (ha H0 A0) (by decide) (by decide) he hpl).mono λσ H Q=>exK λU hs F r' rel e q=>by
  refine Qf e λra e1 e=>?_;refine⟨U,hs,F,ra,rel,e1,λvs H1 G p1=>?_⟩;have rp:=p1.rp;have src:=p1.src;split at e
  ·rename_i xs hds;cases e;rw[hds]at rp;obtain⟨v,rfl,rq⟩:=rp.one;obtain⟨l,ws,L,rfl,hl,rl,zl,el⟩:=rq.lst_inv;refine⟨l,ws,rfl,.inl (Q1 hl),λc hc=>q _ _ (c::L) (Qaa.Qa0 p1.same hc rl zl (λz hz=>src z ?_) p1.own)⟩;rcases el with rfl | rfl
   ·exact Zc _ hz
   ·exact hz
  ·rename_i xs hds;split at e
   ·rename_i hz;cases e;rw[hds]at rp;obtain⟨v,rfl,rq⟩:=rp.one;obtain⟨l,ws,rfl,hl,rl⟩:=rq.Qa8;exact⟨l,ws,rfl,.inr hl,λc hc=>q _ _ (c::G) (Qaa.Qa0 p1.same hc rl hz src p1.own)⟩
   ·cases e
  ·cases e
end
mutual
noncomputable def D.py:D->PyData
 | .non=> .none
 | .bl b=> .bool b
 | .int i=> .int i
 | .str x=> .str x
 | .tup xs=> .tuple (pys xs)
 | .lst xs=> .list (pys xs)
 | .exc _=> .none
noncomputable def pys:List D->List PyData
 | []=>[]
 | d::ds=>d.py::pys ds
end
noncomputable def D.sim:Nat->D->Bool
 | _,.non=>true
 | _,.bl _=>true
 | _,.int _=>true
 | _,.str x=>PyData.canLay0 (.str x)
 | 0,.tup xs=>xs.isEmpty
 | 0,.lst xs=>xs.isEmpty
 | n+1,.tup xs=>xs.all (D.sim n)
 | n+1,.lst xs=>xs.all (D.sim n)
 | _,.exc _=>false
theorem Qga:∀{ds:List D},(∀d∈ds,d.py.canLay0=true)->PyData.canLayAll0 (pys ds)=true
 | [],_=>rfl
 | d::ds,h=>by
  simp only[pys,PyData.canLayAll0,Zm];exact⟨h d Zl,Qga λe he=>h e (Zc _ he)⟩
theorem QgY:∀{ds:List D},(∀d∈ds,d.py.depth<=n)->PyData.depthAll (pys ds)<=n
 | [],_=>Zaa _
 | d::ds,h=>by
  simp only[pys,PyData.depthAll];exact Nat.max_le.mpr ⟨h d Zl,QgY λe he=>h e (Zc _ he)⟩
theorem Qd8:∀(n:Nat) (d:D),d.sim n=true->d.py.canLay0=true/\d.py.depth<=n+1
 | n,.exc _,h=>by cases n<;>cases h
 | n,.non,_=>by simp[D.py,PyData.canLay0,PyData.depth]
 | n,.bl _,_=>by simp[D.py,PyData.canLay0,PyData.depth]
 | n,.int _,_=>by simp[D.py,PyData.canLay0,PyData.depth]
 | n,.str x,h=>by
  simp only[D.py,PyData.depth];refine⟨?_,Zaa _⟩;cases n<;>exact h
 | 0,.tup xs,h=>by
  have:xs=[]:=by simpa[D.sim]using h
  subst this;simp[D.py,pys,PyData.canLay0,PyData.canLayAll0,PyData.depth,PyData.depthAll]
 | 0,.lst xs,h=>by
  have:xs=[]:=by simpa[D.sim]using h
  subst this;simp[D.py,pys,PyData.canLay0,PyData.canLayAll0,PyData.depth,PyData.depthAll]
 | n+1,.tup xs,h=>by
  simp only[D.sim,ZaF]at h;simp only[D.py,PyData.canLay0,PyData.depth];exact⟨Qga λd hd=>(Qd8 n d (h d hd)).1,ZbH (QgY λd hd=>(Qd8 n d (h d hd)).2) 1⟩
 | n+1,.lst xs,h=>by
  simp only[D.sim,ZaF]at h;simp only[D.py,PyData.canLay0,PyData.depth];exact⟨Qga λd hd=>(Qd8 n d (h d hd)).1,ZbH (QgY λd hd=>(Qd8 n d (h d hd)).2) 1⟩
noncomputable def deq(a b:D):Bool:=PyData.eqv a.py b.py
theorem QpO(h:d.sim n=true):deq d d=true:=SeqAt.eqv_refl _ (Qd8 n d h).1
mutual
noncomputable def D.noX:D->Bool
 | .exc _=>false
 | .tup xs=>QkE xs
 | .lst xs=>QkE xs
 | .non=>true
 | .bl _=>true
 | .int _=>true
 | .str _=>true
noncomputable def QkE:List D->Bool
 | []=>true
 | d::ds=>d.noX && QkE ds
end
theorem Ql9:∀{ds:List D},(∀d∈ds,d.noX=true)->QkE ds=true
 | [],_=>rfl
 | d::ds,h=>by
  simp only[QkE,Zm];exact⟨h d Zl,Ql9 λe he=>h e (Zc _ he)⟩
theorem QfB:∀(n:Nat) (d:D),d.sim n=true->d.noX=true
 | n,.exc _,h=>by cases n<;>cases h
 | n,.non,_=>rfl
 | n,.bl _,_=>rfl
 | n,.int _,_=>rfl
 | n,.str x,_=>rfl
 | 0,.tup xs,h=>by
  have:xs=[]:=by simpa[D.sim]using h
  subst this;rfl
 | 0,.lst xs,h=>by
  have:xs=[]:=by simpa[D.sim]using h
  subst this;rfl
 | n+1,.tup xs,h=>by
  simp only[D.sim,ZaF]at h;simp only[D.noX];exact Ql9 λd hd=>QfB n d (h d hd)
 | n+1,.lst xs,h=>by
  simp only[D.sim,ZaF]at h;simp only[D.noX];exact Ql9 λd hd=>QfB n d (h d hd)
section
variable {X:Cx}{pins:List (Addr×Obj)}{σ:L2.St}{H:Hp}{s:Shared}
mutual
theorem Rp.reads(I:Inv X pins σ H s):∀{d:D}{v:V}{F:LAd}{u:Value},d.noX=true->Rp X.K H d v F->RelV v u->∃as,Reads s.heap u d.py as
 | .exc _,v,_,u,hx,h,r=>by cases hx
 | .non,v,_,u,hx,h,r=>by
  rw[h.QmR]at r;cases(show u=Value.none from r);exact⟨_,.none⟩
 | .bl b,v,_,u,hx,h,r=>by
  rw[h.QiJ]at r;cases(show u=Value.bool b from r);exact⟨_,.bool b⟩
 | .int i,v,_,u,hx,h,r=>by
  rw[h.int_inv]at r;obtain⟨t,rfl⟩:=(show ∃t,u=Value.int i t from r);exact⟨_,.int i t⟩
 | .str i,v,_,u,hx,h,r=>by
  rw[h.str_inv]at r;obtain⟨t,rfl⟩:=(show ∃t,u=Value.str i t from r);exact⟨_,.str i t⟩
 | .tup ds,v,_,u,hx,h,r=>by
  obtain⟨a,vs,rfl,hq,rs⟩:=h.Qa8;cases(show u=Value.ref a from r);obtain⟨its,rv,⟨o,h1,h2,n,h3⟩,_⟩:=I.tuple hq;obtain⟨as,ra⟩:=Rps.reads I (by simpa only[D.noX]using hx) rs rv;exact⟨_,.tuple h1 h2 h3 (by simpa using ra)⟩
 | .lst ds,v,_,u,hx,h,r=>by
  simp only[Rp]at h;obtain⟨hz,a,vs,rfl,h⟩:=h;have key:∃G,(H a=some (.lst vs)∨Fix X.K H a vs)/\Rps X.K H ds vs G:=by
   rcases h with⟨G,_,q,rs⟩ | ⟨q,rs⟩
   ·exact⟨G,.inl q,rs⟩
   ·exact⟨_,.inr q,rs⟩
  obtain⟨G,hq,rs⟩:=key;cases(show u=Value.ref a from r);obtain⟨_,its,n,rv,_,e⟩:=I.QpX hq;obtain⟨as,ra⟩:=Rps.reads I (by simpa only[D.noX]using hx) rs rv;exact⟨_,.list e rfl rfl (by simpa using ra)⟩
theorem Rps.reads(I:Inv X pins σ H s):∀{ds:List D}{vs:List V}{F:LAd}{us:List Value},QkE ds=true->Rps X.K H ds vs F->QK vs us->∃as,ReadsAll s.heap us (pys ds) as
 | [],vs,_,us,_,h,r=>by
  simp only[Rps]at h;rw[h.1]at r;cases r;exact⟨_,.nil⟩
 | d::ds,vs,_,us,hx,h,r=>by
  simp only[QkE,Zm]at hx;simp only[Rps]at h;obtain⟨v,ws,F1,F2,rfl,rfl,h1,h2⟩:=h;cases r with
  | cons r rr=>
   obtain⟨as,ra⟩:=Rp.reads I hx.1 h1 r;obtain⟨bs,rb⟩:=Rps.reads I hx.2 h2 rr;exact⟨_,.cons ra rb⟩
end
end
noncomputable def gEq(a b:D):Option D:=if a.sim 8 && b.sim 8 then some (.bl (deq a b))else none
noncomputable def gNe(a b:D):Option D:=if a.sim 8 && b.sim 8 then some (.bl (!deq a b))else none
noncomputable def QAi(K:Fgg):R2:=λx y H Q=>∃a b F G,Rp K H a x F/\Rp K H b y G/\a.sim 8=true/\b.sim 8=true/\Q (.bl (deq a b)) H
noncomputable def QzI(K:Fgg):R2:=λx y H Q=>∃a b F G,Rp K H a x F/\Rp K H b y G/\a.sim 8=true/\b.sim 8=true/\Q (.bl (!deq a b)) H
section
variable {X:Cx}
theorem Qzq(hu:X.A.units+64<cLine):OpR X (compareOp .Eq) (QAi X.K):=by
 intro pins s σ H x y v u Q I rx ry h;obtain⟨a,b,F,G,ha,hb,sa,sb,q⟩:=h;obtain⟨as,ra⟩:=Rp.reads I (QfB 8 _ sa) ha rx;obtain⟨bs,rb⟩:=Rp.reads I (QfB 8 _ sb) hb ry;have h1:=Qd8 8 a sa;have h2:=Qd8 8 b sb;exact SeqAt.compareEq_reads ra rb h1.1 h2.1 (by have:=Nat.min_le_left a.py.depth b.py.depth;omega) ⟨.bl _,H,I,rfl,q⟩
theorem QAp(hu:X.A.units+64<cLine):OpR X (compareOp .NotEq) (QzI X.K):=by
 intro pins s σ H x y v u Q I rx ry h;obtain⟨a,b,F,G,ha,hb,sa,sb,q⟩:=h;obtain⟨as,ra⟩:=Rp.reads I (QfB 8 _ sa) ha rx;obtain⟨bs,rb⟩:=Rp.reads I (QfB 8 _ sb) hb ry;have h1:=Qd8 8 a sa;have h2:=Qd8 8 b sb;exact SeqAt.compareNe_reads ra rb h1.1 h2.1 (by have:=Nat.min_le_left a.py.depth b.py.depth;omega) ⟨.bl _,H,I,rfl,q⟩
theorem QBs:QcE K gEq (QAi K):=λa b d e=>by
 unfold gEq at e;split at e
 ·rename_i h;simp only[Zm]at h;cases e;exact⟨rfl,λH x y F G Q ha hb q=>⟨a,b,F,G,ha,hb,h.1,h.2,q _ λ_=> .QdK⟩⟩
 ·cases e
theorem QBt:QcE K gNe (QzI K):=λa b d e=>by
 unfold gNe at e;split at e
 ·rename_i h;simp only[Zm]at h;cases e;exact⟨rfl,λH x y F G Q ha hb q=>⟨a,b,F,G,ha,hb,h.1,h.2,q _ λ_=> .QdK⟩⟩
 ·cases e
noncomputable def D.tyN:D->String
 | .non=> "NoneType" | .bl _=> "bool" | .int _=> "int" | .str _=> "str" | .tup _=> "tuple" | .lst _=> "list" | .exc _=> "?"
noncomputable def D.isE:D->Bool
 | .exc _=>true
 | _=>false
noncomputable def D.isa(T:String)(d:D):Option Bool:=if(T == "int" || T == "bool" || T == "list" || T == "tuple" || T == "str") && !d.isE then some (d.tyN == T || (d.tyN == "bool" && T == "int"))else none
theorem QAc(I:Inv X pins σ H s)(rp:Rp X.K H d v F)(rx:RelV v u)(e:d.isa T=some b)(h:∀tk,Q (.bool b) {s with toks:=tk}):
  wpAny (model X.prog X.w) A (call (.builtin "isinstance") [u,.type T]) Q E s:=by
 have kit:PySem.W.kitOne X.K (.type d.tyN) (.type T)=some b:=by
  unfold D.isa at e;split at e
  ·rename_i hT;cases e;simp only[Zm,Zco,beq_iff_eq]at hT;obtain⟨hT,hE⟩:=hT;rcases hT with(((rfl | rfl) | rfl) | rfl) | rfl<;>cases d<;>first | rfl | (cases hE)
  ·cases e
 cases d with
 | exc x=>unfold D.isa at e;split at e;(rename_i hT;exfalso;simp only[Zm]at hT;exact nomatch hT.2);cases e
 | non=>rw[rp.QmR]at rx;cases(show u=Value.none from rx);exact ZaS PySem.W.kitx_none I.kIn True.intro kit (λz=>nomatch z) h
 | bl y=>rw[rp.QiJ]at rx;cases(show u=Value.bool y from rx);exact ZaS PySem.W.kitx_bool I.kIn True.intro kit (λz=>nomatch z) h
 | int i=>rw[rp.int_inv]at rx;obtain⟨t,q⟩:=(show ∃t,u=Value.int i t from rx);cases q;exact ZaS PySem.W.kitx_int I.kIn True.intro kit (λz=>nomatch z) h
 | str y=>rw[rp.str_inv]at rx;obtain⟨t,q⟩:=(show ∃t,u=Value.str y t from rx);cases q;exact ZaS PySem.W.kitx_str I.kIn True.intro kit (λz=>nomatch z) h
 | tup ds=>
  obtain⟨a,vs,rfl,hq,_⟩:=rp.Qa8;cases(show u=Value.ref a from rx);obtain⟨its,rv,⟨o,h1,h2,n,h3⟩,_⟩:=I.tuple hq;exact ZaS PySem.W.kitx_tuple I.kIn ⟨o,h1,h2⟩ kit (λz=>nomatch z) h
 | lst ds=>
  obtain⟨a,vs,G,rfl,hq,_⟩:=rp.lst_inv;cases(show u=Value.ref a from rx);obtain⟨_,its,n,rv,_,e1⟩:=I.QpX hq;exact ZaS PySem.W.kitx_list I.kIn ⟨_,e1,rfl⟩ kit (λz=>nomatch z) h
noncomputable def QB9(K:Fgg):List V->Hp->VK->Prop:=λxs H Q=>∃x T d F b,xs=[x,.ty T]/\Rp K H d x F/\d.isa T=some b/\Q (.bl b) H
theorem Qvh:QcI X (.builtin "isinstance") (QB9 X.K):=by
 intro pins s σ H xs us Q I r h;obtain⟨x,T,d,F,b,rfl,rp,e,q⟩:=h;obtain⟨u,w,rfl,ru,rw'⟩:=vals2 r;cases(show w=Value.type T from rw');exact QAc I rp ru e λtk=>⟨.bl b,H,I.tok _,rfl,q⟩
noncomputable def QmX(T:String)(fa:DE):DE:=λU=>(fa U).bind λr=>(r.d.isa T).map λb=>⟨.bl b,true,[]⟩
theorem QzH(hg:Gl X "isinstance")(hm:X.mg "isinstance" =none)(ha:SE X a fa)(hT:PE X (.Name x p2) (tC (.ty T)))
  (he:starEach [a,.Name x p2] X.env=(false,eval a X.env)::starEach [.Name x p2] X.env):SE X (.Call (.Name "isinstance" p) [a,.Name x p2] [] pos) (QmX T fa):=λH0 A0=>
 (QkQ Qvh hg hm ZbM (Qar (ha H0 A0) (Qar hT QcQ) he) (by decide) (by decide) he (by rfl)).mono λσ H Q=>exK λU hs F r' rel e q=>by
  refine Qf e λr e1 e=>?_;obtain⟨b,eb,e⟩:=Zh.mp e;subst e;exact⟨U,hs,F,r,rel,e1,λv H1 G p=>⟨v,T,r.d,G,b,rfl,p.rp,eb,q _ H1 [] (.flat p.same .QdK)⟩⟩
noncomputable def D.tru:D->Option Bool
 | .non=>some false
 | .bl b=>some b
 | .int i=>some (i != 0)
 | .lst xs=>some (!xs.isEmpty)
 | .tup xs=>some (!xs.isEmpty)
 | .str _=>none
 | .exc _=>none
theorem Qok(h:Rp K H d v F)(e:d.tru=some b):Qvm K v H b:=by
 have emp:∀{ds:List D}{vs:List V}{G:LAd},Rps K H ds vs G->(!ds.isEmpty)= !vs.isEmpty:=λ{ds vs G} r=>by
  have:=r.length;cases ds<;>cases vs<;>simp_all
 cases d with
 | non=>rw[h.QmR];cases e;exact rfl
 | bl c=>rw[h.QiJ];cases e;exact rfl
 | int i=>rw[h.int_inv];cases e;exact rfl
 | str i=>cases e
 | exc i=>cases e
 | tup ds=>cases e;obtain⟨a,vs,rfl,hq,r⟩:=h.Qa8;exact .inr (.inl ⟨vs,hq,emp r⟩)
 | lst ds=>cases e;obtain⟨a,vs,G,rfl,hq,r,_⟩:=h.lst_inv;exact .inl ⟨vs,Q1 hq,emp r⟩
noncomputable def QB(fa:DE):DT:=λU=>(fa U).bind λr=>r.d.tru
noncomputable def QhX(f g:DT):DT:=λU=>(f U).bind λb=>if b=true then g U else some false
noncomputable def bOr(f g:DT):DT:=λU=>(f U).bind λb=>if b=true then some true else g U
noncomputable def Qcv(f:DT):DT:=λU=>(f U).bind λb=>some (!b)
def SW(X:Cx)(e:Expr)(f:DT):Prop:=∀H0 A0,PW X e (tVT X.K H0 A0 f)
theorem _root_.L2.PW.mono(h:PW X e t)(m:∀σ H Q,t' σ H Q->t σ H Q):PW X e t':=λwh pins s σ H Q I q=>h wh pins s σ H Q I (m σ H Q q)
variable {a b e:Expr}{fa fb:DE}{ga gb gc:DT}{pos:Pos}{rest:List Expr}
theorem QzJ(ha:SE X a fa)(he:∀whole,isTrue a X.env whole=(do let v ← whole;standAt a.pos;holding [v] (truthy v))):ST X a (QB fa):=λH0 A0=>
 (QvI (ha H0 A0) he).mono λσ H Q=>exK λU hs F b rel e q=>by
  refine Qf e λr e1 e=>?_;exact⟨U,hs,F,r,rel,e1,λv H1 G p=>⟨b,Qok p.rp e,q H1 p.same⟩⟩
theorem QAj(ho:OpR X (compareOp op) r)(hg:QcE X.K g r)(hbl:∀a b d,g a b=some d->∃k,d= .bl k)(ha:SE X a fa)(hb:SE X b fb)(hm:behindInMarks op b=false):ST X (.Compare a [op] [b] pos) (QB (dOp g fa fb)):=λH0 A0=>
 (Qxg ho (ha H0 A0) (hb H0 A0) hm).mono λσ H Q=>exK λU hs F k rel e q=>by
  refine Qf e λr' e0 e=>?_;obtain⟨ra,rb,d,ea,eb,eg,rfl⟩:=Qng e0;obtain⟨k',rfl⟩:=hbl _ _ _ eg;cases e;refine two rel ea eb λx y H1 H2 G1 G2 p1 p2=>(hg _ _ _ eg).2 H2 x y G1 G2 _ (p1.rp.same p2.same) p2.rp λv hv=>?_;exact⟨_,(hv H2).QiJ,q H2 (p1.same.trans p2.same)⟩
theorem QzY(ha:ST X a ga):ST X (.UnaryOp .Not a pos) (Qcv ga):=λH0 A0=>
 (Qzj (ha H0 A0)).mono λσ H Q=>exK λU hs F b rel e q=>by
  refine Qf e λc e1 e=>?_;cases e;exact⟨U,hs,F,c,rel,e1,λH1 s1=>q H1 s1⟩
theorem Qxl(ha:ST X a ga):SW X (.BoolOp .And [a] pos) ga:=λH0 A0=>Qxn (ha H0 A0)
theorem Qzz(ha:ST X a ga):SW X (.BoolOp .Or [a] pos) ga:=λH0 A0=>Qy3 (ha H0 A0)
theorem QAf(ha:ST X a ga)(hb:SW X (.BoolOp .And (b::rest) pos) gb):SW X (.BoolOp .And (a::b::rest) pos) (QhX ga gb):=λH0 A0=>
 (Qy5 (ha H0 A0) (hb H0 A0)).mono λσ H Q=>exK λU hs F c rel e q=>by
  refine Qf e λd e1 e=>?_;refine⟨U,hs,F,d,rel,e1,λH1 s1=>?_⟩;cases d with
  | true=>exact⟨U,hs,F,c,rel.ext s1,e,λH2 s2=>q H2 (s1.trans s2)⟩
  | false=>cases e;exact q H1 s1
theorem QA7(ha:ST X a ga)(hb:SW X (.BoolOp .Or (b::rest) pos) gb):SW X (.BoolOp .Or (a::b::rest) pos) (bOr ga gb):=λH0 A0=>
 (QBB (ha H0 A0) (hb H0 A0)).mono λσ H Q=>exK λU hs F c rel e q=>by
  refine Qf e λd e1 e=>?_;refine⟨U,hs,F,d,rel,e1,λH1 s1=>?_⟩;cases d with
  | true=>cases e;exact q H1 s1
  | false=>exact⟨U,hs,F,c,rel.ext s1,e,λH2 s2=>q H2 (s1.trans s2)⟩
theorem SW.st(h:SW X e ga):ST X e ga:=λH0 A0=>(h H0 A0).pt
noncomputable def Qca(fa fb:DE):DE:=λU=>(fa U).bind λra=>(ra.d.tru).bind λb=>if b=true then fb U else some ra
noncomputable def dOr(fa fb:DE):DE:=λU=>(fa U).bind λra=>(ra.d.tru).bind λb=>if b=true then some ra else fb U
noncomputable def QhZ(fa:DE):DE:=λU=>(fa U).bind λra=>(ra.d.tru).bind λb=>some ⟨.bl (!b),true,[]⟩
noncomputable def dIf(g:DT)(fa fb:DE):DE:=λU=>(g U).bind λb=>if b=true then fa U else fb U
theorem QpE{op}(h:SE X a fa):SE X (.BoolOp op [a] pos) fa:=λH0 A0=>QyN (h H0 A0)
theorem Qaa.ext(s:QQ H H1)(p:Qaa K U F H1 H2 r v G)(rel:Rel K H0 A0 hs U F σ H):Qaa K U F H H2 r v G where
 same:=s.trans p.same
 rp:=p.rp
 src:=λa ha=>(p.src a ha).elim (λz=> .inl (s.free z)) .inr
 cnt:=λh=>⟨λa=>Zt ((p.cnt h).1 a) (ZbH (by
  cases q:H1 a with
  | none=>rw[Qbw q,Qbw (s.free q)];exact Zi _
  | some o=>rw[QcY q];exact Zaa _) _),(p.cnt h).2⟩
 own:=p.own
theorem Qs6(ha:SE X a fa)(hb:SE X (.BoolOp .And (b::rest) pos) fb):SE X (.BoolOp .And (a::b::rest) pos) (Qca fa fb):=λH0 A0=>by
 intro pins s σ H Q I ⟨U,hs,F,r,rel,e,q⟩;refine Qf e λra e1 e=>?_;refine Qf e λc e2 e=>?_;refine PyProof.Rows.BoolOp_and (thn (ha H0 A0 pins s σ H _ I ⟨U,hs,F,ra,rel,e1,λv H' G p=>(⟨G,p⟩:∃G,Qaa X.K U F H H' ra v G)⟩) λv s1 Z=>?_);obtain⟨x,H1,I1,r1,G,p⟩:=Z;refine thn (Qk8 pins s1 σ H1 x v (λk H2=>k=c/\H2=H1) I1 r1 ⟨c,Qok p.rp e2,rfl,rfl⟩) λk s2 Z=>?_;obtain⟨H2,I2,e3,e4⟩:=Z;subst e3 e4;cases k with
 | true=>exact hb H0 A0 pins s2 σ _ Q I2 ⟨U,hs,F,r,rel.ext p.same,e,λw H3 G3 p3=>q w H3 G3 (p3.ext p.same rel)⟩
 | false=>cases e;exact⟨x,_,I2,r1,q x _ G p⟩
theorem QBC(ha:SE X a fa)(hb:SE X (.BoolOp .Or (b::rest) pos) fb):SE X (.BoolOp .Or (a::b::rest) pos) (dOr fa fb):=λH0 A0=>by
 intro pins s σ H Q I ⟨U,hs,F,r,rel,e,q⟩;refine Qf e λra e1 e=>?_;refine Qf e λc e2 e=>?_;refine PyProof.Rows.BoolOp_or (thn (ha H0 A0 pins s σ H _ I ⟨U,hs,F,ra,rel,e1,λv H' G p=>(⟨G,p⟩:∃G,Qaa X.K U F H H' ra v G)⟩) λv s1 Z=>?_);obtain⟨x,H1,I1,r1,G,p⟩:=Z;refine thn (Qk8 pins s1 σ H1 x v (λk H2=>k=c/\H2=H1) I1 r1 ⟨c,Qok p.rp e2,rfl,rfl⟩) λk s2 Z=>?_;obtain⟨H2,I2,e3,e4⟩:=Z;subst e3 e4;cases k with
 | false=>exact hb H0 A0 pins s2 σ _ Q I2 ⟨U,hs,F,r,rel.ext p.same,e,λw H3 G3 p3=>q w H3 G3 (p3.ext p.same rel)⟩
 | true=>cases e;exact⟨x,_,I2,r1,q x _ G p⟩
theorem QtN(ha:SE X a fa):SE X (.UnaryOp .Not a pos) (QhZ fa):=λH0 A0=>by
 intro pins s σ H Q I ⟨U,hs,F,r,rel,e,q⟩;refine Qf e λra e1 e=>?_;refine Qf e λc e2 e=>?_;cases e;refine PyProof.Rows.UnaryOp_ (thn (ha H0 A0 pins s σ H _ I ⟨U,hs,F,ra,rel,e1,λv H' G p=>(⟨G,p⟩:∃G,Qaa X.K U F H H' ra v G)⟩) λv s1 Z=>?_);obtain⟨x,H1,I1,r1,G,p⟩:=Z;refine PyProof.Rows.not_of (thn (Qk8 pins s1 σ H1 x v (λk H2=>k=c/\H2=H1) I1 r1 ⟨c,Qok p.rp e2,rfl,rfl⟩) λk s2 Z=>?_);obtain⟨H2,I2,e3,e4⟩:=Z;subst e3 e4;exact⟨.bl (!k),_,I2,rfl,q _ _ [] (.flat p.same .QdK)⟩
theorem QBm(hc:ST X c gc)(ha:SE X a fa)(hb:SE X b fb):SE X (.IfExp c a b pos) (dIf gc fa fb):=λH0 A0=>
 (QvV (hc H0 A0) (ha H0 A0) (hb H0 A0)).mono λσ H Q=>exK λU hs F r rel e q=>by
  refine Qf e λc e1 e=>?_;refine⟨U,hs,F,c,rel,e1,λH1 s1=>?_⟩;cases c with
  | true=>exact⟨U,hs,F,r,rel.ext s1,e,λv H2 G p=>q v H2 G (p.ext s1 rel)⟩
  | false=>exact⟨U,hs,F,r,rel.ext s1,e,λv H2 G p=>q v H2 G (p.ext s1 rel)⟩
noncomputable def Qh6(fa:DE):DE:=λU=>(fa U).bind λra=>match ra.d with
 | .int i=>some ⟨.int (-i),true,[]⟩
 | _=>none
theorem Qy6(ha:SE X a fa):SE X (.UnaryOp .USub a pos) (Qh6 fa):=λH0 A0=>
 (QBj Qzr (ha H0 A0)).mono λσ H Q=>exK λU hs F r rel e q=>by
  refine Qf e λra e1 e=>?_;refine⟨U,hs,F,ra,rel,e1,λv H1 G p=>?_⟩;have rp:=p.rp;cases hr:ra.d with
  | int i=>
   rw[hr]at e rp;cases e;exact⟨i,rp.int_inv,q _ H1 [] (.flat p.same .int_mk)⟩
  | _=>rw[hr]at e;cases e
end
end HS
namespace HS
open PySem PySem.Spec L2
section
def QcB(U U':En):Prop:=U'.length=U.length/\∀(i:Nat) d b,U'[i]? =some (some (d,b))->∃b',U[i]? =some (some (d,b'))/\(b=true->b'=true)
theorem QcB.refl:QcB U U:=⟨rfl,λi d b h=>⟨b,h,id⟩⟩
theorem QcB.trans(a:QcB U U')(b:QcB U' U''):QcB U U'':=⟨b.1.trans a.1,λi d c h=>by
 obtain⟨c',h1,h2⟩:=b.2 i d c h;obtain⟨c'',h3,h4⟩:=a.2 i d c' h1;exact⟨c'',h3,λz=>h4 (h2 z)⟩⟩
theorem Rel.weak(r:Rel K H0 A0 hs U F σ H)(w:QcB U U'):Rel K H0 A0 hs U' F σ H where
 len:=w.1.trans r.len
 val:=λi d b e=>let ⟨b',h,_⟩:=w.2 i d b e;r.val i d b' h
 own:=λi d e=>by
  obtain⟨b',h,hb⟩:=w.2 i d true e;have:b'=true:=hb rfl;subst this;obtain⟨h1,h2,h3,h4,h5⟩:=r.own i d h;exact⟨h1,h2,h3,λj d' b' hj e'=>let ⟨b'',h',_⟩:=w.2 j d' b' e';h4 j d' b'' hj h',h5⟩
 src:=λi d b e=>let ⟨b',h,_⟩:=w.2 i d b e;r.src i d b' h
 held:=r.held
 same:=r.same
noncomputable def kill:List Nat->En->En
 | [],U=>U
 | i::M,U=>kill M (U.set i none)
noncomputable def QaX:List Nat->En->En
 | [],U=>U
 | i::M,U=>QaX M (match U[i]? with
  | some (some (d,_))=>U.set i (some (d,false))
  | _=>U)
theorem QcN(i:Nat):QcB U (U.set i none):=⟨by simp,λj d b h=>by
 by_cases hj:i=j
 ·subst hj;by_cases hl:i<U.length
  ·rw[Zo hl]at h;cases h
  ·rw[Zv (by simp;omega)]at h;cases h
 ·rw[Zd hj]at h;exact⟨b,h,id⟩⟩
theorem QcS:∀(M:List Nat) (U:En),QcB U (kill M U)
 | [],U=> .refl
 | i::M,U=>(QcN i).trans (QcS M _)
theorem QiX:∀(M:List Nat) (U:En) (i:Nat) (d:D) (b:Bool),i∈M->(kill M U)[i]? =some (some (d,b))->False
 | [],U,i,d,b,h,_=>by simp at h
 | j::M,U,i,d,b,h,e=>by
  rcases Zj.mp h with rfl | h
  ·obtain⟨b',e',_⟩:=(QcS M (U.set i none)).2 i d b e;by_cases hl:i<U.length
   ·rw[Zo hl]at e';cases e'
   ·rw[Zv (by simp;omega)]at e';cases e'
  ·exact QiX M _ i d b h e
theorem Qve(i:Nat):QcB U (match U[i]? with
  | some (some (d,_))=>U.set i (some (d,false))
  | _=>U):=by
 split
 ·rename_i d b e;refine⟨by simp,λj d' b' h=>?_⟩;by_cases hj:i=j
  ·subst hj;have hl:i<U.length:=(Zk.mp e).1;rw[Zo hl]at h;cases h;exact⟨b,e,λz=>by cases z⟩
  ·rw[Zd hj]at h;exact⟨b',h,id⟩
 ·exact .refl
theorem Qbd:∀(M:List Nat) (U:En),QcB U (QaX M U)
 | [],U=> .refl
 | i::M,U=>(Qve i).trans (Qbd M _)
theorem Qlm:∀(M:List Nat) (U:En) (i:Nat) (d:D),i∈M->(QaX M U)[i]? =some (some (d,true))->False
 | [],U,i,d,h,_=>by simp at h
 | j::M,U,i,d,h,e=>by
  rcases Zj.mp h with rfl | h
  ·obtain⟨b',e',hb⟩:=(Qbd M _).2 i d true e;have:b'=true:=hb rfl;subst this;split at e'
   ·rename_i d' b e1;have hl:i<U.length:=(Zk.mp e1).1;rw[Zo hl]at e';cases e'
   ·rename_i h1;exact h1 d true e'
  ·exact Qlm M _ i d h e
def Shr(H0:Hp)(A0:LAd)(U:En)(F:Nat->List Addr)(G:LAd):Prop:=
 ∀a∈G,(H0 a=none∨a∈A0)/\∀(i:Nat) d,U[i]? =some (some (d,true))->a∉F i
theorem Shr.of(r:Rel K H0 A0 hs U F σ H)(s:Src U F H M G):Shr H0 A0 (QaX M U) F G:=λa ha=>by
 have w:=Qbd M U;rcases s a ha with h | ⟨i,d,b,e,m,hm⟩
 ·refine⟨.inl (r.same.free h),λj d' e' hj=>?_⟩;obtain⟨b',e2,_⟩:=w.2 j d' true e';obtain⟨vs,q⟩:=r.mem e2 hj;rw[h]at q;cases q
 ·refine⟨r.src i d b e a m,λj d' e' hj=>?_⟩;obtain⟨b',e2,hb⟩:=w.2 j d' true e';have:b'=true:=hb rfl;subst this;by_cases hij:i=j
  ·subst hij;rw[e]at e2;cases e2;exact Qlm M U i _ (hm rfl) e'
  ·exact(r.own j d' e2).2.2.2.1 i d b hij e a hj m
theorem Rel.QmB(r:Rel K H0 A0 hs U F σ H)(rp:Rp K H d v G)(sh:Shr H0 A0 U F G):
  Rel K H0 A0 hs (U.set i (some (d,d.flat))) (λj=>if j=i then G else F j) (σ.set i (some v)) H where
 len:=by simp[r.len]
 val:=λj d' b e=>by
  by_cases hj:j=i
  ·subst hj;have hl:j<U.length:=by
    by_cases hl:j<U.length
    ·exact hl
    ·rw[Zv (by simp;omega)]at e;cases e
   rw[Zo hl]at e;cases e;exact⟨v,by rw[Zo (by rw[← r.len];exact hl)],by rw[if_pos rfl];exact rp⟩
  ·rw[Zd (Ne.symm hj)]at e;obtain⟨w,h1,h2⟩:=r.val j d' b e;exact⟨w,by rw[Zd (Ne.symm hj)];exact h1,by rw[if_neg hj];exact h2⟩
 own:=λj d' e=>by
  by_cases hj:j=i
  ·subst hj;have hl:j<U.length:=by
    by_cases hl:j<U.length
    ·exact hl
    ·rw[Zv (by simp;omega)]at e;cases e
   rw[Zo hl]at e;have e1:=Option.some.inj (Option.some.inj e);have ed:d=d':=congrArg Prod.fst e1;have ef:d.flat=true:=congrArg Prod.snd e1;subst ed;have:=rp.Qco ef;subst this;rw[if_pos rfl];exact⟨(Qeo d ef).symm,ZaX,λa ha=>by simp at ha,λ_ _ _ _ _ a ha=>by simp at ha,λ_ _ a ha=>by simp at ha⟩
  ·rw[Zd (Ne.symm hj)]at e;obtain⟨h1,h2,h3,h4,h5⟩:=r.own j d' e;rw[if_neg hj];refine⟨h1,h2,h3,λk d'' b hk ek a ha=>?_,h5⟩;by_cases hki:k=i
   ·subst hki;rw[if_pos rfl];exact λhG=>(sh a hG).2 j d' e ha
   ·rw[Zd (Ne.symm hki)]at ek;rw[if_neg hki];exact h4 k d'' b hk ek a ha
 src:=λj d' b e a ha=>by
  by_cases hj:j=i
  ·subst hj;rw[if_pos rfl]at ha;exact(sh a ha).1
  ·rw[Zd (Ne.symm hj)]at e;rw[if_neg hj]at ha;exact r.src j d' b e a ha
 held:=r.held
 same:=r.same
theorem QAX(r:Rel K H0 A0 hs U F σ H)(ow:Qbz U M)(nd:M.Nodup)(a:Addr):((M.map F).flatten).count a<=1:=by
 induction M with
 | nil=>simp
 | cons i M ih=>
  rw[ZJ,Zat,Zau];obtain⟨h1,h2⟩:=ZaB.mp nd;have ih':=ih (λj hj=>ow j (Zc _ hj)) h2;obtain⟨d,e⟩:=ow i Zl;obtain⟨_,nd1,_,apart,_⟩:=r.own i d e;by_cases ha:a∈F i
  ·have c1:(F i).count a<=1:=Zas.mp nd1 a;have c2:((M.map F).flatten).count a=0:=ZS.mpr λhm=>by
    obtain⟨l,hl,hal⟩:=ZbF.mp hm;obtain⟨j,hj,rfl⟩:=ZL.mp hl;obtain⟨d',e'⟩:=ow j (Zc _ hj);exact apart j d' true (λz=>h1 (z▸hj)) e' a ha hal
   omega
  ·have:(F i).count a=0:=ZS.mpr ha;omega
theorem Qaa.fresh(r:Rel K H0 A0 hs U F σ H)(p:Qaa K U F H H' rr v G)(hf:rr.fr=true)(nd:rr.M.Nodup):
  G.Nodup/\∀a∈G,H0 a=none/\(H a=none∨∃i d,i∈rr.M/\U[i]? =some (some (d,true))/\a∈F i):=by
 obtain⟨c,_⟩:=p.cnt hf;refine⟨Zas.mpr λa=>?_,λa ha=>?_⟩
 ·have h1:=c a;have h2:=QAX r p.own nd a;cases q:H a with
  | none=>rw[Qbw q,r.fl0 p.own q]at h1;omega
  | some o=>rw[QcY q]at h1;omega
 ·cases q:H a with
  | none=>exact⟨r.same.free q,.inl rfl⟩
  | some o=>
   have h1:=c a;rw[QcY q]at h1;have h2:0<G.count a:=Zal.mpr ha;obtain⟨l,hl,hal⟩:=ZbF.mp (Zal.mp (by omega:0<((rr.M.map F).flatten).count a));obtain⟨i,hi,rfl⟩:=ZL.mp hl;obtain⟨d,e⟩:=p.own i hi;exact⟨(r.own i d e).2.2.1 a hal,.inr ⟨i,d,hi,e,hal⟩⟩
theorem Rel.QCs(r:Rel K H0 A0 hs U F σ H)(p:Qaa K U F H H' rr v G)(hf:rr.fr=true)(nd:rr.M.Nodup):
  Rel K H0 A0 hs ((kill rr.M U).set i (some (rr.d,true))) (λj=>if j=i then G else F j) (σ.set i (some v)) H':=by
 have r1:=(r.ext p.same).weak (QcS rr.M U);obtain⟨gn,gs⟩:=p.fresh r hf nd;have gl:=(p.cnt hf).2;have apart:∀(j:Nat) d b,(kill rr.M U)[j]? =some (some (d,b))->∀a∈G,a∉F j:=λj d b e a ha hj=>by
  obtain⟨b',e',_⟩:=(QcS rr.M U).2 j d b e;rcases(gs a ha).2 with q | ⟨k,d',hk,ek,hak⟩
  ·obtain⟨vs,w⟩:=r.mem e' hj;rw[q]at w;cases w
  ·have hjk:j≠k:=λz=>by subst z;exact QiX rr.M U j d b hk e
   exact(r.own k d' ek).2.2.2.1 j d b' hjk e' a hak hj
 have apartH:∀t∈hs,∀a∈G,a∉t.2.2:=λt ht a ha hj=>by
  rcases(gs a ha).2 with q | ⟨k,d',hk,ek,hak⟩
  ·obtain⟨vs,w⟩:=(r.held t ht).1.mem a hj;rw[q]at w;cases w
  ·exact(r.own k d' ek).2.2.2.2 t ht a hak hj
 have lt:∀{j:Nat}{x:Option (D×Bool)}{y:D×Bool},((kill rr.M U).set j x)[j]? =some (some y)->j<(kill rr.M U).length:=λ{j x y} e=>by
  by_cases hl:j<(kill rr.M U).length
  ·exact hl
  ·rw[Zv (by simp;omega)]at e;cases e
 refine⟨by simp[r1.len],λj d b e=>?_,λj d e=>?_,λj d b e a ha=>?_,r1.held,r1.same⟩
 ·by_cases hj:j=i
  ·subst hj;have hl:=lt e;rw[Zo hl]at e;cases e;exact⟨v,by rw[Zo (by rw[← r1.len];exact hl)],by rw[if_pos rfl];exact p.rp⟩
  ·rw[Zd (Ne.symm hj)]at e;obtain⟨w,h1,h2⟩:=r1.val j d b e;exact⟨w,by rw[Zd (Ne.symm hj)];exact h1,by rw[if_neg hj];exact h2⟩
 ·by_cases hj:j=i
  ·subst hj;have hl:=lt e;rw[Zo hl]at e;cases e;rw[if_pos rfl];refine⟨gl,gn,λa ha=>(gs a ha).1,λk d' b hk ek a ha=>?_,apartH⟩;rw[Zd (Ne.symm hk)]at ek;rw[if_neg hk];exact apart k d' b ek a ha
  ·rw[Zd (Ne.symm hj)]at e;obtain⟨h1,h2,h3,h4,h5⟩:=r1.own j d e;rw[if_neg hj];refine⟨h1,h2,h3,λk d' b hk ek a ha=>?_,h5⟩;by_cases hki:k=i
   ·subst hki;rw[if_pos rfl];exact λhG=>apart j d true e a hG ha
   ·rw[Zd (Ne.symm hki)]at ek;rw[if_neg hki];exact h4 k d' b hk ek a ha
 ·by_cases hj:j=i
  ·subst hj;rw[if_pos rfl]at ha;exact .inl (gs a ha).1
  ·rw[Zd (Ne.symm hj)]at e;rw[if_neg hj]at ha;exact r1.src j d b e a ha
noncomputable def asg(i:Nat)(r:R)(U:En):En:=
 if r.norm.fr && decide r.norm.M.Nodup then(kill r.norm.M U).set i (some (r.d,true))else(QaX r.norm.M U).set i (some (r.d,r.d.flat))
theorem Rel.asg(r:Rel K H0 A0 hs U F σ H)(p:Qaa K U F H H' rr v G):∃F',Rel K H0 A0 hs (asg i rr U) F' (σ.set i (some v)) H':=by
 have p':=p.norm;unfold HS.asg;split
 ·rename_i h;simp only[Zm,decide_eq_true_eq]at h;have:=r.QCs (i:=i) p' h.1 h.2;rw[rr.QcV]at this;exact⟨_,this⟩
 ·have r1:=(r.ext p'.same).weak (Qbd rr.norm.M U);have rp:=p'.rp;rw[rr.QcV]at rp;have sh:=Shr.of r p'.src;exact⟨_,r1.QmB rp sh⟩
theorem Rel.hold(r:Rel K H0 A0 hs U F σ H)(h:∀t∈ts,Rp K H t.2.1 t.1 t.2.2/\Shr H0 A0 U F t.2.2):Rel K H0 A0 (ts++hs) U F σ H where
 len:=r.len
 val:=r.val
 own:=λi d e=>by
  obtain⟨h1,h2,h3,h4,h5⟩:=r.own i d e;refine⟨h1,h2,h3,h4,λt ht a ha hm=>?_⟩;rcases ZG.mp ht with z | z
  ·exact((h t z).2 a hm).2 i d e ha
  ·exact h5 t z a ha hm
 src:=r.src
 held:=λt ht=>by
  rcases ZG.mp ht with z | z
  ·exact⟨(h t z).1,λa ha=>((h t z).2 a ha).1⟩
  ·exact r.held t z
 same:=r.same
theorem Rel.QpU(r:Rel K H0 A0 (ts++hs) U F σ H):Rel K H0 A0 hs U F σ H where
 len:=r.len
 val:=r.val
 own:=λi d e=>let ⟨h1,h2,h3,h4,h5⟩:=r.own i d e;⟨h1,h2,h3,h4,λt ht=>h5 t (Ze _ ht)⟩
 src:=r.src
 held:=λt ht=>r.held t (Ze _ ht)
 same:=r.same
end
structure Ret (K:Fgg) (H0:Hp) (A0:LAd) (d:D) (fr:Bool) (v:V) (H':Hp) (G:LAd):Prop where
 same:QQ H0 H'
 rp:Rp K H' d v G
 src:∀a∈G,H0 a=none∨a∈A0
 cnt:fr=true->G.Nodup/\G.length=d.nl/\∀a∈G,H0 a=none
noncomputable abbrev Den:=List D->Option (D×Bool)
noncomputable def spV(K:Fgg)(n:Nat)(den:Den):Sp:=λvs H Q _=>∃ds F d fr,Rps K H ds vs F/\ds.length=n/\den ds=some (d,fr)/\∀v H' G,Ret K H F d fr v H' G->Q v H'
theorem QqC{K:Fgg}{n:Nat}{den:Den}{ps:List Str}(hn:ps.length=n):∀vs H Q E,spV K n den vs H Q E->vs.length=ps.length:=λvs H Q E ⟨ds,F,d,fr,r,hl,_⟩=>by rw[hn,← hl,r.length]
noncomputable def Qh(n:Nat)(den:Den)(dfl:List D)(fs:DA):DE:=λU=>(fs U).bind λr=>if r.ds.length+dfl.length=n then(den (r.ds++dfl)).map λq=>if q.2=true then⟨q.1,true,[]⟩else R.norm ⟨q.1,false,r.M⟩else none
section
variable {X:Cx}{e:Expr}{es:List Expr}{fs:DA}{pos p:Pos}{x:Str}{n k:Nat}{f:Addr}{fd:FuncData}{ps:List Str}{den:Den}{dfl:List D}{dvs:List V}{ds:List Value}
theorem Qnr{σ:L2.St}{H H0:Hp}{A0:LAd}{Q:VK}(hdf:∀H,Rps X.K H dfl dvs []):tV X.K H0 A0 (Qh n den dfl fs) σ H Q->QrJ (spV X.K n den) dvs E0 (tVA X.K H0 A0 fs) σ H Q:=exK λU hs F r rel e q=>by
 refine Qf e λra e1 e=>?_;split at e
 ·rename_i hl;obtain⟨⟨d,fr⟩,e2,e⟩:=Zh.mp e;refine⟨U,hs,F,ra,rel,e1,λvs H1 G p1=>⟨ra.ds++dfl,G++[],d,fr,p1.rp.append (hdf H1),by rw[Zy];exact hl,e2,λv H2 G2 rt=>?_⟩⟩;subst e;have src:Src U F H ra.M G2:=λa ha=>by
   rcases rt.src a ha with z | z
   ·exact .inl (p1.same.free z)
   ·rw[ZaQ]at z;exact p1.src a z
  split at q
  ·rename_i hf;have hf:fr=true:=hf;obtain⟨nd,hn,fresh⟩:=rt.cnt hf;have hH:∀a∈G2,H a=none:=λa ha=>p1.same.free (fresh a ha);refine q v H2 G2 ⟨p1.same.trans rt.same,rt.rp,λa ha=> .inl (hH a ha),λ_=>⟨λa=>?_,hn⟩,Qbz.nil⟩;by_cases ha:a∈G2
   ·rw[Qbw (hH a ha)];have:=Zas.mp nd a;omega
   ·rw[ZS.mpr ha];exact Zaa _
  ·refine q v H2 G2 (Qaa.norm ⟨p1.same.trans rt.same,rt.rp,src,λz=>(by cases z),p1.own⟩)
 ·cases e
theorem Qxf(Fk:Qcs X.prog X.w X.K X.mg X.base CX0 k f fd ps (spV X.K n den))(hr:Qbf k X.A)(hg:Gl X x)(hm:X.mg x=some (.ref f))(hk:PySem.W.keepIn X.K (.ref f)=true)(hb:Binds X.K fd ps ds)(hd:QK dvs ds)(hdf:∀H,Rps X.K H dfl dvs [])
  (ha:SA X (e::es) fs) (hdb:(x == ("__debug__" :Str))=false) (he:starEach (e::es) X.env=(false,eval e X.env)::starEach es X.env) (hpl:(backTo pos (starEach es X.env)).any (·.1)=false):
  SE X (.Call (.Name x p) (e::es) [] pos) (Qh n den dfl fs):=λH0 A0=>
 (QxX Fk hr hg hm hk hb hd Qwv (ha H0 A0) hdb he hpl).mono λσ H Q h=>Qnr hdf h
theorem Qvx(Fk:Qcs X.prog X.w X.K X.mg X.base CX0 k f fd ps (spV X.K n den))(hr:Qbf k X.A)(hg:Gl X x)(hm:X.mg x=some (.ref f))(hk:PySem.W.keepIn X.K (.ref f)=true)(hb:Binds X.K fd ps ds)(hd:QK dvs ds)(hdf:∀H,Rps X.K H dfl dvs [])
  (hdb:(x == ("__debug__" :Str))=false):SE X (.Call (.Name x p) [] [] pos) (Qh n den dfl Qe):=λH0 A0=>
 (Qwk Fk hr hg hm hk hb hd Qwv hdb).mono λσ H Q h=>by
  have h':=Qnr hdf h;obtain⟨U,hs,F,r,rel,e,q⟩:=h';cases e;exact q [] H [] ⟨QQ.refl _,by simp[Rps],Src.nil,λ_=>⟨Cnt.nil,rfl⟩,Qbz.nil⟩
end
structure IR where
 items:List D
 M:List Nat
noncomputable abbrev DI:=En->Option IR
def QkI(K:Fgg)(H:Hp)(ts:List (V×D×List Addr)):Prop:=∀t∈ts,Rp K H t.2.1 t.1 t.2.2
structure Walk (K:Fgg) (J:It) (ts:List (V×D×List Addr)) (ds:List D):Prop where
 stop:∀H,QkI K H ts->J.stop ds.length H
 go:∀i H,i<ds.length->QkI K H ts->J.go i H
 yld:∀(i:Nat) d H x H',ds[i]? =some d->QkI K H ts->J.yld i H x H'->QQ H H'/\∃G,Rp K H' d x G/\∀a∈G,∃t∈ts,a∈t.2.2
noncomputable def tI(K:Fgg)(H0:Hp)(A0:LAd)(f:DI):TI:=λσ H Rr=>∃U hs F ir,Rel K H0 A0 hs U F σ H/\f U=some ir∧
 ∀J H1 ts,QQ H H1->Walk K J ts ir.items->(∀t∈ts,Rp K H1 t.2.1 t.1 t.2.2/\Src U F H ir.M t.2.2)->Qbz U ir.M->ir.items.length<=sizeLine->Rr J H1
def SI(X:Cx)(tg e:Expr)(f:DI):Prop:=∀H0 A0,PI X tg e (tI X.K H0 A0 f)
theorem _root_.L2.PI.mono(h:PI X tg e t)(m:∀σ H Q,t' σ H Q->t σ H Q):PI X tg e t':=λpins s σ H Q I q=>h pins s σ H Q I (m σ H Q q)
section
variable {X:Cx}{tg a b:Expr}{fa fb:DE}{fs:DA}{pos p:Pos}
theorem Rps.nth{K:Fgg}{H:Hp}{ds:List D}{vs:List V}{F:LAd}{i:Nat}{d:D}(h:Rps K H ds vs F)(e:ds[i]? =some d):∃v G,vs[i]? =some v/\Rp K H d v G/\∀a∈G,a∈F:=by
 obtain⟨v,F1,G,F2,h1,h2,h3,_⟩:=h.get e;exact⟨v,G,h1,h3,λa ha=>by rw[h2];exact Ze _ (Zg _ ha)⟩
noncomputable def QB7(K:Fgg)(tl:TE):TI:=λσ H Rr=>tl σ H λx H1=>(∃a,x= .ref a/\(∃xs,SqL K H1 a xs)/\Rr (Itl K a) H1)∨(∃a,x= .ref a/\(∃xs,SqT K H1 a xs)/\Rr (Itt K a) H1)
theorem QAk(hl:PE X l tl):PI X tg l (QB7 X.K tl):=by
 intro pins s σ H Rr I h;refine thn (hl pins s σ H _ I h) λv s1=>exJ λx H1 I1 r1 q1=>?_;rcases q1 with⟨a,e,⟨xs,hq⟩,q⟩ | ⟨a,e,⟨xs,hq⟩,q⟩
 ·subst e;cases r1;obtain⟨its,rv,pl,hz⟩:=I1.list hq;refine wpAny_pyIter_list pl.isList ⟨s1.heap.objs.size,[s1.heap.objs.size],_,_,H1,rfl,I1.kept (t':=s1.toks) λb o e=>Zb _ e,QtR a _,⟨_,ZC _ rfl,rfl,rfl⟩,λb hb=>?_,q⟩;have e:b=s1.heap.objs.size:=by simpa using hb
  subst e;exact I1.Qkg (Zi _) (I1.hok.fresh (Zi _))
 ·subst e;cases r1;obtain⟨its,rv,pl,hz⟩:=I1.tuple hq;refine wpAny_pyIter_tuple (show s1.heap.IsTuple a its.toArray from pl) ⟨s1.heap.objs.size,[s1.heap.objs.size],_,_,H1,rfl,I1.kept (t':=s1.toks) λb o e=>Zb _ e,Qrm a _,⟨_,ZC _ rfl,rfl,rfl⟩,λb hb=>?_,q⟩;have e:b=s1.heap.objs.size:=by simpa using hb
  subst e;exact I1.Qkg (Zi _) (I1.hok.fresh (Zi _))
noncomputable def QX(fa:DE):DI:=λU=>(fa U).bind λr=>match r.d with
 | .lst xs=>some ⟨xs,r.M⟩
 | .tup xs=>if xs.length<=sizeLine then some ⟨xs,r.M⟩else none
 | _=>none
theorem Qsq{K:Fgg}{c:Addr}{ds:List D}{G:LAd}:Walk K (Itl K c) [(.ref c,.lst ds,G)] ds where
 stop:=λH h=>by
  obtain⟨l,vs,L,e,hl,rl,zl,el⟩:=(h _ (ZH.mpr rfl)).lst_inv;cases e;exact⟨vs,Q1 hl,by rw[rl.length];exact Zi _⟩
 go:=λi H hi h=>by
  obtain⟨l,vs,L,e,hl,rl,zl,el⟩:=(h _ (ZH.mpr rfl)).lst_inv;cases e;have:i<vs.length:=by rw[← rl.length];exact hi
  exact⟨vs,vs[i],Q1 hl,by simp[this]⟩
 yld:=λi d H x H' e h y=>by
  obtain⟨l,vs,L,e1,hl,rl,zl,el⟩:=(h _ (ZH.mpr rfl)).lst_inv;cases e1;obtain⟨rfl,y⟩:=y;obtain⟨v,G',h1,h2,h3⟩:=rl.nth e;have:=y vs (Q1 hl);rw[h1]at this;cases this;refine⟨QQ.refl _,G',h2,λz hz=>⟨_,ZH.mpr rfl,?_⟩⟩;have:=h3 z hz;rcases el with rfl | rfl
  ·exact Zc _ this
  ·exact this
theorem QvW{K:Fgg}{c:Addr}{ds:List D}{G:LAd}:Walk K (Itt K c) [(.ref c,.tup ds,G)] ds where
 stop:=λH h=>by
  obtain⟨l,vs,e,hl,rl⟩:=(h _ (ZH.mpr rfl)).Qa8;cases e;exact⟨vs,hl,by rw[rl.length];exact Zi _⟩
 go:=λi H hi h=>by
  obtain⟨l,vs,e,hl,rl⟩:=(h _ (ZH.mpr rfl)).Qa8;cases e;have:i<vs.length:=by rw[← rl.length];exact hi
  exact⟨vs,vs[i],hl,by simp[this]⟩
 yld:=λi d H x H' e h y=>by
  obtain⟨l,vs,e1,hl,rl⟩:=(h _ (ZH.mpr rfl)).Qa8;cases e1;obtain⟨rfl,y⟩:=y;obtain⟨v,G',h1,h2,h3⟩:=rl.nth e;have:=y vs hl;rw[h1]at this;cases this;exact⟨QQ.refl _,G',h2,λz hz=>⟨_,ZH.mpr rfl,h3 z hz⟩⟩
theorem QyL(ha:SE X a fa):SI X tg a (QX fa):=λH0 A0=>(QAk (ha H0 A0)).mono λσ H Rr=>exK λU hs F ir rel e q=>by
 refine Qf e λr e1 e=>?_;refine⟨U,hs,F,r,rel,e1,λv H1 G p=>?_⟩;have rp:=p.rp;cases hr:r.d with
 | lst xs=>
  rw[hr]at e rp;cases e;obtain⟨c,vs,L,rfl,hl,rl,zl,el⟩:=rp.lst_inv;refine .inl ⟨c,rfl,⟨vs,Q1 hl⟩,q _ H1 [(.ref c,.lst xs,G)] p.same Qsq (λt ht=>?_) p.own zl⟩;rw[ZH.mp ht];exact⟨rp,p.src⟩
 | tup xs=>
  rw[hr]at e rp;dsimp only at e;split at e
  ·rename_i hz;cases e;obtain⟨c,vs,rfl,hl,rl⟩:=rp.Qa8;refine .inr ⟨c,rfl,⟨vs,hl⟩,q _ H1 [(.ref c,.tup xs,G)] p.same QvW (λt ht=>?_) p.own hz⟩;rw[ZH.mp ht];exact⟨rp,p.src⟩
  ·cases e
 | _=>rw[hr]at e;cases e
noncomputable def QiU(lo:Int)(n:Nat):List D:=(List.range n).map λ(k:Nat)=> .int (lo+(k:Int))
theorem Qic:(QiU lo n).length=n:=by simp[QiU]
theorem Qu5(h:(QiU lo n)[i]? =some d):i<n/\d= .int (lo+i):=by
 unfold QiU at h;rw[Zr]at h;cases q:(List.range n)[i]? with
 | none=>rw[q]at h;cases h
 | some k=>
  rw[q]at h;obtain⟨h1,h2⟩:=Zk.mp q;simp at h1 h2;subst h2;exact⟨h1,(Option.some.inj h).symm⟩
theorem QlE:Walk K (Itr lo n) [] (QiU lo n) where
 stop:=λH _=>by rw[Qic];exact Zi _
 go:=λi H hi _=>by rw[Qic]at hi;exact hi
 yld:=λi d H x H' e _ y=>by
  obtain⟨h1,rfl⟩:=Qu5 e;obtain⟨rfl,rfl⟩:=y;exact⟨QQ.refl _,[],.int_mk,λz hz=>by simp at hz⟩
noncomputable def QaH(fa:DE):DI:=λU=>(fa U).bind λr=>match r.d with
 | .int j=>if j<=16777216/\ -(2^62)<=j then some ⟨QiU 0 j.toNat,[]⟩else none
 | _=>none
noncomputable def Qei(fa fb:DE):DI:=λU=>(fa U).bind λr=>(fb U).bind λr'=>match r.d,r'.d with
 | .int i,.int j=>if j-i<=16777216/\ -(2^62)<=i/\i<2^62/\ -(2^62)<=j/\j<2^62 then some ⟨QiU i (j-i).toNat,[]⟩else none
 | _,_=>none
theorem QmL:(sizeLine:Nat)=16777216:=sizeLine_eq
theorem QsN(hg:Gl X "range")(hm:X.mg "range" =none)(ha:SE X a fa)(hs:starEach [a] X.env=[(false,eval a X.env)]):SI X tg (.Call (.Name "range" p) [a] [] pos) (QaH fa):=λH0 A0=>
 (Qsr hg hm (Qar (ha H0 A0) QcQ hs) hs).mono λσ H Rr=>exK λU hs F ir rel e q=>by
  refine Qf e λr e1 e=>?_;refine⟨U,hs,F,r,rel,e1,λv H1 G pp=>?_⟩;have rp:=pp.rp;cases hr:r.d with
  | int j=>
   rw[hr]at e rp;dsimp only at e;split at e
   ·rename_i hz;cases e;rw[rp.int_inv];refine⟨j,rfl,hz.2,⋯,q _ H1 [] pp.same QlE (λt ht=>by simp at ht) Qbz.nil ?_⟩;rw[Qic,QmL];omega
   ·cases e
  | _=>rw[hr]at e;cases e
theorem Qss(hg:Gl X "range")(hm:X.mg "range" =none)(ha:SE X a fa)(hb:SE X b fb)(hs:starEach [a,b] X.env=[(false,eval a X.env),(false,eval b X.env)])(hs2:starEach [b] X.env=[(false,eval b X.env)]):
  SI X tg (.Call (.Name "range" p) [a,b] [] pos) (Qei fa fb):=λH0 A0=>
 (Qsw hg hm (Qar (ha H0 A0) (Qar (hb H0 A0) QcQ hs2) (by rw[hs,hs2])) hs hs2).mono λσ H Rr=>exK λU hs F ir rel e q=>by
  refine Qf e λr e1 e=>?_;refine Qf e λr' e2 e=>?_;refine⟨U,hs,F,r,rel,e1,λv H1 G pp=>⟨U,hs,F,r',rel.ext pp.same,e2,λv' H2 G' pp'=>?_⟩⟩;have rp:=pp.rp.same pp'.same;have rp':=pp'.rp;cases hr:r.d with
  | int i=>
   cases hr':r'.d with
   | int j=>
    rw[hr,hr']at e;rw[hr]at rp;rw[hr']at rp';dsimp only at e;split at e
    ·rename_i hz;cases e;rw[rp.int_inv,rp'.int_inv];refine⟨i,j,rfl,hz.2,q _ H2 [] (pp.same.trans pp'.same) QlE (λt ht=>by simp at ht) Qbz.nil ?_⟩;rw[Qic,QmL];omega
    ·cases e
   | _=>rw[hr,hr']at e;cases e
  | _=>rw[hr]at e;cases e
noncomputable def Qdm(ds:List D):List D:=ds.zipIdx.map λq=> .tup [.int q.2,q.1]
theorem Qi0:(Qdm ds).length=ds.length:=by simp[Qdm]
theorem QtQ{ds:List D}{i:Nat}{d:D}(h:(Qdm ds)[i]? =some d):∃e,ds[i]? =some e/\d= .tup [.int i,e]:=by
 unfold Qdm at h;rw[Zr,List.getElem?_zipIdx]at h;cases q:ds[i]? with
 | none=>rw[q]at h;cases h
 | some e=>rw[q]at h;simp at h;exact⟨e,rfl,h.symm⟩
theorem Qtx{K:Fgg}{c:Addr}{ds:List D}{G:LAd}:Walk K (Ite K c) [(.ref c,.lst ds,G)] (Qdm ds) where
 stop:=λH h=>by
  obtain⟨l,vs,L,e,hl,rl,zl,el⟩:=(h _ (ZH.mpr rfl)).lst_inv;cases e;exact⟨vs,Q1 hl,by rw[Qi0,rl.length];exact Zi _⟩
 go:=λi H hi h=>by
  obtain⟨l,vs,L,e,hl,rl,zl,el⟩:=(h _ (ZH.mpr rfl)).lst_inv;cases e;rw[Qi0]at hi;have:i<vs.length:=by rw[← rl.length];exact hi
  exact⟨vs,vs[i],Q1 hl,by simp[this]⟩
 yld:=λi d H x H' e h y=>by
  obtain⟨l,vs,L,e1,hl,rl,zl,el⟩:=(h _ (ZH.mpr rfl)).lst_inv;cases e1;obtain⟨d',e',rfl⟩:=QtQ e;obtain⟨pp,u,rfl,hp,rfl,y⟩:=y;obtain⟨v,G',h1,h2,h3⟩:=rl.nth e';have:=y vs (Q1 hl);rw[h1]at this;cases this;have s:=Qbj (o:= .tup [.int i,u]) hp;refine⟨s,G',Rp.Qhl Qac ?_,λz hz=>⟨_,ZH.mpr rfl,?_⟩⟩
  ·simp only[Rps];exact⟨.int i,[u],[],G',rfl,rfl,.int_mk,u,[],G',[],rfl,by simp,h2.same s,rfl,rfl⟩
  ·have:=h3 z hz;rcases el with rfl | rfl
   ·exact Zc _ this
   ·exact this
noncomputable def QdX(fa:DE):DI:=λU=>(fa U).bind λr=>match r.d with
 | .lst xs=>some ⟨Qdm xs,r.M⟩
 | _=>none
theorem QxF(hg:Gl X "enumerate")(hm:X.mg "enumerate" =none)(ha:SE X a fa)(hs:starEach [a] X.env=[(false,eval a X.env)]):SI X (.Tuple es tk tpos) (.Call (.Name "enumerate" p) [a] [] pos) (QdX fa):=λH0 A0=>
 (Qxo hg hm (Qar (ha H0 A0) QcQ hs) hs).mono λσ H Rr=>exK λU hs F ir rel e q=>by
  refine Qf e λr e1 e=>?_;refine⟨U,hs,F,r,rel,e1,λv H1 G pp=>?_⟩;have rp:=pp.rp;cases hr:r.d with
  | lst xs=>
   rw[hr]at e rp;cases e;obtain⟨c,vs,L,rfl,hl,rl,zl,el⟩:=rp.lst_inv;refine⟨c,rfl,⟨vs,Q1 hl⟩,q _ H1 [(.ref c,.lst xs,G)] pp.same Qtx (λt ht=>?_) pp.own (by rw[Qi0];exact zl)⟩;rw[ZH.mp ht];exact⟨rp,pp.src⟩
  | _=>rw[hr]at e;cases e
noncomputable def Qja(xs ys:List D):List D:=(xs.zip ys).map λq=> .tup [q.1,q.2]
theorem QkL:(Qja xs ys).length=min xs.length ys.length:=by simp[Qja]
theorem QuB{xs ys:List D}{i:Nat}{d:D}(h:(Qja xs ys)[i]? =some d):∃e f,xs[i]? =some e/\ys[i]? =some f/\d= .tup [e,f]:=by
 unfold Qja at h;rw[Zr]at h;cases q:(xs.zip ys)[i]? with
 | none=>rw[q]at h;cases h
 | some e=>
  rw[q]at h;obtain⟨h1,h2⟩:=ZaE.mp q;exact⟨e.1,e.2,h1,h2,(Option.some.inj h).symm⟩
theorem QuP{K:Fgg}{c c':Addr}{xs ys:List D}{G G':LAd}:Walk K (Itz K c c') [(.ref c,.lst xs,G),(.ref c',.lst ys,G')] (Qja xs ys) where
 stop:=λH h=>by
  obtain⟨l,vs,L,e,hl,rl,zl,el⟩:=(h _ (Zl)).lst_inv;obtain⟨l',vs',L',e',hl',rl',zl',el'⟩:=(h _ (Zc _ Zl)).lst_inv;cases e;cases e';refine⟨vs,vs',Q1 hl,Q1 hl',?_⟩;rw[QkL,← rl.length,← rl'.length];omega
 go:=λi H hi h=>by
  obtain⟨l,vs,L,e,hl,rl,zl,el⟩:=(h _ (Zl)).lst_inv;obtain⟨l',vs',L',e',hl',rl',zl',el'⟩:=(h _ (Zc _ Zl)).lst_inv;cases e;cases e';rw[QkL]at hi;have h1:i<vs.length:=by rw[← rl.length];omega
  have h2:i<vs'.length:=by rw[← rl'.length];omega
  exact⟨vs,vs',vs[i],vs'[i],Q1 hl,Q1 hl',by simp[h1],by simp[h2]⟩
 yld:=λi d H x H' e h y=>by
  obtain⟨l,vs,L,e1,hl,rl,zl,el⟩:=(h _ (Zl)).lst_inv;obtain⟨l',vs',L',e1',hl',rl',zl',el'⟩:=(h _ (Zc _ Zl)).lst_inv;cases e1;cases e1';obtain⟨d1,d2,ea,eb,rfl⟩:=QuB e;obtain⟨pp,u,u',rfl,hp,rfl,y,y'⟩:=y;obtain⟨v,G1,h1,h2,h3⟩:=rl.nth ea;obtain⟨v',G2,h1',h2',h3'⟩:=rl'.nth eb;have:=y vs (Q1 hl);rw[h1]at this;cases this;have:=y' vs' (Q1 hl');rw[h1']at this;cases this;have s:=Qbj (o:= .tup [u,u']) hp;refine⟨s,G1++G2,Rp.Qhl Qac ?_,λz hz=>?_⟩
  ·simp only[Rps];exact⟨u,[u'],G1,G2,rfl,rfl,h2.same s,u',[],G2,[],rfl,by simp,h2'.same s,rfl,rfl⟩
  ·rcases ZG.mp hz with hz | hz
   ·refine⟨_,Zl,?_⟩;have:=h3 z hz;rcases el with rfl | rfl
    ·exact Zc _ this
    ·exact this
   ·refine⟨_,Zc _ Zl,?_⟩;have:=h3' z hz;rcases el' with rfl | rfl
    ·exact Zc _ this
    ·exact this
noncomputable def Qaz(fa fb:DE):DI:=λU=>(fa U).bind λr=>(fb U).bind λr'=>match r.d,r'.d with
 | .lst xs,.lst ys=>some ⟨Qja xs ys,r.M++r'.M⟩
 | _,_=>none
theorem Qza(hg:Gl X "zip")(hm:X.mg "zip" =none)(ha:SE X a fa)(hb:SE X b fb)(hs:starEach [a,b] X.env=[(false,eval a X.env),(false,eval b X.env)])(hs2:starEach [b] X.env=[(false,eval b X.env)]):
  SI X (.Tuple es tk tpos) (.Call (.Name "zip" p) [a,b] [] pos) (Qaz fa fb):=λH0 A0=>
 (QzU hg hm (Qar (ha H0 A0) (Qar (hb H0 A0) QcQ hs2) (by rw[hs,hs2])) hs hs2).mono λσ H Rr=>exK λU hs F ir rel e q=>by
  refine Qf e λr e1 e=>?_;refine Qf e λr' e2 e=>?_;refine⟨U,hs,F,r,rel,e1,λv H1 G pp=>⟨U,hs,F,r',rel.ext pp.same,e2,λv' H2 G' pp'=>?_⟩⟩;have rp:=pp.rp.same pp'.same;have rp':=pp'.rp;cases hr:r.d with
  | lst xs=>
   cases hr':r'.d with
   | lst ys=>
    rw[hr,hr']at e;rw[hr]at rp;rw[hr']at rp';cases e;obtain⟨c,vs,L,rfl,hl,rl,zl,el⟩:=rp.lst_inv;obtain⟨c',vs',L',rfl,hl',rl',zl',el'⟩:=rp'.lst_inv;refine⟨c,c',rfl,⟨vs,Q1 hl⟩,⟨vs',Q1 hl'⟩,q _ H2 [(.ref c,.lst xs,G),(.ref c',.lst ys,G')] (pp.same.trans pp'.same) QuP (λt ht=>?_) (pp.own.append pp'.own) (by rw[QkL];omega)⟩;have sa:=pp.src.append pp'.src pp.same;rcases Zj.mp ht with rfl | ht
    ·exact⟨rp,λz hz=>sa z (Zg _ hz)⟩
    ·rw[ZH.mp ht];exact⟨rp',λz hz=>sa z (Ze _ hz)⟩
   | _=>rw[hr,hr']at e;cases e
  | _=>rw[hr]at e;cases e
end
end HS
namespace HS
open PySem L2
noncomputable def Qgh(xs ys zs:List D):List D:=(xs.zip (ys.zip zs)).map λq=> .tup [q.1,q.2.1,q.2.2]
theorem QsS{xs ys zs:List D}{i:Nat}{d:D}(h:(Qgh xs ys zs)[i]? =some d):∃e f g,xs[i]? =some e/\ys[i]? =some f/\zs[i]? =some g/\d= .tup [e,f,g]:=by
 unfold Qgh at h;rw[Zr]at h;cases q:(xs.zip (ys.zip zs))[i]? with
 | none=>rw[q]at h;cases h
 | some e=>
  rw[q]at h;obtain⟨h1,h2⟩:=ZaE.mp q;obtain⟨h3,h4⟩:=ZaE.mp h2;exact⟨e.1,e.2.1,e.2.2,h1,h3,h4,(Option.some.inj h).symm⟩
theorem QiV(h1:xs.length=ys.length)(h2:ys.length=zs.length):(Qgh xs ys zs).length=xs.length:=by
 simp[Qgh];omega
theorem QtT{K:Fgg}{c c' c'':Addr}{xs ys zs:List D}{G G' G'':LAd}(n1:xs.length=ys.length)(n2:ys.length=zs.length):Walk K (Quv K c c' c'') [(.ref c,.lst xs,G),(.ref c',.lst ys,G'),(.ref c'',.lst zs,G'')] (Qgh xs ys zs):=by
 have inv:∀H,QkI K H [(.ref c,.lst xs,G),(.ref c',.lst ys,G'),(.ref c'',.lst zs,G'')]->(∃vs L,SqL K H c vs/\Rps K H xs vs L/\∀a∈L,a∈G)/\(∃vs L,SqL K H c' vs/\Rps K H ys vs L/\∀a∈L,a∈G')/\∃vs L,SqL K H c'' vs/\Rps K H zs vs L/\∀a∈L,a∈G'':=λH h=>by
  have one:∀{p:Addr}{ds:List D}{G:LAd},Rp K H (.lst ds) (.ref p) G->∃vs L,SqL K H p vs/\Rps K H ds vs L/\∀a∈L,a∈G:=λ{p ds G} r=>by
   obtain⟨l,vs,L,e,hl,rl,zl,el⟩:=r.lst_inv;cases e;refine⟨vs,L,Q1 hl,rl,λa ha=>?_⟩;rcases el with rfl | rfl
   ·exact Zc _ ha
   ·exact ha
  exact⟨one (h _ Zl),one (h _ (Zc _ Zl)),one (h _ (Zc _ (Zc _ Zl)))⟩
 refine⟨λH h=>?_,λi H hi h=>?_,λi d H x H' e h y=>?_⟩
 ·obtain⟨⟨vs,L,hl,rl,el⟩,_⟩:=inv H h;exact⟨vs,hl,by rw[QiV n1 n2,← rl.length];omega⟩
 ·obtain⟨⟨vs,L,hl,rl,el⟩,⟨vs',L',hl',rl',el'⟩,⟨vs'',L'',hl'',rl'',el''⟩⟩:=inv H h;rw[QiV n1 n2]at hi;have h1:i<vs.length:=by rw[← rl.length];omega
  have h2:i<vs'.length:=by rw[← rl'.length];omega
  have h3:i<vs''.length:=by rw[← rl''.length];omega
  exact⟨vs,vs',vs'',vs[i],vs'[i],vs''[i],hl,hl',hl'',by simp[h1],by simp[h2],by simp[h3]⟩
 ·obtain⟨⟨vs,L,hl,rl,el⟩,⟨vs',L',hl',rl',el'⟩,⟨vs'',L'',hl'',rl'',el''⟩⟩:=inv H h;obtain⟨d1,d2,d3,ea,eb,ec,rfl⟩:=QsS e;obtain⟨pp,u,u',u'',rfl,hp,rfl,y,y',y''⟩:=y;obtain⟨v,G1,h1,h2,h3⟩:=rl.nth ea;obtain⟨v',G2,h1',h2',h3'⟩:=rl'.nth eb;obtain⟨v'',G3,h1'',h2'',h3''⟩:=rl''.nth ec;have q:=y vs hl;rw[h1]at q;cases q;have q:=y' vs' hl';rw[h1']at q;cases q;have q:=y'' vs'' hl'';rw[h1'']at q;cases q;have s:=Qbj (o:= .tup [u,u',u'']) hp;refine⟨s,G1++(G2++G3),Rp.Qhl Qac ?_,λz hz=>?_⟩
  ·simp only[Rps];exact⟨u,[u',u''],G1,G2++G3,rfl,rfl,h2.same s,u',[u''],G2,G3,rfl,rfl,h2'.same s,u'',[],G3,[],rfl,by simp,h2''.same s,rfl,rfl⟩
  ·rcases ZG.mp hz with hz | hz
   ·exact⟨_,Zl,el _ (h3 z hz)⟩
   ·rcases ZG.mp hz with hz | hz
    ·exact⟨_,Zc _ Zl,el' _ (h3' z hz)⟩
    ·exact⟨_,Zc _ (Zc _ Zl),el'' _ (h3'' z hz)⟩
noncomputable def Qhj(fa fb fc:DE):DI:=λU=>(fa U).bind λr=>(fb U).bind λr'=>(fc U).bind λr''=>match r.d,r'.d,r''.d with
 | .lst xs,.lst ys,.lst zs=>if xs.length=ys.length/\ys.length=zs.length then some ⟨Qgh xs ys zs,r.M++(r'.M++r''.M)⟩else none
 | _,_,_=>none
section
theorem QxG(hg:Gl X "zip")(hm:X.mg "zip" =none)(ha:SE X a fa)(hb:SE X b fb)(hc:SE X c fc)(hs:starEach [a,b,c] X.env=(false,eval a X.env)::starEach [b,c] X.env)(hs2:starEach [b,c] X.env=(false,eval b X.env)::starEach [c] X.env)(hs3:starEach [c] X.env=[(false,eval c X.env)]):
  SI X (.Tuple es tk tpos) (.Call (.Name "zip" p) [a,b,c] [] pos) (Qhj fa fb fc):=λH0 A0=>
 (QxN hg hm (Qar (ha H0 A0) (Qar (hb H0 A0) (Qar (hc H0 A0) QcQ hs3) hs2) hs) hs (by rw[hs2,hs3];rfl)).mono λσ H Rr=>exK λU hs F ir rel e q=>by
  refine Qf e λr e1 e=>?_;refine Qf e λr' e2 e=>?_;refine Qf e λr'' e3 e=>?_;refine⟨U,hs,F,r,rel,e1,λv H1 G pp=>⟨U,hs,F,r',rel.ext pp.same,e2,λv' H2 G' pp'=>⟨U,hs,F,r'',(rel.ext pp.same).ext pp'.same,e3,λv'' H3 G'' pp''=>?_⟩⟩⟩;have rp:=(pp.rp.same pp'.same).same pp''.same;have rp':=pp'.rp.same pp''.same;have rp'':=pp''.rp;cases hr:r.d with
  | lst xs=>
   cases hr':r'.d with
   | lst ys=>
    cases hr'':r''.d with
    | lst zs=>
     rw[hr,hr',hr'']at e;rw[hr]at rp;rw[hr']at rp';rw[hr'']at rp'';dsimp only at e;split at e
     ·rename_i hn;cases e;obtain⟨c1,vs,L,rfl,hl,rl,zl,el⟩:=rp.lst_inv;obtain⟨c2,vs',L',rfl,hl',rl',zl',el'⟩:=rp'.lst_inv;obtain⟨c3,vs'',L'',rfl,hl'',rl'',zl'',el''⟩:=rp''.lst_inv;refine⟨c1,c2,c3,rfl,⟨vs,Q1 hl⟩,⟨vs',Q1 hl'⟩,⟨vs'',Q1 hl''⟩,q _ H3 [(.ref c1,.lst xs,G),(.ref c2,.lst ys,G'),(.ref c3,.lst zs,G'')] ((pp.same.trans pp'.same).trans pp''.same) (QtT hn.1 hn.2) (λt ht=>?_) (pp.own.append (pp'.own.append pp''.own)) (by rw[QiV hn.1 hn.2];exact zl)⟩;have sb:=pp'.src.append pp''.src pp'.same;have sa:=pp.src.append sb pp.same;rcases Zj.mp ht with rfl | ht
      ·exact⟨rp,λz hz=>sa z (Zg _ hz)⟩
      ·rcases Zj.mp ht with rfl | ht
       ·exact⟨rp',λz hz=>sa z (Ze _ (Zg _ hz))⟩
       ·rw[ZH.mp ht];exact⟨rp'',λz hz=>sa z (Ze _ (Ze _ hz))⟩
     ·cases e
    | _=>rw[hr,hr',hr'']at e;cases e
   | _=>rw[hr,hr']at e;cases e
  | _=>rw[hr]at e;cases e
end
end HS
namespace HS
open PySem PySem.Spec L2
inductive Tg where
 | nm (i:Nat)
 | tp (is:List Nat)
noncomputable def Tg.slots:Tg->List Nat
 | .nm i=>[i]
 | .tp is=>is
noncomputable def QdM:List Nat->List D->En->En
 | i::is,d::ds,U=>QdM is ds (U.set i (some (d,d.flat)))
 | _,_,U=>U
noncomputable def Qbr:Tg->D->En->Option En
 | .nm i,d,U=>some (U.set i (some (d,d.flat)))
 | .tp is,.tup xs,U=>if xs.length=is.length then some (QdM is xs U)else none
 | .tp is,.lst xs,U=>if xs.length=is.length then some (QdM is xs U)else none
 | .tp _,_,_=>none
noncomputable def tG(K:Fgg)(H0:Hp)(A0:LAd)(t:Tg):TG:=λv σ H Q=>∃U hs F d G U',Rel K H0 A0 hs U F σ H/\Rp K H d v G/\Shr H0 A0 U F G/\Qbr t d U=some U'∧
 ∀σ' F',Rel K H0 A0 hs U' F' σ' H->(∀j,j∉t.slots->σ'[j]? =σ[j]?)->(∀j a,a∈F' j->a∈F j∨a∈G)->Q σ' H
def SG(X:Cx)(tg:Expr)(t:Tg):Prop:=∀H0 A0,PG X tg (tG X.K H0 A0 t)
theorem _root_.L2.PG.mono{X:Cx}{tg:Expr}{t t':TG}(h:PG X tg t)(m:∀v σ H Q,t' v σ H Q->t v σ H Q):PG X tg t':=λpins s σ H v u Q I r q=>h pins s σ H v u Q I r (m v σ H Q q)
noncomputable def QlU:List Nat->TGs
 | []=>Qz2
 | i::is=>QwE (Qgl i) (QlU is)
theorem Shr.set{H0:Hp}{A0:LAd}{U:En}{F:Nat->List Addr}{G G1:LAd}{i:Nat}{d:D}(h:Shr H0 A0 U F G)(hf:d.flat=true->G1=[]):Shr H0 A0 (U.set i (some (d,d.flat))) (λj=>if j=i then G1 else F j) G:=λa ha=>by
 refine⟨(h a ha).1,λj d' e=>?_⟩;by_cases hj:j=i
 ·subst hj;show ¬a∈(if j=j then G1 else F j);rw[if_pos rfl];have hl:j<U.length:=by
   by_cases hl:j<U.length
   ·exact hl
   ·rw[Zv (by simp;omega)]at e;cases e
  rw[Zo hl]at e;have e1:=Option.some.inj (Option.some.inj e);rw[hf (congrArg Prod.snd e1)];simp
 ·rw[Zd (Ne.symm hj)]at e;show ¬a∈(if j=i then G1 else F j);rw[if_neg hj];exact(h a ha).2 j d' e
theorem Qkt{K:Fgg}{H0:Hp}{A0:LAd}{hs:List (V×D×List Addr)}:∀(is:List Nat) (ds:List D) (vs:List V) (U:En) (F:Nat->List Addr) (σ:L2.St) (H:Hp) (G:LAd) (Q:L2.St->Hp->Prop),
  Rel K H0 A0 hs U F σ H->Rps K H ds vs G->Shr H0 A0 U F G->ds.length=is.length→
  (∀σ' F',Rel K H0 A0 hs (QdM is ds U) F' σ' H->(∀j,j∉is->σ'[j]? =σ[j]?)->(∀j a,a∈F' j->a∈F j∨a∈G)->Q σ' H)->QlU is vs σ H Q
 | [],ds,vs,U,F,σ,H,G,Q,rel,rp,sh,hl,q=>by
  have:ds=[]:=by simpa using hl
  subst this;simp only[Rps]at rp;exact⟨rp.1,q σ F rel (λ_ _=>rfl) λ_ _ h=> .inl h⟩
 | i::is,[],vs,U,F,σ,H,G,Q,rel,rp,sh,hl,q=>by simp at hl
 | i::is,d::ds,vs,U,F,σ,H,G,Q,rel,rp,sh,hl,q=>by
  simp only[Rps]at rp;obtain⟨v,ws,G1,G2,rfl,rfl,r1,r2⟩:=rp;refine⟨v,ws,rfl,?_⟩;have sh1:Shr H0 A0 U F G1:=λa ha=>sh a (Zg _ ha);have sh2:Shr H0 A0 U F G2:=λa ha=>sh a (Ze _ ha);refine Qkt is ds ws _ _ _ H G2 Q (rel.QmB r1 sh1) r2 (sh2.set r1.Qco) (by simpa using hl) λσ' F' rel' k m=>q σ' F' rel' (λj hj=>?_) λj a ha=>?_
  ·have h1:j≠i:=λz=>hj (by rw[z];exact Zl);rw[k j λz=>hj (Zc _ z),Zd (Ne.symm h1)]
  ·rcases m j a ha with z | z
   ·by_cases hj:j=i
    ·rw[if_pos hj]at z;exact .inr (Zg _ z)
    ·rw[if_neg hj]at z;exact .inl z
   ·exact .inr (Ze _ z)
section
variable {X:Cx}{tg:Expr}{pos:Pos}
theorem Qyi{i:Nat}{x:Str}(h:PG X (.Name x pos) (Qgl i)):SG X (.Name x pos) (.nm i):=λH0 A0=>h.mono λv σ H Q Z=>by
 obtain⟨U,hs,F,d,G,U',rel,rp,sh,e,q⟩:=Z;cases e;refine q _ _ (rel.QmB rp sh) (λj hj=>?_) λj a ha=>?_
 ·have:j≠i:=λz=>hj (by simp[Tg.slots,z]);rw[Zd (Ne.symm this)]
 ·by_cases hj:j=i
  ·rw[if_pos hj]at ha;exact .inr ha
  ·rw[if_neg hj]at ha;exact .inl ha
theorem QxH{es:List Expr}{k:Nat}{t:TGs}{n:Nat}(hc:X.calm=true)(h:PGs X es t)
  (hn:(assignEach es X.env).length=n) (hst:(assignEach es X.env).findIdx? (·.1)=none):PG X (.Tuple es k pos) (λv σ H Q=>∃a xs,v= .ref a/\SqL X.K H a xs/\xs.length=n/\t xs σ H Q):=by
 intro pins s σ H v u Q I r hw;obtain⟨a,xs,e1,hq,hl,hw⟩:=hw;subst e1;cases r;obtain⟨its,rv,ht,hz⟩:=I.list hq;rw[PyProof.Rows.assign_Tuple];refine wpAny_bind (wpAny_standAt ?_);unfold unpack;rw[hn,hst,show n=its.toArray.size by simp[← hl,rv.length]];refine wpAny_bind (wpAny_holding (PySem.W.kun_itemsOf (I.ok.hd hc) ht.isList λh' hx=>?_));have I1:Inv X pins σ H {s with heap:=h'}:=I.kept (t':=s.toks) λb o e=>hx b o (ZN (Zs e)) e;exact h pins _ σ H xs _ Q I1 (by simpa using rv) hw
theorem QyX{es:List Expr}{k:Nat}{is:List Nat}(hc:X.calm=true)(h:PGs X es (QlU is))(hn:(assignEach es X.env).length=is.length)(hst:(assignEach es X.env).findIdx? (·.1)=none):SG X (.Tuple es k pos) (.tp is):=λH0 A0=>
 λpins s σ H v u Q I r Z=>by
  obtain⟨U,hs,F,d,G,U',rel,rp,sh,e,q⟩:=Z;cases d with
  | tup xs=>
   simp only[Qbr]at e;split at e
   ·rename_i hl;cases e;obtain⟨a,vs,rfl,hq,rs⟩:=rp.Qa8;exact QAK hc h hn hst pins s σ H _ u Q I r ⟨a,vs,rfl,hq,by rw[← rs.length];exact hl,Qkt is xs vs U F σ H G Q rel rs sh hl q⟩
   ·cases e
  | lst xs=>
   simp only[Qbr]at e;split at e
   ·rename_i hl;cases e;obtain⟨a,vs,L,rfl,hq,rs,_,eG⟩:=rp.lst_inv;have sub:∀b∈L,b∈G:=λb hb=>by
     rcases eG with rfl | rfl
     ·exact Zc _ hb
     ·exact hb
    exact QxH hc h hn hst pins s σ H _ u Q I r ⟨a,vs,rfl,Q1 hq,by rw[← rs.length];exact hl,Qkt is xs vs U F σ H L Q rel rs (λb hb=>sh b (sub b hb)) hl λσ' F' rel' k m=>q σ' F' rel' k λj b hb=>(m j b hb).imp id (sub b)⟩
   ·cases e
  | _=>simp only[Qbr]at e;cases e
end
noncomputable def Qfn(cap:List (Option Nat))(U:En):En:=cap.map λo=>o.bind λi=>match U[i]? with
 | some (some (d,_))=>some (d,d.flat)
 | _=>none
noncomputable def Qr7(cap:List (Option Nat))(U:En):List Nat:=cap.filterMap λo=>o.bind λi=>match U[i]? with
 | some (some (d,b))=>if b && !d.flat then some i else none
 | _=>none
noncomputable def Qgv(t:Tg)(ft:DT)(fe:DE)(Uc:En)(acc:List D×Bool)(d:D):Option (List D×Bool):=
 (Qbr t d Uc).bind λU1=>(ft U1).bind λc=>if c=true then(fe U1).map λr=>(acc.1++[r.d],acc.2 && r.norm.fr)else some acc
noncomputable def QF(fi:DI)(t:Tg)(cap:List (Option Nat))(ft:DT)(fe:DE):DE:=λU=>(fi U).bind λir=>
 (ir.items.foldlM (Qgv t ft fe (Qfn cap U)) ([],true)).map λq=>if q.2=true then⟨.lst q.1,true,[]⟩else⟨.lst q.1,false,ir.M++Qr7 cap U⟩
def Qc0(U:En):Prop:=∀(j:Nat) d,U[j]? =some (some (d,true))->d.flat=true
theorem Qc0.set{U:En}(h:Qc0 U)(i:Nat)(d:D):Qc0 (U.set i (some (d,d.flat))):=λj d' e=>by
 by_cases hj:j=i
 ·subst hj;have hl:j<U.length:=by
   by_cases hl:j<U.length
   ·exact hl
   ·rw[Zv (by simp;omega)]at e;cases e
  rw[Zo hl]at e;have e1:=Option.some.inj (Option.some.inj e);have h1:d=d':=congrArg Prod.fst e1;have h2:d.flat=true:=congrArg Prod.snd e1;rw[← h1];exact h2
 ·rw[Zd (Ne.symm hj)]at e;exact h j d' e
theorem Qc0.QdM:∀(is:List Nat) (ds:List D) {U:En},Qc0 U->Qc0 (QdM is ds U)
 | [],_,_,h=>h
 | _::_,[],_,h=>h
 | i::is,d::ds,_,h=>Qc0.QdM is ds (h.set i d)
theorem Qc0.bind{t:Tg}{d:D}{U U':En}(h:Qc0 U)(e:Qbr t d U=some U'):Qc0 U':=by
 cases t with
 | nm i=>cases e;exact h.set i d
 | tp is=>
  cases d with
  | tup xs=>
   simp only[Qbr]at e;split at e
   ·cases e;exact h.QdM is xs
   ·cases e
  | lst xs=>
   simp only[Qbr]at e;split at e
   ·cases e;exact h.QdM is xs
   ·cases e
  | _=>simp only[Qbr]at e;cases e
theorem Qke(cap:List (Option Nat))(U:En):Qc0 (Qfn cap U):=λj d e=>by
 unfold Qfn at e;rw[Zr]at e;cases q:cap[j]? with
 | none=>rw[q]at e;cases e
 | some o=>
  rw[q]at e;cases o with
  | none=>cases e
  | some i=>
   simp only[ZV,Za,Option.some.injEq]at e;split at e
   ·have e1:=Option.some.inj e;have h1:=congrArg Prod.fst e1;have h2:=congrArg Prod.snd e1;dsimp only at h1 h2;rw[← h1];exact h2
   ·cases e
theorem QnL{cap:List (Option Nat)}{U:En}{j:Nat}{d:D}{b:Bool}(e:(Qfn cap U)[j]? =some (some (d,b))):∃i b',cap[j]? =some (some i)/\U[i]? =some (some (d,b')):=by
 unfold Qfn at e;rw[Zr]at e;cases q:cap[j]? with
 | none=>rw[q]at e;cases e
 | some o=>
  rw[q]at e;cases o with
  | none=>cases e
  | some i=>
   simp only[ZV,Za,Option.some.injEq]at e;split at e
   ·rename_i d' b' hi;have e1:=Option.some.inj e;have h1:d'=d:=congrArg Prod.fst e1;subst h1;exact⟨i,b',rfl,hi⟩
   ·cases e
def QoA(X:Cx)(ifs:List Expr)(f:DT):Prop:=∀H0 A0,PTs X ifs (tVT X.K H0 A0 f)
noncomputable def QN:DT:=λ_=>some true
theorem QuK{X:Cx}:QoA X [] QN:=λH0 A0 pins s σ H Q I=>exK λU hs F b rel e q=>by
 cases e;exact QyC pins s σ H Q I (q H (QQ.refl _))
theorem QuU{X:Cx}{c:Expr}{f:DT}(h:ST X c f):QoA X [c] f:=λH0 A0=>Qyd (h H0 A0)
structure Qoi (X:Cx) (N':List Str) (scope:Scope) (cap:List (Option Nat)) (tgs:List Nat):Prop where
 len:cap.length=N'.length
 get:∀(j i:Nat),cap[j]? =some (some i)->∃x,N'[j]? =some x/\scope.names.lookup x=some .free/\X.N[i]? =some x/\(X.env.kindOf x=some .cell∨X.env.kindOf x=some .free)
 apart:∀(j i:Nat),cap[j]? =some (some i)->j∉tgs
theorem join_some{α:Type}{o:Option (Option α)}{v:α}(h:o.join=some v):o=some (some v):=by
 cases o with
 | none=>cases h
 | some p=>cases p with
  | none=>cases h
  | some x=>exact h▸rfl
theorem QnQ{X:Cx}{N':List Str}{scope:Scope}{fi:DI}{t:Tg}{cap:List (Option Nat)}{ft:DT}{fe:DE}{H0:Hp}{A0:LAd}{σ:L2.St}{H:Hp}{Q:VK}(hc:Qoi X N' scope cap t.slots):
  tV X.K H0 A0 (QF fi t cap ft fe) σ H Q->Qoc (tI X.K H0 A0 fi) (Qk5 X N' scope) (tG X.K (λ_=>none) [] t) (tVT X.K (λ_=>none) [] ft) (tV X.K (λ_=>none) [] fe) σ H Q:=exK λU hs F r rel e q=>by
 refine Qf e λir e1 e=>?_;obtain⟨⟨xs,f⟩,ef,e⟩:=Zh.mp e;subst e;refine⟨U,hs,F,ir,rel,e1,λJ H1 ts s1 wk hts ow hz=>?_⟩;refine⟨cap.map λo=>o.bind λi=>σ[i]?.join,⟨by simp[hc.len],λj x v hN hv=>?_⟩,λDl hD=>?_⟩
 ·rw[Zr]at hv;cases qc:cap[j]? with
  | none=>rw[qc]at hv;cases hv
  | some o=>
   rw[qc]at hv;cases o with
   | none=>cases hv
   | some i=>
    simp only[ZV,Za,Option.some.injEq]at hv;obtain⟨y,h1,h2,h3,h4⟩:=hc.get j i qc;rw[hN]at h1;cases h1;exact⟨h2,i,h3,join_some hv,h4⟩
 generalize hσc:(cap.map λo=>o.bind λi=>σ[i]?.join)=σc;generalize hUc:Qfn cap U=Uc at ef
 have hF0:∃Fc:Nat->List Addr,Fc=λj=>match cap[j]? with
  | some (some i)=>(match U[i]? with
   | some (some _)=>F i
   | _=>[])
  | _=>[]:=⟨_,rfl⟩
 obtain⟨Fc,hFc⟩:=hF0;have rel1:=rel.ext s1;have relC:∀H2,QQ H1 H2->Rel X.K (λ_=>none) [] [] Uc Fc σc H2:=λH2 s2=>by
  refine⟨by rw[← hUc,← hσc];simp[Qfn],λj d b e=>?_,λj d e=>?_,λj d b e a ha=> .inl rfl,λt ht=>(by simp at ht),λb o z=>(by cases z)⟩
  ·rw[← hUc]at e;obtain⟨i,b',h1,h2⟩:=QnL e;obtain⟨v,h3,h4⟩:=(rel1.ext s2).val i d b' h2;refine⟨v,?_,?_⟩
   ·rw[← hσc,Zr,h1];simp only[ZV,Za,h3,Option.join_some]
   ·rw[hFc];simp only[h1,h2];exact h4
  ·have hf:d.flat=true:=Qke cap U j d (by rw[hUc];exact e);have:Fc j=[]:=by
    rw[← hUc]at e;obtain⟨i,b',h1,h2⟩:=QnL e;obtain⟨v,h3,h4⟩:=rel1.val i d b' h2;rw[hFc];simp only[h1,h2];exact h4.Qco hf
   rw[this];exact⟨(Qeo d hf).symm,ZaX,λa ha=>(by simp at ha),λ_ _ _ _ _ a ha=>(by simp at ha),λt ht=>(by simp at ht)⟩
 have shC:∀G,Shr (λ_=>none) [] Uc Fc G:=λG a ha=>⟨.inl rfl,λj d e hj=>by
  have h0:=(relC H1 (QQ.refl _)).own j d e;have hf:d.flat=true:=Qke cap U j d (by rw[hUc];exact e);have:(Fc j).length=0:=by rw[h0.1,Qeo d hf]
  rw[Zav this]at hj;simp at hj⟩
 have hSh:Qc0 Uc:=by rw[← hUc];exact Qke cap U
 have heldOf:∀H2,QQ H1 H2->QkI X.K H2 ts:=λH2 s2 t ht=>(hts t ht).1.same s2;have oldOf:∀a,((∃t∈ts,a∈t.2.2)∨∃j,a∈Fc j)->(∃vs,H1 a=some (.lst vs))/\(H a=none∨∃(i:Nat) (d:D) (b:Bool),U[i]? =some (some (d,b))/\a∈F i/\(b=true->i∈ir.M++Qr7 cap U)):=λa ha=>by
  rcases ha with⟨t,ht,ha⟩ | ⟨j,ha⟩
  ·refine⟨(hts t ht).1.mem a ha,?_⟩;rcases(hts t ht).2 a ha with z | ⟨i,d,b,e,m,w⟩
   ·exact .inl z
   ·exact .inr ⟨i,d,b,e,m,λhb=>Zg _ (w hb)⟩
  ·have ha0:=ha;rw[hFc]at ha;dsimp only at ha;split at ha
   ·rename_i i hi;split at ha
    ·rename_i db hdb;obtain⟨d,b⟩:=db;obtain⟨v,h3,h4⟩:=rel1.val i d b hdb;refine⟨h4.mem a ha,.inr ⟨i,d,b,hdb,ha,λhb=>Ze _ ?_⟩⟩;unfold Qr7;refine ZaZ.mpr ⟨some i,Zax hi,?_⟩;simp only[Za,hdb];have hnf:d.flat=false:=by
      cases hf:d.flat with
      | false=>rfl
      | true=>rw[h4.Qco hf]at ha;simp at ha
     rw[hb,hnf];rfl
    ·simp at ha
   ·simp at ha
 have fresh5:∀H2,QQ H1 H2->∀a,H2 a=none->H1 a=none:=λH2 s2 a h=>s2.free h
 refine⟨λi m acc H2=>m=ir.items.length-i/\i<=ir.items.length/\QQ H1 H2/\H2 Dl=some (.lst acc)/\∃(ys:List D) (g:Bool) (G:LAd),(ir.items.drop i).foldlM (Qgv t ft fe Uc) (ys,g)=some (xs,f)/\Rps X.K H2 ys acc G/\ys.length<=i∧
  (∀a∈G,a≠Dl/\(H1 a=none∨(∃t∈ts,a∈t.2.2)∨∃j,a∈Fc j))/\(g=true->G.length=nls ys/\∀a,G.count a<=nw H1 a),⟨ir.items.length,rfl,Zaa _,Qbj hD,Qac,[],true,[],by simpa using ef,by simp[Rps],Zi _,λa ha=>(by simp at ha),λ_=>⟨rfl,λa=>by simp⟩⟩,?_⟩
 rintro i m acc H2 ⟨rfl,hi,s2,eD,ys,g,G,hfold,rps,hlen,hG,hcnt⟩;by_cases hlt:i<ir.items.length
 ·refine .inr ⟨wk.go i H2 hlt (heldOf H2 s2),λx H3 hy=>?_⟩;obtain⟨s3,G0,rp0,hG0⟩:=wk.yld i ir.items[i] H2 x H3 (by simp[hlt]) (heldOf H2 s2) hy;rw[ZW hlt,Zcb]at hfold;refine Qf hfold λacc1 hstep hrest=>?_;unfold Qgv at hstep;refine Qf hstep λU1 eb hstep=>?_;refine Qf hstep λc ec hstep=>?_;have sh1:Qc0 U1:=hSh.bind eb;refine⟨Uc,[],Fc,ir.items[i],G0,U1,relC H3 (s2.trans s3),rp0,shC G0,eb,λσ2 F2 rel2 keep mem2=>⟨λj v hv=>?_,U1,[],F2,c,rel2,ec,λH5 s5=>?_⟩⟩
  ·have hj:j∉t.slots:=λhj=>by
    rw[← hσc,Zr]at hv;cases qc:cap[j]? with
    | none=>rw[qc]at hv;cases hv
    | some o=>
     cases o with
     | none=>rw[qc]at hv;cases hv
     | some k=>exact hc.apart j k qc hj
   rw[keep j hj];exact hv
  have s15:QQ H1 H5:=(s2.trans s3).trans s5;have eD5:H5 Dl=some (.lst acc):=s5 _ _ (s3 _ _ eD);cases c with
  | false=>
   rw[if_neg Zak]at hstep;refine QrH ?_;cases hstep;exact⟨_,⋯,rfl,hlt,s15,eD5,ys,g,G,hrest,rps.same (s3.trans s5),⋯,hG,hcnt⟩
  | true=>
   rw[if_pos rfl]at hstep;refine Qsp ?_;obtain⟨rr,er,hstep⟩:=Zh.mp hstep;subst hstep;refine⟨U1,[],F2,rr,rel2.ext s5,er,λy H6 Ge pe=>?_⟩;have eD6:H6 Dl=some (.lst acc):=pe.same _ _ eD5;have s16:=s15.trans pe.same;refine⟨eD6,?_,_,⋯,rfl,hlt,?_⟩
   ·rw[← rps.length];exact ZT hlen (Zp hlt hz)
   have hGe:∀a∈Ge,a≠Dl/\(H1 a=none∨(∃t∈ts,a∈t.2.2)∨∃j,a∈Fc j):=λa ha=>by
    rcases pe.src a ha with z | ⟨j,d,b,ej,hj,_⟩
    ·exact⟨λw=>(by rw[w,eD5]at z;cases z),.inl (s15.free z)⟩
    ·have h1:(∃t∈ts,a∈t.2.2)∨∃j,a∈Fc j:=by
      rcases mem2 j a hj with w | w
      ·exact .inr ⟨j,w⟩
      ·exact .inl (hG0 a w)
     obtain⟨⟨vs,w⟩,_⟩:=oldOf a h1;exact⟨λw'=>(by rw[w',hD]at w;cases w),.inr h1⟩
   have nD:Dl∉G:=λh=>(hG _ h).1 rfl;have nDe:Dl∉Ge:=λh=>(hGe _ h).1 rfl;have sU:QQ H1 (L2.upd H6 Dl (.lst (acc++[y]))):=λb o hb=>by rw[QP (QbU hb hD)];exact s16 b o hb
   refine⟨sU,Qac,ys++[rr.d],g && rr.norm.fr,G++Ge,hrest,?_,by rw[Zy,ZbD];omega,λa ha=>?_,λhg=>?_⟩
   ·refine Rps.append ((rps.same ((s3.trans s5).trans pe.same)).upd eD6 nD) ?_;simp only[Rps];exact⟨y,[],Ge,[],rfl,by simp,pe.rp.upd eD6 nDe,rfl,rfl⟩
   ·rcases ZG.mp ha with h | h
    ·exact hG a h
    ·exact hGe a h
   ·simp only[Zm]at hg;obtain⟨l1,c1⟩:=hcnt hg.1;have pn:=pe.norm;obtain⟨c2,l2⟩:=pn.cnt hg.2;rw[rr.QcV]at l2;have nlapp:∀(as bs:List D),nls (as++bs)=nls as+nls bs:=λas bs=>by
     induction as with
     | nil=>simp[nls]
     | cons a as ih=>simp only[Zca,nls,ih];omega
    refine⟨by rw[Zy,l1,l2,nlapp];simp[nls],λa=>?_⟩;have fl:((rr.norm.M.map F2).flatten).count a=0:=by
     rw[ZS];intro hm;obtain⟨l,hl,hal⟩:=ZbF.mp hm;obtain⟨j,hj,rfl⟩:=ZL.mp hl;obtain⟨d,ej⟩:=pn.own j hj;have hf:=sh1 j d ej;obtain⟨v,_,rv⟩:=rel2.val j d true ej;rw[rv.Qco hf]at hal;simp at hal
    have h1:=c1 a;have h2:=c2 a;rw[fl]at h2;rw[Zau];cases q5:H5 a with
    | some o=>rw[QcY q5]at h2;omega
    | none=>
     rw[Qbw q5]at h2;have h0:G.count a=0:=ZS.mpr λhm=>by
      obtain⟨vs,w⟩:=rps.mem a hm;rw[s5 _ _ (s3 _ _ w)]at q5;cases q5
     rw[Qbw (s15.free q5)];omega
 ·have hn:i=ir.items.length:= ⋯
  subst hn;refine .inl ⟨wk.stop H2 (heldOf H2 s2),?_⟩;rw[Zcc]at hfold;have:(ys,g)=(xs,f):=Option.some.inj hfold;cases this;have rp:Rp X.K H2 (.lst xs) (.ref Dl) (Dl::G):=Rp.Qeb eD rps (Zt hlen hz);have hHD:H Dl=none:=s1.free hD;split at q
  ·rename_i hg;have hg:f=true:=hg;obtain⟨l1,c1⟩:=hcnt hg;have hn:∀a∈G,H1 a=none:=λa ha=>by
    have:=c1 a;have h2:0<G.count a:=Zal.mpr ha;cases w:H1 a with
    | none=>rfl
    | some o=>rw[QcY w]at this;omega
   refine q _ H2 (Dl::G) ⟨s1.trans s2,rp,λa ha=>?_,λ_=>⟨λa=>?_,by simp only[D.nl,ZR,l1]⟩,Qbz.nil⟩
   ·rcases Zj.mp ha with rfl | h
    ·exact .inl hHD
    ·exact .inl (s1.free (hn a h))
   ·rw[ZaR];have h1:=c1 a;split
    ·rename_i w;have w:Dl=a:=by simpa using w
     subst w;have h0:G.count Dl=0:=ZS.mpr λh=>(hG _ h).1 rfl;rw[Qbw hHD];omega
    ·cases w:H1 a with
     | none=>rw[Qbw w]at h1;rw[Qbw (s1.free w)];omega
     | some o=>rw[QcY w]at h1;omega
  ·refine q _ H2 (Dl::G) ⟨s1.trans s2,rp,λa ha=>?_,λz=>(by cases z),?_⟩
   ·rcases Zj.mp ha with rfl | h
    ·exact .inl hHD
    ·rcases(hG a h).2 with z | z
     ·exact .inl (s1.free z)
     ·exact(oldOf a z).2
   ·refine ow.append λi hi=>?_;unfold Qr7 at hi;obtain⟨o,_,ho⟩:=ZaZ.mp hi;cases o with
    | none=>cases ho
    | some k=>
     simp only[Za]at ho;split at ho
     ·rename_i d b hk;split at ho
      ·rename_i hb;cases ho;simp only[Zm]at hb;rw[hb.1]at hk;exact⟨d,hk⟩
      ·cases ho
     ·cases ho
section
variable {X:Cx}{tg iter elt:Expr}{ifs:List Expr}{scope:Scope}{N':List Str}{pos:Pos}{fi:DI}{t:Tg}{cap:List (Option Nat)}{ft:DT}{fe:DE}
theorem QxZ(hcalm:X.calm=true)(S:Qe0 X N' scope)(hi:SI X tg iter fi)(hcap:Qoi X N' scope cap t.slots)
  (hin:∀cl C fp s3 H3,SG (cxc X N' scope cl C fp s3 H3) tg t/\QoA (cxc X N' scope cl C fp s3 H3) ifs ft/\SE (cxc X N' scope cl C fp s3 H3) elt fe) (hs:∀x,foldedSetIterable iter X.env x=pure x):
  SE X (.ListComp elt [⟨tg,iter,ifs,0⟩] scope pos) (QF fi t cap ft fe):=λH0 A0=>
 (QqS hcalm S (hi H0 A0) (λcl C fp s3 H3=>⟨(hin cl C fp s3 H3).1 _ _,(hin cl C fp s3 H3).2.1 _ _,(hin cl C fp s3 H3).2.2 _ _⟩) hs).mono λσ H Q h=>QnQ hcap h
end
inductive Out where
 | nx (U:En)
 | bk (U:En)
 | ct (U:En)
 | rt (d:D) (fr:Bool)
noncomputable abbrev DS:=En->Option Out
noncomputable def Fits(K:Fgg)(H0:Hp)(A0:LAd)(hs:List (V×D×List Addr))(E:Ends):Out->Prop
 | .nx U=>∀σ H F,Rel K H0 A0 hs U F σ H->E.nx σ H
 | .bk U=>∀σ H F,Rel K H0 A0 hs U F σ H->E.bk σ H
 | .ct U=>∀σ H F,Rel K H0 A0 hs U F σ H->E.ct σ H
 | .rt d fr=>∀v H G,Ret K H0 A0 d fr v H G->E.rt v H
noncomputable def tS(K:Fgg)(H0:Hp)(A0:LAd)(f:DS):TS:=λE σ H=>∃U hs F o,Rel K H0 A0 hs U F σ H/\f U=some o/\Fits K H0 A0 hs E o
def S1(X:Cx)(st:Stmt)(f:DS):Prop:=∀H0 A0,PS X st (tS X.K H0 A0 f)
def SS(X:Cx)(sts:List Stmt)(f:DS):Prop:=∀H0 A0,PSs X sts (tS X.K H0 A0 f)
theorem _root_.L2.PS.mono(h:PS X st t)(m:∀D σ H,t' D σ H->t D σ H):PS X st t':=λpins s σ H D I q=>h pins s σ H D I (m D σ H q)
theorem _root_.L2.PSs.mono(h:PSs X st t)(m:∀D σ H,t' D σ H->t D σ H):PSs X st t':=λpins s σ H D I q=>h pins s σ H D I (m D σ H q)
noncomputable def Qm:DS:=λU=>some (.nx U)
noncomputable def Qd(f g:DS):DS:=λU=>(f U).bind λo=>match o with
 | .nx U'=>g U'
 | .bk U'=>some (.bk U')
 | .ct U'=>some (.ct U')
 | .rt d fr=>some (.rt d fr)
noncomputable def Qr1:DS:=λU=>some (.bk U)
noncomputable def Qsb:DS:=λU=>some (.ct U)
noncomputable def Qo(i:Nat)(fa:DE):DS:=λU=>(fa U).bind λr=>some (.nx (asg i r U))
noncomputable def QaB(fa:DE):DE:=λU=>(fa U).map λr=>⟨r.d,false,r.M⟩
noncomputable def QM(fa:DE):DS:=λU=>(fa U).bind λr=>some (.rt r.d (r.norm.fr && decide r.norm.M.Nodup))
noncomputable def Qbs(fa:DE):DS:=λU=>(fa U).bind λ_=>some (.nx U)
noncomputable def sIf(g:DT)(f1 f2:DS):DS:=λU=>(g U).bind λb=>if b=true then f1 U else f2 U
noncomputable def Qc8(t:Tg)(fb:DS):List D->DS
 | [],U=>some (.nx U)
 | d::ds,U=>(Qbr t d U).bind λU1=>(fb U1).bind λo=>match o with
  | .nx U2=>Qc8 t fb ds U2
  | .ct U2=>Qc8 t fb ds U2
  | .bk U2=>some (.nx U2)
  | .rt d fr=>some (.rt d fr)
noncomputable def QaV(fi:DI)(t:Tg)(fb:DS):DS:=λU=>(fi U).bind λir=>Qc8 t fb ir.items (QaX ir.M U)
noncomputable def Qbc(g:DT)(fb:DS):Nat->DS
 | 0,_=>none
 | n+1,U=>(g U).bind λb=>if b=true then(fb U).bind λo=>match o with
  | .nx U2=>Qbc g fb n U2
  | .ct U2=>Qbc g fb n U2
  | .bk U2=>some (.nx U2)
  | .rt d fr=>some (.rt d fr)
  else some (.nx U)
section
theorem QsU:SS X [] Qm:=λH0 A0=>Qw0.mono λE σ H=>exK λU hs F o rel e q=>by
 cases e;exact q σ H F rel
theorem Qqx(h1:S1 X st f)(h2:SS X sts g):SS X (st::sts) (Qd f g):=λH0 A0=>(QbY (h1 H0 A0) (h2 H0 A0)).mono λE σ H=>exK λU hs F o rel e q=>by
 refine Qf e λo1 e1 e=>?_;refine⟨U,hs,F,o1,rel,e1,?_⟩;cases o1 with
 | nx U'=>exact λσ' H' F' rel'=>⟨U',hs,F',o,rel',e,q⟩
 | bk U'=>cases e;exact q
 | ct U'=>cases e;exact q
 | rt d fr=>cases e;exact q
theorem Qxt:S1 X (.Pass pos) Qm:=λH0 A0=>QyJ.mono λE σ H=>exK λU hs F o rel e q=>by
 cases e;exact q σ H F rel
theorem QuM:S1 X (.Break pos) Qr1:=λH0 A0=>Qv5.mono λE σ H=>exK λU hs F o rel e q=>by
 cases e;exact q σ H F rel
theorem Qyb:S1 X (.Continue pos) Qsb:=λH0 A0=>Qqc.mono λE σ H=>exK λU hs F o rel e q=>by
 cases e;exact q σ H F rel
theorem Qv0(h:SE X e fa):SE X e (QaB fa):=λH0 A0=>(h H0 A0).mono λσ H Q=>exK λU hs F r rel e q=>by
 obtain⟨r',e1,rfl⟩:=Zh.mp e;exact⟨U,hs,F,r',rel,e1,λv H' G p=>q v H' G ⟨p.same,p.rp,p.src,λz=>(by cases z),p.own⟩⟩
theorem Qla(h:∀H0 A0,PS X st (Qej (tV X.K H0 A0 fa) (Qgl i))):S1 X st (Qo i fa):=λH0 A0=>(h H0 A0).mono λE σ H=>exK λU hs F o rel e q=>by
 refine Qf e λr e1 e=>?_;cases e;refine⟨U,hs,F,r,rel,e1,λv H' G p=>?_⟩;obtain⟨F',rel'⟩:=rel.asg (i:=i) p;exact q _ _ F' rel'
theorem Qyc(h:PS X st (Qrz (tV X.K H0 A0 fa))):PS X st (tS X.K H0 A0 (Qbs fa)):=h.mono λE σ H=>exK λU hs F o rel e q=>by
 refine Qf e λr e1 e=>?_;cases e;exact⟨U,hs,F,r,rel,e1,λv H' G p=>q σ H' F (rel.ext p.same)⟩
theorem Rel.ret(rel:Rel K H0 A0 hs U F σ H)(p:Qaa K U F H H' r v G):Ret K H0 A0 r.d (r.norm.fr && decide r.norm.M.Nodup) v H' G where
 same:=rel.same.trans p.same
 rp:=p.rp
 src:=λa ha=>by
  rcases p.src a ha with z | ⟨i,d,b,e,m,_⟩
  ·exact .inl (rel.same.free z)
  ·exact rel.src i d b e a m
 cnt:=λh=>by
  simp only[Zm,decide_eq_true_eq]at h;have p':=p.norm;obtain⟨h1,h2⟩:=p'.fresh rel h.1 h.2;have h3:=(p'.cnt h.1).2;rw[r.QcV]at h3;exact⟨h1,h3,λa ha=>(h2 a ha).1⟩
theorem QAl(he:SE X e fa):S1 X (.Return (some e) pos) (QM fa):=λH0 A0=>(QAa (he H0 A0)).mono λE σ H=>exK λU hs F o rel e q=>by
 refine Qf e λr e1 e=>?_;cases e;exact⟨U,hs,F,r,rel,e1,λv H' G p=>q v H' G (rel.ret p)⟩
theorem QA4(hc:ST X c gc)(ha:SS X a f)(hb:SS X b g):S1 X (.If c a b pos) (sIf gc f g):=λH0 A0=>(QwC (hc H0 A0) (ha H0 A0) (hb H0 A0)).mono λE σ H=>exK λU hs F o rel e q=>by
 refine Qf e λc e1 e=>?_;refine⟨U,hs,F,c,rel,e1,λH1 s1=>?_⟩;cases c with
 | true=>exact Qsp ⟨U,hs,F,o,rel.ext s1,e,q⟩
 | false=>exact QrH ⟨U,hs,F,o,rel.ext s1,e,q⟩
theorem Qzk(hp:PassesOwn (model X.prog X.w) X.A X.env X.xe)(hc:X.calm=true)(hi:SI X tg iter fi)(hg:SG X tg t)(hb:SS X body f)(hs:∀x,foldedSetIterable iter X.env x=pure x):
  S1 X (.For tg iter body [] pos) (QaV fi t f):=λH0 A0=>(QsM hp hc (hi H0 A0) (hg H0 A0) (hb H0 A0) hs).mono λE σ H=>exK λU hs F o rel e q=>by
 refine Qf e λir e1 e=>?_;refine⟨U,hs,F,ir,rel,e1,λJ H1 ts s1 wk hts ow hz=>?_⟩;have rel1:Rel X.K H0 A0 (ts++hs) (QaX ir.M U) F σ H1:=((rel.ext s1).weak (Qbd ir.M U)).hold λt ht=>⟨(hts t ht).1,Shr.of rel (hts t ht).2⟩;refine⟨λi m σ' H'=>m=ir.items.length-i/\i<=ir.items.length/\∃Ui Fi,Rel X.K H0 A0 (ts++hs) Ui Fi σ' H'/\Qc8 t f (ir.items.drop i) Ui=some o,⟨_,rfl,Zaa _,_,F,rel1,by simpa using e⟩,?_⟩;rintro i m σ' H' ⟨rfl,hi',Ui,Fi,reli,ei⟩;have held:QkI X.K H' ts:=λt ht=>(reli.held t (Zg _ ht)).1;by_cases hlt:i<ir.items.length
 ·rw[ZW hlt]at ei;unfold Qc8 at ei;refine Qf ei λU1 eb ei=>?_;refine Qf ei λo1 eo ei=>?_;refine .inr ⟨wk.go i H' hlt held,λσ2 H2=>∃U2 F2,Rel X.K H0 A0 (ts++hs) U2 F2 σ2 H2/\Qc8 t f (ir.items.drop (i+1)) U2=some o,λσ2 H2 ⟨U2,F2,rel2,e2⟩=>⟨_,⋯,rfl,hlt,U2,F2,rel2,e2⟩,λx H2 hy=>?_⟩;obtain⟨s2,G0,rp0,hG0⟩:=wk.yld i ir.items[i] H' x H2 (by simp[hlt]) held hy;have shr:Shr H0 A0 Ui Fi G0:=λa ha=>by
   obtain⟨t,ht,hat⟩:=hG0 a ha;exact⟨(reli.held t (Zg _ ht)).2 a hat,λj d ej hj=>(reli.own j d ej).2.2.2.2 t (Zg _ ht) a hj hat⟩
  refine⟨Ui,ts++hs,Fi,ir.items[i],G0,U1,reli.ext s2,rp0,shr,eb,λσ3 F3 rel3 _ _=>⟨U1,ts++hs,F3,o1,rel3,eo,?_⟩⟩;cases o1 with
  | nx U2=>exact λσ4 H4 F4 rel4=>⟨U2,F4,rel4,ei⟩
  | ct U2=>exact λσ4 H4 F4 rel4=>⟨U2,F4,rel4,ei⟩
  | bk U2=>cases ei;exact λσ4 H4 F4 rel4=>q σ4 H4 F4 rel4.QpU
  | rt d fr=>cases ei;exact q
 ·have hn:i=ir.items.length:= ⋯
  subst hn;rw[Zcc]at ei;cases ei;exact .inl ⟨wk.stop H' held,q σ' H' Fi reli.QpU⟩
theorem QvU(hp:PassesOwn (model X.prog X.w) X.A X.env X.xe)(hc:ST X c gc)(hb:SS X body f):S1 X (.While c body [] pos) (Qbc gc f n):=λH0 A0=>(Qvj hp (hc H0 A0) (hb H0 A0)).mono λE σ H=>exK λU hs F o rel e q=>by
 refine⟨λm σ' H'=>∃Ui Fi,Rel X.K H0 A0 hs Ui Fi σ' H'/\Qbc gc f m Ui=some o,⟨n,U,F,rel,e⟩,?_⟩;rintro m σ' H' ⟨Ui,Fi,reli,ei⟩;cases m with
 | zero=>cases ei
 | succ m=>
  unfold Qbc at ei;refine Qf ei λb eb ei=>?_;refine⟨Ui,hs,Fi,b,reli,eb,λH1 s1=>?_⟩;cases b with
  | false=>
   rw[if_neg Zak]at ei;cases ei;exact QrH (q σ' H1 Fi (reli.ext s1))
  | true=>
   rw[if_pos rfl]at ei;refine Qf ei λo1 eo ei=>?_;refine Qsp ⟨λσ2 H2=>∃U2 F2,Rel X.K H0 A0 hs U2 F2 σ2 H2/\Qbc gc f m U2=some o,λσ2 H2 h=>⟨m,Zbh _,h⟩,Ui,hs,Fi,o1,reli.ext s1,eo,?_⟩;cases o1 with
   | nx U2=>exact λσ4 H4 F4 rel4=>⟨U2,F4,rel4,ei⟩
   | ct U2=>exact λσ4 H4 F4 rel4=>⟨U2,F4,rel4,ei⟩
   | bk U2=>cases ei;exact λσ4 H4 F4 rel4=>q σ4 H4 F4 rel4
   | rt d fr=>cases ei;exact q
theorem Rel.QCo(rel:Rel K H0 A0 hs U F σ H)(rp:Rp K H d v [])(hf:d.flat=true):
  ∃F',Rel K H0 A0 hs (U.set i (some (d,true))) F' (σ.set i (some v)) H:=by
 have:=rel.QmB (i:=i) rp (λa ha=>by simp at ha);rw[hf]at this;exact⟨_,this⟩
end
section
variable {K:Fgg}{H H':Hp}
theorem Rps.split:∀{ds:List D}{vs:List V}{F:LAd}{j:Nat}{d:D},Rps K H ds vs F->ds[j]? =some d→
  ∃F1 G F2 v,F=F1++(G++F2)/\vs[j]? =some v/\Rps K H (ds.take j) (vs.take j) F1/\Rp K H d v G/\Rps K H (ds.drop (j+1)) (vs.drop (j+1)) F2
 | [],_,_,_,_,_,e=>by simp at e
 | d::ds,_,_,0,_,h,e=>by
  simp only[Rps]at h;obtain⟨v,ws,F1,F2,rfl,rfl,r,q⟩:=h;simp at e;subst e;exact⟨[],F1,F2,v,rfl,by simp,by simp[Rps],r,by simpa using q⟩
 | d::ds,_,_,j+1,_,h,e=>by
  simp only[Rps]at h;obtain⟨v,ws,F1,F2,rfl,rfl,r,q⟩:=h;obtain⟨G1,G,G2,v',h1,h2,h3,h4,h5⟩:=Rps.split q (by simpa using e);refine⟨F1++G1,G,G2,v',by rw[h1,Zbc],by simpa using h2,?_,h4,by simpa using h5⟩;simp only[List.take_succ_cons,Rps];exact⟨v,_,F1,G1,rfl,rfl,r,h3⟩
theorem Rps.join{ds:List D}{vs:List V}{F1 G F2:LAd}{j:Nat}{d:D}{v:V}(h1:Rps K H (ds.take j) (vs.take j) F1)(hd:Rp K H d v G)(h2:Rps K H (ds.drop (j+1)) (vs.drop (j+1)) F2)(hj:j<ds.length)(hv:vs[j]? =some v):
  Rps K H (ds.set j d) vs (F1++(G++F2)):=by
 have e1:ds.set j d=ds.take j++d::ds.drop (j+1):=ZaO .. |>.trans (by rw[if_pos hj]);have hjv:j<vs.length:=(Zk.mp hv).1;have hve:vs[j]=v:=(Zk.mp hv).2;have e2:vs=vs.take j++v::vs.drop (j+1):=by
  rw[← hve,← ZW hjv,Zba]
 rw[e1,e2];refine h1.append ?_;simp only[Rps];refine⟨v,_,G,F2,rfl,rfl,hd,h2⟩
theorem Rps.QwA{ds:List D}{vs:List V}{F1 G F2:LAd}{j:Nat}{d:D}{v:V}(h1:Rps K H (ds.take j) (vs.take j) F1)(hd:Rp K H d v G)(h2:Rps K H (ds.drop (j+1)) (vs.drop (j+1)) F2)(hj:j<ds.length)(hv:j<vs.length):
  Rps K H (ds.set j d) (vs.set j v) (F1++(G++F2)):=by
 have e1:ds.set j d=ds.take j++d::ds.drop (j+1):=ZaO .. |>.trans (by rw[if_pos hj]);have e2:vs.set j v=vs.take j++v::vs.drop (j+1):=ZaO .. |>.trans (by rw[if_pos hv]);rw[e1,e2];refine h1.append ?_;simp only[Rps];exact⟨v,_,G,F2,rfl,rfl,hd,h2⟩
noncomputable def Focus(K:Fgg)(H:Hp):List Int->D->V->List Addr->D->V->List Addr->Prop
 | [],d,v,F,dm,w,Gm=>dm=d/\w=v/\Gm=F/\Rp K H d v F
 | i::is,d,v,F,dm,w,Gm=>∃(ds:List D) (a:Addr) (vs:List V) (j:Nat) (F1 G F2:LAd) (d':D) (v':V),v= .ref a/\ixN ds.length i=some j∧
   ((d= .lst ds/\ds.length<=sizeLine/\((F=a::(F1++(G++F2))/\H a=some (.lst vs))∨(F=F1++(G++F2)/\Fix K H a vs)))∨(d= .tup ds/\F=F1++(G++F2)/\SqT K H a vs))∧
   Rps K H (ds.take j) (vs.take j) F1/\Rps K H (ds.drop (j+1)) (vs.drop (j+1)) F2/\ds[j]? =some d'/\vs[j]? =some v'/\ds.length=vs.length/\Focus K H is d' v' G dm w Gm
theorem Focus.same(s:QQ H H'):∀{is:List Int}{d:D}{v:V}{F:LAd}{dm:D}{w:V}{Gm:LAd},Focus K H is d v F dm w Gm->Focus K H' is d v F dm w Gm
 | [],_,_,_,_,_,_,h=>⟨h.1,h.2.1,h.2.2.1,h.2.2.2.same s⟩
 | i::is,_,_,_,_,_,_,h=>by
  obtain⟨ds,a,vs,j,F1,G,F2,d',v',h1,h2,h3,h4,h5,h6,h7,h8,h9⟩:=h;refine⟨ds,a,vs,j,F1,G,F2,d',v',h1,h2,?_,h4.same s,h5.same s,h6,h7,h8,h9.same s⟩;rcases h3 with⟨e,z,q⟩ | ⟨e,eF,q⟩
  ·refine .inl ⟨e,z,?_⟩;rcases q with⟨eF,q⟩ | ⟨eF,q⟩
   ·exact .inl ⟨eF,s _ _ q⟩
   ·exact .inr ⟨eF,QpP s q⟩
  ·exact .inr ⟨e,eF,QoT s q⟩
theorem Focus.rp:∀{is:List Int}{d:D}{v:V}{F:LAd}{dm:D}{w:V}{Gm:LAd},Focus K H is d v F dm w Gm->Rp K H dm w Gm
 | [],_,_,_,_,_,_,h=>by
  obtain⟨rfl,rfl,rfl,r⟩:=h;exact r
 | i::is,_,_,_,_,_,_,h=>by
  obtain⟨ds,a,vs,j,F1,G,F2,d',v',h1,h2,h3,h4,h5,h6,h7,h8,h9⟩:=h;exact h9.rp
theorem Focus.Qt9:∀{is:List Int}{d:D}{v:V}{F:LAd}{dm:D}{w:V}{Gm:LAd},Focus K H is d v F dm w Gm->Rp K H d v F
 | [],_,_,_,_,_,_,h=>h.2.2.2
 | i::is,_,_,_,_,_,_,h=>by
  obtain⟨ds,a,vs,j,F1,G,F2,d',v',rfl,h2,h3,h4,h5,h6,h7,h8,h9⟩:=h;have hjl:j<ds.length:=(Zk.mp h6).1;have hdj:ds[j]=d':=(Zk.mp h6).2;have j1:=Rps.join h4 h9.Qt9 h5 hjl h7;rw[show ds.set j d'=ds by rw[← hdj];exact List.set_getElem_self hjl]at j1;rcases h3 with⟨rfl,hz,⟨rfl,q⟩ | ⟨rfl,q⟩⟩ | ⟨rfl,rfl,q⟩
  ·exact Rp.Qeb q j1 hz
  ·simp only[Rp];exact⟨hz,a,vs,rfl,.inr ⟨q,j1⟩⟩
  ·simp only[Rp];exact⟨a,vs,rfl,q,j1⟩
theorem Focus.one(r:Rp K H d v F)(hd:d.items=some ds)(hi:atI ds i=some d'):
  ∃a vs v' G,v= .ref a/\((d= .lst ds/\SqL K H a vs)∨(d= .tup ds/\SqT K H a vs))/\atI vs i=some v'/\Focus K H [i] d v F d' v' G:=by
 unfold atI at hi;cases hj:ixN ds.length i with
 | none=>rw[hj]at hi;cases hi
 | some j=>
  rw[hj]at hi;have hdj:ds[j]? =some d':=hi;have fin:∀(vs:List V) (L:LAd),Rps K H ds vs L->∃v' G F1 F2,L=F1++(G++F2)/\vs[j]? =some v'/\atI vs i=some v'/\Rps K H (ds.take j) (vs.take j) F1/\Rp K H d' v' G/\Rps K H (ds.drop (j+1)) (vs.drop (j+1)) F2/\ds.length=vs.length:=λvs L rl=>by
   obtain⟨F1,G,F2,v',h1,h2,h3,h4,h5⟩:=rl.split hdj;refine⟨v',G,F1,F2,h1,h2,?_,h3,h4,h5,rl.length⟩;unfold atI;rw[← rl.length,hj];exact h2
  cases d with
  | lst xs=>
   cases hd;simp only[Rp]at r;obtain⟨hz,a,vs,rfl,⟨L,rfl,q,rl⟩ | ⟨q,rl⟩⟩:=r
   ·obtain⟨v',G,F1,F2,h1,h2,h3,h4,h5,h6,h7⟩:=fin vs L rl;exact⟨a,vs,v',G,rfl,.inl ⟨rfl,SqL.of q⟩,h3,ds,a,vs,j,F1,G,F2,d',v',rfl,hj,.inl ⟨rfl,hz,.inl ⟨by rw[h1],q⟩⟩,h4,h6,hdj,h2,h7,rfl,rfl,rfl,h5⟩
   ·obtain⟨v',G,F1,F2,h1,h2,h3,h4,h5,h6,h7⟩:=fin vs _ rl;exact⟨a,vs,v',G,rfl,.inl ⟨rfl,q.sq⟩,h3,ds,a,vs,j,F1,G,F2,d',v',rfl,hj,.inl ⟨rfl,hz,.inr ⟨h1,q⟩⟩,h4,h6,hdj,h2,h7,rfl,rfl,rfl,h5⟩
  | tup xs=>
   cases hd;obtain⟨a,vs,rfl,q,rl⟩:=r.Qa8;obtain⟨v',G,F1,F2,h1,h2,h3,h4,h5,h6,h7⟩:=fin vs _ rl;exact⟨a,vs,v',G,rfl,.inr ⟨rfl,q⟩,h3,ds,a,vs,j,F1,G,F2,d',v',rfl,hj,.inr ⟨rfl,h1,q⟩,h4,h6,hdj,h2,h7,rfl,rfl,rfl,h5⟩
  | _=>cases hd
theorem Focus.snoc:∀{is:List Int}{d:D}{v:V}{F:LAd}{dm:D}{w:V}{Gm:LAd}{i:Int}{d':D}{v':V}{G:LAd},Focus K H is d v F dm w Gm->Focus K H [i] dm w Gm d' v' G->Focus K H (is++[i]) d v F d' v' G
 | [],_,_,_,_,_,_,_,_,_,_,h,g=>by
  obtain⟨rfl,rfl,rfl,r⟩:=h;exact g
 | k::is,_,_,_,_,_,_,_,_,_,_,h,g=>by
  obtain⟨ds,a,vs,j,F1,G,F2,d',v',h1,h2,h3,h4,h5,h6,h7,h8,h9⟩:=h;exact⟨ds,a,vs,j,F1,G,F2,d',v',h1,h2,h3,h4,h5,h6,h7,h8,h9.snoc g⟩
noncomputable def Qbh:D->List Int->Option D
 | d,[]=>some d
 | d,i::is=>(d.items).bind λds=>(atI ds i).bind λd'=>Qbh d' is
theorem QlR:∀{is:List Int}{d:D}{i:Int}{d':D},Qbh d (is++[i])=some d'->∃dm ds,Qbh d is=some dm/\dm.items=some ds/\atI ds i=some d'
 | [],d,i,d',h=>by
  refine Qf h λds h1 h=>?_;refine Qf h λd'' h2 h=>?_;cases h;exact⟨d,ds,rfl,h1,h2⟩
 | k::is,d,i,d',h=>by
  refine Qf h λds h1 h=>?_;refine Qf h λd'' h2 h=>?_;obtain⟨dm,es,h3,h4,h5⟩:=QlR h;refine⟨dm,es,?_,h4,h5⟩;simp only[Qbh,h1,h2,Za,h3]
noncomputable def Qbk:List Int->D->D->D
 | [],_,new=>new
 | i::is,.lst ds,new=>match ixN ds.length i with
  | some j=> .lst (ds.set j (Qbk is (ds.getD j .non) new))
  | none=> .lst ds
 | i::is,.tup ds,new=>match ixN ds.length i with
  | some j=> .tup (ds.set j (Qbk is (ds.getD j .non) new))
  | none=> .tup ds
 | _::_,d,_=>d
theorem QjH:∀{ds:List D}{j:Nat}{d e:D},ds[j]? =some d->nls (ds.set j e)+d.nl=nls ds+e.nl
 | [],_,_,_,h=>by simp at h
 | x::ds,0,d,e,h=>by simp at h;subst h;simp only[List.set_cons_zero,nls];omega
 | x::ds,j+1,d,e,h=>by
  have:=QjH (e:=e) (by simpa using h);simp only[List.set_cons_succ,nls];omega
theorem QdV:∀(as bs:List D),nls (as++bs)=nls as+nls bs
 | [],bs=>by simp[nls]
 | a::as,bs=>by simp only[Zca,nls,QdV as bs];omega
theorem Focus.mut:∀{is:List Int}{d:D}{v:V}{F:LAd}{Gm:LAd},Focus K H is d v F (.lst dsm) (.ref p) Gm->F.Nodup->F.length=d.nl→
  ∃vsm Gp,H p=some (.lst vsm)/\Gm=p::Gp/\Rps K H dsm vsm Gp/\Gp.length=nls dsm/\p∈F/\(∀a∈Gp,a∈F)/\p∉Gp∧
   (Rps K (upd H p (.lst vs')) ds' vs' G'->ds'.length<=sizeLine->G'.length=nls ds'→
    ∃F',Rp K (upd H p (.lst vs')) (Qbk is d (.lst ds')) v F'/\F'.length=(Qbk is d (.lst ds')).nl/\∀a,F'.count a+Gp.count a=F.count a+G'.count a)
 | [],d,v,F,Gm,h,nd,hl=>by
  obtain⟨rfl,rfl,rfl,r⟩:=h;simp only[Rp]at r;obtain⟨hz,a,vs,e,h⟩:=r;cases e;rcases h with⟨L,rfl,q,rl⟩ | ⟨q,rl⟩
  ·obtain⟨n1,n2⟩:=ZaB.mp nd;have hl':L.length=nls dsm:=by simp only[D.nl,ZR]at hl;omega
   refine⟨vs,L,q,rfl,rl,hl',Zl,λa ha=>Zc _ ha,n1,λr' hz' hl2=>⟨p::G',Rp.Qeb Qac r' hz',?_,λa=>?_⟩⟩
   ·simp only[Qbk,D.nl,ZR,hl2]
   ·rw[ZaR,ZaR];omega
  ·have:=rl.QaJ;simp only[D.nl]at hl;omega
 | i::is,d,v,F,Gm,h,nd,hl=>by
  obtain⟨ds,a,vs,j,F1,G,F2,d',v',rfl,hj,h3,h4,h5,h6,h7,h8,h9⟩:=h;have hjl:j<ds.length:=(Zk.mp h6).1;have gd:ds.getD j .non=d':=by rw[ZaA,h6];rfl
  have l1:=h4.QaJ;have l2:=h5.QaJ;have l3:=h9.Qt9.QaJ;have nlsplit:nls (ds.take j)+(d'.nl+nls (ds.drop (j+1)))=nls ds:=by
   have e1:ds=ds.take j++d'::ds.drop (j+1):=by
    have:ds[j]=d':=(Zk.mp h6).2;rw[← this,← ZW hjl,Zba]
   have e2:=congrArg nls e1;rw[QdV]at e2;simp only[nls]at e2;exact e2.symm
  have core:(F1++(G++F2)).Nodup->(F1++(G++F2)).length=nls ds->_:=λnd' hl'=>by
   simp only[Zy]at hl';have hG:G.length=d'.nl:= ⋯
   have ndG:G.Nodup:=(Zbx.mp (Zbx.mp nd').2.1).1;exact(h9.mut (vs':=vs') (ds':=ds') (G':=G') ndG hG)
  have apart:(F1++(G++F2)).Nodup->p∈G->p∉F1/\p∉F2:=λnd' hp=>by
   have n1:=Zbx.mp nd';have n2:=Zbx.mp n1.2.1;exact⟨λh=>n1.2.2 p h p (Zg _ hp) rfl,λh=>n2.2.2 p hp p h rfl⟩
  have cnt:∀(G'' Gp:LAd),(∀a,G''.count a+Gp.count a=G.count a+G'.count a)->∀a,(F1++(G''++F2)).count a+Gp.count a=(F1++(G++F2)).count a+G'.count a:=λG'' Gp hc a=>by
   have:=hc a;simp only[Zau];omega
  rcases h3 with⟨rfl,hz,⟨rfl,q⟩ | ⟨rfl,q⟩⟩ | ⟨rfl,rfl,q⟩
  ·
   obtain⟨n1,n2⟩:=ZaB.mp nd;have hl':(F1++(G++F2)).length=nls ds:=by simp only[D.nl,ZR]at hl;omega
   obtain⟨vsm,Gp,e1,e2,e3,e4,e5,e6,e7,e8⟩:=core n2 hl';have ap:=apart n2 e5;have hap:a≠p:=λz=>n1 (by rw[z];exact Ze _ (Zg _ e5));refine⟨vsm,Gp,e1,e2,e3,e4,Zc _ (Ze _ (Zg _ e5)),λb hb=>Zc _ (Ze _ (Zg _ (e6 b hb))),e7,λr' hz' hl2=>?_⟩;obtain⟨G'',f1,f2,f3⟩:=e8 r' hz' hl2;have j1:=Rps.join (h4.upd e1 ap.1) f1 (h5.upd e1 ap.2) hjl h7;refine⟨a::(F1++(G''++F2)),?_,?_,λb=>?_⟩
   ·simp only[Qbk,hj,gd];exact Rp.Qeb (by rw[QP hap];exact q) j1 (by rw[ZZ];exact hz)
   ·have:=QjH (e:=Qbk is d' (.lst ds')) h6;simp only[Qbk,hj,gd,D.nl,ZR,Zy,f2]at hl' ⊢;omega
   ·have:=cnt G'' Gp f3 b;rw[ZaR,ZaR];omega
  ·have:(F1++(G++F2)).length<=nls ds:=by simp only[Zy];omega
   simp only[D.nl]at hl;omega
  ·
   have hl':(F1++(G++F2)).length=nls ds:=by simpa only[D.nl]using hl
   obtain⟨vsm,Gp,e1,e2,e3,e4,e5,e6,e7,e8⟩:=core nd hl';have ap:=apart nd e5;refine⟨vsm,Gp,e1,e2,e3,e4,Ze _ (Zg _ e5),λb hb=>Ze _ (Zg _ (e6 b hb)),e7,λr' hz' hl2=>?_⟩;obtain⟨G'',f1,f2,f3⟩:=e8 r' hz' hl2;have j1:=Rps.join (h4.upd e1 ap.1) f1 (h5.upd e1 ap.2) hjl h7;refine⟨F1++(G''++F2),?_,?_,cnt G'' Gp f3⟩
   ·simp only[Qbk,hj,gd,Rp];exact⟨a,vs,rfl,QqE e1 q,j1⟩
   ·have:=QjH (e:=Qbk is d' (.lst ds')) h6;simp only[Qbk,hj,gd,D.nl,Zy,f2]at hl' ⊢;omega
end
section
theorem Rel.mut(rel:Rel K H0 A0 hs U F σ H)(p:Qaa K U F H H1 r vn Gn)(hf:r.fr=true)(nd:r.M.Nodup)(s12:QQ H1 H2)(hx:U[x]? =some (some (d,true)))(hxM:x∉r.M)(hv0:σ[x]? =some (some v0))
  {dnew:D}{q:Addr}{F':LAd}{vsm vs':List V}(e1:H2 q=some (.lst vsm)) (e5:q∈F x) (f1:Rp K (upd H2 q (.lst vs')) dnew v0 F') (f2:F'.length=dnew.nl) (cF:∀a,F'.count a<=(F x).count a+Gn.count a):
  ∃F',Rel K H0 A0 hs ((kill r.M U).set x (some (dnew,true))) F' σ (upd H2 q (.lst vs')):=by
 obtain⟨ol,on,o0,oap,oh⟩:=rel.own x d hx;obtain⟨gn,gs⟩:=p.fresh rel hf nd;have rel2:=(rel.ext p.same).ext s12;have relk:=rel2.weak (QcS r.M U);have apn:∀a∈Gn,a∉F x:=λa ha hax=>by
  rcases(gs a ha).2 with z | ⟨k,d',hk,ek,hak⟩
  ·obtain⟨vs,w⟩:=rel.mem hx hax;rw[z]at w;cases w
  ·have:k≠x:=λz=>hxM (z▸hk);exact oap k d' true this ek a hax hak
 have memF:∀a∈F',a∈F x∨a∈Gn:=λa ha=>by
  have h1:=cF a;have h2:0<F'.count a:=Zal.mpr ha;by_cases h:a∈F x
  ·exact .inl h
  ·rw[ZS.mpr h]at h1;exact .inr (Zal.mp ⋯)
 have apart:∀(j:Nat) d' b,j≠x->(kill r.M U)[j]? =some (some (d',b))->∀a∈F',a∉F j:=λj d' b hj e a ha haj=>by
  obtain⟨b',e',_⟩:=(QcS r.M U).2 j d' b e;rcases memF a ha with h | h
  ·exact oap j d' b' hj e' a h haj
  ·rcases(gs a h).2 with z | ⟨k,d'',hk,ek,hak⟩
   ·obtain⟨vs,w⟩:=rel.mem e' haj;rw[z]at w;cases w
   ·have hjk:j≠k:=λz=>by subst z;exact QiX r.M U j d' b hk e
    exact(rel.own k d'' ek).2.2.2.1 j d' b' hjk e' a hak haj
 have apartH:∀t∈hs,∀a∈F',a∉t.2.2:=λt ht a ha hat=>by
  rcases memF a ha with h | h
  ·exact oh t ht a h hat
  ·rcases(gs a h).2 with z | ⟨k,d'',hk,ek,hak⟩
   ·obtain⟨vs,w⟩:=(rel.held t ht).1.mem a hat
    rw[z]at w;cases w
   ·exact(rel.own k d'' ek).2.2.2.2 t ht a hak hat
 have nqj:∀(j:Nat) d' b,j≠x->U[j]? =some (some (d',b))->q∉F j:=λj d' b hj e h=>oap j d' b hj e q e5 h;have nF':F'.Nodup:=Zas.mpr λa=>by
  have h1:=cF a;have h2:=Zas.mp on a;have h3:=Zas.mp gn a;by_cases h:a∈Gn
  ·rw[ZS.mpr (apn a h)]at h1;omega
  ·rw[ZS.mpr h]at h1;omega
 have lt:∀{j:Nat}{z:Option (D×Bool)}{y:D×Bool},((kill r.M U).set j z)[j]? =some (some y)->j<(kill r.M U).length:=λ{j z y} e=>by
  by_cases hl:j<(kill r.M U).length
  ·exact hl
  ·rw[Zv (by simp;omega)]at e;cases e
 refine⟨λj=>if j=x then F' else F j,by simp[relk.len],λj d' b e=>?_,λj d' e=>?_,λj d' b e a ha=>?_,λt ht=>⟨(relk.held t ht).1.upd e1 λh=>oh t ht q e5 h,(relk.held t ht).2⟩,λb o hb=>?_⟩
 ·by_cases hj:j=x
  ·subst hj;have hl:=lt e;rw[Zo hl]at e;cases e;exact⟨v0,hv0,by rw[if_pos rfl];exact f1⟩
  ·rw[Zd (Ne.symm hj)]at e;obtain⟨w,h1,h2⟩:=relk.val j d' b e;obtain⟨b',e',_⟩:=(QcS r.M U).2 j d' b e;exact⟨w,h1,by rw[if_neg hj];exact h2.upd e1 (nqj j d' b' hj e')⟩
 ·by_cases hj:j=x
  ·subst hj;have hl:=lt e;rw[Zo hl]at e;cases e;rw[if_pos rfl];refine⟨f2,nF',λa ha=>?_,λk d'' b hk ek a ha=>?_,apartH⟩
   ·rcases memF a ha with h | h
    ·exact o0 a h
    ·exact(gs a h).1
   ·rw[Zd (Ne.symm hk)]at ek;rw[if_neg hk];exact apart k d'' b hk ek a ha
  ·rw[Zd (Ne.symm hj)]at e;obtain⟨h1,h2,h3,h4,h5⟩:=relk.own j d' e;rw[if_neg hj];refine⟨h1,h2,h3,λk d'' b hk ek a ha=>?_,h5⟩;by_cases hki:k=x
   ·subst hki;rw[if_pos rfl];exact λhG=>apart j d' true hj e a hG ha
   ·rw[Zd (Ne.symm hki)]at ek;rw[if_neg hki];exact h4 k d'' b hk ek a ha
 ·by_cases hj:j=x
  ·subst hj;rw[if_pos rfl]at ha;rcases memF a ha with h | h
   ·exact .inl (o0 a h)
   ·exact .inl (gs a h).1
  ·rw[Zd (Ne.symm hj)]at e;rw[if_neg hj]at ha;exact relk.src j d' b e a ha
 ·have hbq:b≠q:=λz=>by rw[z,o0 q e5]at hb;cases hb
  rw[QP hbq];exact relk.same b o hb
end
noncomputable abbrev DP:=En->Option (List Int)
noncomputable def Qap:DP:=λ_=>some []
noncomputable def Qb3(p:DP)(fb:DE):DP:=λU=>(p U).bind λis=>(fb U).bind λr=>match r.d with
 | .int i=>some (is++[i])
 | _=>none
noncomputable def tP(K:Fgg)(H0:Hp)(A0:LAd)(x:Nat)(pf:DP):TE:=λσ H Q=>∃U hs F d b is dm,Rel K H0 A0 hs U F σ H/\U[x]? =some (some (d,b))/\pf U=some is/\Qbh d is=some dm∧
 ∀v0 v H' Gm,QQ H H'->σ[x]? =some (some v0)->Focus K H' is d v0 (F x) dm v Gm->Q v H'
def SPa(X:Cx)(e:Expr)(x:Nat)(pf:DP):Prop:=∀H0 A0,PE X e (tP X.K H0 A0 x pf)
section
theorem QfM(h:PE X (.Name y pos) (QgW x)):SPa X (.Name y pos) x Qap:=λH0 A0=>h.mono λσ H Q Z=>by
 obtain⟨U,hs,F,d,b,is,dm,rel,hx,hp,hd,q⟩:=Z;cases hp;cases hd;obtain⟨v,h1,h2⟩:=rel.val x d b hx;exact⟨v,h1,q v v H (F x) (QQ.refl _) h1 ⟨rfl,rfl,rfl,h2⟩⟩
theorem Qhn(ha:SPa X a x pf)(hb:SE X b fb)(hs:QjG b):SPa X (.Subscript a b pos) x (Qb3 pf fb):=λH0 A0=>
 (Qwt (Qq7.or QtG) (ha H0 A0) (hb H0 A0) hs).mono λσ H Q Z=>by
  obtain⟨U,hs,F,d,b',is,dm,rel,hx,hp,hd,q⟩:=Z;refine Qf hp λis' e1 hp=>?_;refine Qf hp λr e2 hp=>?_;cases hr:r.d with
  | int i=>
   rw[hr]at hp;cases hp;obtain⟨dn,ds,g1,g2,g3⟩:=QlR hd;refine⟨U,hs,F,d,b',is',dn,rel,hx,e1,g1,λv0 w H1 Gm s1 hv fo=>⟨U,hs,F,r,rel.ext s1,e2,λu H2 G p2=>?_⟩⟩;have rp:=p2.rp;rw[hr]at rp;rw[rp.int_inv];have fo2:=fo.same p2.same;obtain⟨c,vs,v',G',rfl,hc,h3,h4⟩:=Focus.one fo2.rp g2 g3;have fin:=q v0 v' H2 G' (s1.trans p2.same) hv (fo2.snoc h4);rcases hc with⟨_,hc⟩ | ⟨_,hc⟩
   ·exact .inl ⟨c,vs,i,v',rfl,rfl,hc,h3,fin⟩
   ·exact .inr ⟨c,vs,i,v',rfl,rfl,hc,h3,fin⟩
  | _=>rw[hr]at hp;cases hp
noncomputable def QbL(x:Nat)(pf:DP)(fi fa:DE):DS:=λU=>(fa U).bind λr0=>match U[x]? with
 | some (some (d,true))=>(pf U).bind λis=>(fi U).bind λri=>match ri.d,Qbh d is with
  | .int k,some (.lst ds)=>(ixN ds.length k).bind λj=>if r0.norm.fr && decide r0.norm.M.Nodup && !r0.norm.M.contains x then some (.nx ((kill r0.norm.M U).set x (some (Qbk is d (.lst (ds.set j r0.d)),true))))else
   if is.isEmpty && !r0.norm.M.contains x then some (.nx ((QaX r0.norm.M U).set x (some (.lst (ds.set j r0.d),false))))else
   none
  | _,_=>none
 | _=>none
theorem set_mk(hq:H2 q=some (.lst vsm))(rs:Rps K H2 dsm vsm Gp)(hl:Gp.length=nls dsm)(nq:q∉Gp)(nqn:q∉Gn)(hn:Rp K H2 dn vn Gn)(hnl:Gn.length=dn.nl)(hj:j<dsm.length):
  ∃G',Rps K (upd H2 q (.lst (vsm.set j vn))) (dsm.set j dn) (vsm.set j vn) G'/\G'.length=nls (dsm.set j dn)/\∀a,G'.count a<=Gp.count a+Gn.count a:=by
 obtain⟨F1,G,F2,v,e1,e2,h1,h2,h3⟩:=rs.split (j:=j) (d:=dsm[j]) (by simp[hj]);subst e1;have hjv:j<vsm.length:=by rw[← rs.length];exact hj
 have n1:q∉F1:=λh=>nq (Zg _ h);have n2:q∉F2:=λh=>nq (Ze _ (Ze _ h));refine⟨F1++(Gn++F2),Rps.QwA (h1.upd hq n1) (hn.upd hq nqn) (h3.upd hq n2) hj hjv,?_,λa=>?_⟩
 ·have:=QjH (ds:=dsm) (j:=j) (d:=dsm[j]) (e:=dn) (by simp[hj]);have l1:=h1.QaJ;have l2:=h2.QaJ;have l3:=h3.QaJ;have e1:nls (dsm.take j)+((dsm[j]).nl+nls (dsm.drop (j+1)))=nls dsm:=by
   have e2:=congrArg nls (Zba j dsm);rw[QdV,ZW hj]at e2;simpa only[nls]using e2
  simp only[Zy]at hl ⊢;omega
 ·simp only[Zau];omega
theorem Qaa.Qgj(p:Qaa K U F H H1 r v G)(s:QQ H1 H2):Qaa K U F H H2 r v G:=⟨p.same.trans s,p.rp.same s,p.src,p.cnt,p.own⟩
theorem Qmf(hq:H2 q=some (.lst vsm))(rs:Rps K H2 dsm vsm Gp)(nq:q∉Gp)(nqn:q∉Gn)(hn:Rp K H2 dn vn Gn)(hj:j<dsm.length):
  ∃G',Rps K (upd H2 q (.lst (vsm.set j vn))) (dsm.set j dn) (vsm.set j vn) G'/\∀a∈G',a∈Gp∨a∈Gn:=by
 obtain⟨F1,G,F2,v,e1,e2,h1,h2,h3⟩:=rs.split (j:=j) (d:=dsm[j]) (by simp[hj]);subst e1;have hjv:j<vsm.length:=by rw[← rs.length];exact hj
 have n1:q∉F1:=λh=>nq (Zg _ h);have n2:q∉F2:=λh=>nq (Ze _ (Ze _ h));refine⟨F1++(Gn++F2),Rps.QwA (h1.upd hq n1) (hn.upd hq nqn) (h3.upd hq n2) hj hjv,λa ha=>?_⟩;rcases ZG.mp ha with h | h
 ·exact .inl (Zg _ h)
 ·rcases ZG.mp h with h | h
  ·exact .inr h
  ·exact .inl (Ze _ (Ze _ h))
theorem Qj9:∀(M:List Nat) (U:En) (x:Nat),x∉M->(QaX M U)[x]? =U[x]?
 | [],U,x,_=>rfl
 | i::M,U,x,h=>by
  have hi:i≠x:=λe=>h (e▸Zl);unfold QaX;rw[Qj9 M _ x λe=>h (Zc _ e)];split
  ·rw[Zd hi]
  ·rfl
theorem Rel.QCM(rel:Rel K H0 A0 hs U F σ H)(hx:U[x]? =some (some (d,true)))(sh:Shr H0 A0 U F Gn)(hv0:σ[x]? =some (some v0))
  {dnew:D}{q:Addr}{G':LAd}{vsm vs':List V}(e1:H q=some (.lst vsm)) (e5:q∈F x) (f1:Rp K (upd H q (.lst vs')) dnew v0 G') (mem:∀a∈G',a∈F x∨a∈Gn):
  ∃F',Rel K H0 A0 hs (U.set x (some (dnew,false))) F' σ (upd H q (.lst vs')):=by
 obtain⟨ol,on,o0,oap,oh⟩:=rel.own x d hx;have lt:∀{j:Nat}{z:Option (D×Bool)}{y:D×Bool},(U.set j z)[j]? =some (some y)->j<U.length:=λ{j z y} e=>by
  by_cases hl:j<U.length
  ·exact hl
  ·rw[Zv (by simp;omega)]at e;cases e
 refine⟨λj=>if j=x then G' else F j,by simp[rel.len],λj d' b e=>?_,λj d' e=>?_,λj d' b e a ha=>?_,λt ht=>⟨(rel.held t ht).1.upd e1 λh=>oh t ht q e5 h,(rel.held t ht).2⟩,λb o hb=>?_⟩
 ·by_cases hj:j=x
  ·subst hj;have hl:=lt e;rw[Zo hl]at e;cases e;exact⟨v0,hv0,by rw[if_pos rfl];exact f1⟩
  ·rw[Zd (Ne.symm hj)]at e;obtain⟨w,h1,h2⟩:=rel.val j d' b e;exact⟨w,h1,by rw[if_neg hj];exact h2.upd e1 λh=>oap j d' b hj e q e5 h⟩
 ·by_cases hj:j=x
  ·subst hj;have hl:=lt e;rw[Zo hl]at e;cases e
  ·rw[Zd (Ne.symm hj)]at e;obtain⟨h1,h2,h3,h4,h5⟩:=rel.own j d' e;rw[if_neg hj];refine⟨h1,h2,h3,λk d'' b hk ek a ha=>?_,h5⟩;by_cases hki:k=x
   ·subst hki;rw[if_pos rfl];intro hG;rcases mem a hG with h | h
    ·exact h4 k d true (Ne.symm hj) hx a ha h
    ·exact(sh a h).2 j d' e ha
   ·rw[Zd (Ne.symm hki)]at ek;rw[if_neg hki];exact h4 k d'' b hk ek a ha
 ·by_cases hj:j=x
  ·subst hj;rw[if_pos rfl]at ha;rcases mem a ha with h | h
   ·exact .inl (o0 a h)
   ·exact(sh a h).1
  ·rw[Zd (Ne.symm hj)]at e;rw[if_neg hj]at ha;exact rel.src j d' b e a ha
 ·have hbq:b≠q:=λz=>by rw[z,o0 q e5]at hb;cases hb
  rw[QP hbq];exact rel.same b o hb
theorem QzS(hv:SE X e fa)(ho:SPa X a x pf)(hi:SE X i fi)
  (h:∀te to ti,PE X e te->PE X a to->PE X i ti->PS X (.Assign [.Subscript a i pos'] e pos) (Qej te (L2.Qax to ti Qgt))):S1 X (.Assign [.Subscript a i pos'] e pos) (QbL x pf fi fa):=λH0 A0=>
 (h _ _ _ (hv H0 A0) (ho H0 A0) (hi H0 A0)).mono λE σ H=>exK λU hs F o rel e q=>by
  refine Qf e λr0 e1 e=>?_;split at e
  ·rename_i d hx;refine Qf e λis e2 e=>?_;refine Qf e λri e3 e=>?_;split at e
   ·rename_i k ds hk hp;refine Qf e λj e4 e=>?_;split at e
    ·rename_i hc;cases e;simp only[Zm,decide_eq_true_eq,ZaI]at hc;obtain⟨⟨c1,c2⟩,c3⟩:=hc;have c3:x∉r0.norm.M:=λh=>by rw[ZbE.mpr h]at c3;cases c3
     refine⟨U,hs,F,r0,rel,e1,λvn H1 Gn p=>⟨U,hs,F,d,true,is,.lst ds,rel.ext p.same,hx,e2,hp,λv0 w H2 Gm s2 hv0 fo=>⟨U,hs,F,ri,(rel.ext p.same).ext s2,e3,λu H3 Gi pi=>?_⟩⟩⟩;have p':=(p.norm.Qgj s2).Qgj pi.same;have fo3:=fo.same pi.same;have rpi:=pi.rp;rw[hk]at rpi;rw[rpi.int_inv];obtain⟨l,ws,L,rfl,_⟩:=fo3.rp.lst_inv;obtain⟨ol,on,_,oap,_⟩:=rel.own x d hx;have hjl:=(Qcc e4).2.1;obtain⟨gn,gs⟩:=p'.fresh rel c1 c2;have rn:=p'.rp;rw[r0.QcV]at rn;have hnl:=(p'.cnt c1).2;rw[r0.QcV]at hnl;obtain⟨vsm,_,f1,_⟩:=fo3.mut (vs':=[]) (ds':=[]) (G':=[]) on ol;obtain⟨_,_,_,_,_,_,zl,_⟩:=fo3.rp.lst_inv;have key:∃F',Rp X.K (upd H3 l (.lst (vsm.set j vn))) (Qbk is d (.lst (ds.set j r0.d))) v0 F'/\F'.length=(Qbk is d (.lst (ds.set j r0.d))).nl/\l∈F x/\ds.length=vsm.length/\∀a,F'.count a<=(F x).count a+Gn.count a:=by
      have own5:∀G',_:=λG'=>fo3.mut (vs':=vsm.set j vn) (ds':=ds.set j r0.d) (G':=G') on ol;obtain⟨vs1,Gp,g1,g2,g3,g4,g5,g6,g7,_⟩:=own5 [];rw[f1]at g1;cases g1;have hq:l∉Gn:=λh=>by
       rcases(gs l h).2 with z | ⟨k',d',hk',ek,hak⟩
       ·obtain⟨vs,w⟩:=rel.mem hx g5;rw[z]at w;cases w
       ·exact oap k' d' true (λz=>c3 (z▸hk')) ek l g5 hak
      obtain⟨G',m1,m2,m3⟩:=set_mk f1 g3 g4 g7 hq rn hnl hjl;obtain⟨vs2,Gp2,k1,k2,k3,k4,k5,k6,k7,k8⟩:=own5 G';have eG:Gp2=Gp:=by rw[g2]at k2;exact(List.cons.inj k2).2.symm
      subst eG;obtain⟨F',h1,h2,h3⟩:=k8 m1 (by rw[ZZ];exact zl) m2;exact⟨F',h1,h2,g5,g3.length,λa=>by have:=h3 a;have:=m3 a;omega⟩
     obtain⟨F',k1,k2,k3,k4,k5⟩:=key;refine⟨l,vsm,k,j,rfl,rfl,f1,by rw[← k4];exact e4,?_⟩;obtain⟨F'',rel'⟩:=rel.mut p' c1 c2 (QQ.refl _) hx c3 hv0 f1 k3 k1 k2 k5;exact q _ _ F'' rel'
    ·
     split at e
     ·rename_i hc;cases e;simp only[Zm,ZaI,List.isEmpty_iff]at hc;obtain⟨rfl,c3⟩:=hc;have c3:x∉r0.norm.M:=λh=>by rw[ZbE.mpr h]at c3;cases c3
      refine⟨U,hs,F,r0,rel,e1,λvn H1 Gn p=>⟨U,hs,F,d,true,[],.lst ds,rel.ext p.same,hx,e2,hp,λv0 w H2 Gm s2 hv0 fo=>⟨U,hs,F,ri,(rel.ext p.same).ext s2,e3,λu H3 Gi pi=>?_⟩⟩⟩;have p':=(p.norm.Qgj s2).Qgj pi.same;have fo3:=fo.same pi.same;have rpi:=pi.rp;rw[hk]at rpi;rw[rpi.int_inv];obtain⟨l,ws,L,rfl,_⟩:=fo3.rp.lst_inv;obtain⟨ol,on,_,oap,_⟩:=rel.own x d hx;have hjl:=(Qcc e4).2.1;have rn:=p'.rp;rw[r0.QcV]at rn;obtain⟨vsm,Gp,f1,g2,g3,g4,g5,g6,g7,_⟩:=fo3.mut (vs':=[]) (ds':=[]) (G':=[]) on ol;obtain⟨_,_,_,_,_,_,zl,_⟩:=fo3.rp.lst_inv;have sh:=Shr.of rel p'.src;have relD:=(rel.ext p'.same).weak (Qbd r0.norm.M U);have hxD:(QaX r0.norm.M U)[x]? =some (some (d,true)):=by rw[Qj9 _ _ _ c3];exact hx
      have hq:l∉Gn:=λh=>(sh l h).2 x d hxD g5;obtain⟨G',m1,m3⟩:=Qmf f1 g3 g7 hq rn hjl;have e0:v0= .ref l:=(fo3.2.1).symm;subst e0;refine⟨l,vsm,k,j,rfl,rfl,f1,by rw[← g3.length];exact e4,?_⟩;obtain⟨F'',rel'⟩:=relD.QCM (dnew:= .lst (ds.set j r0.d)) (G':=l::G') (vs':=vsm.set j vn) hxD sh hv0 f1 g5 (Rp.Qeb Qac m1 (by rw[ZZ];exact zl)) λa ha=>by
       rcases Zj.mp ha with h | h
       ·exact .inl (h▸g5)
       ·rcases m3 a h with h | h
        ·exact .inl (g6 a h)
        ·exact .inr h
      exact q _ _ F'' rel'
     ·
      cases e
   ·cases e
  ·cases e
end
section
variable {K:Fgg}{H0 H H1 H2 H3:Hp}{A0:LAd}{hs:List (V×D×List Addr)}{U:En}{F:Nat->List Addr}{σ:L2.St}
theorem Rel.write(rel:Rel K H0 A0 hs U F σ H)(p:Qaa K U F H H3 r vn Gn)(hf:r.fr=true)(nd:r.M.Nodup)(hx:U[x]? =some (some (d,true)))(hxM:x∉r.M)(hv0:σ[x]? =some (some v0))
  {is:List Int}{ds:List D}{Gm:LAd}(fo:Focus K H3 is d v0 (F x) (.lst ds) w Gm):
  ∃l vsm Gp,w= .ref l/\H3 l=some (.lst vsm)/\Rps K H3 ds vsm Gp/\Gp.length=nls ds/\l∉Gp/\l∉Gn/\ds.length<=sizeLine∧
   ∀ds' vs' G',Rps K (upd H3 l (.lst vs')) ds' vs' G'->ds'.length<=sizeLine->G'.length=nls ds'->(∀a,G'.count a<=Gp.count a+Gn.count a)→
    ∃F',Rel K H0 A0 hs ((kill r.M U).set x (some (Qbk is d (.lst ds'),true))) F' σ (upd H3 l (.lst vs')):=by
 obtain⟨l,ws,L,rfl,_,_,zl,_⟩:=fo.rp.lst_inv;obtain⟨ol,on,_,oap,_⟩:=rel.own x d hx;obtain⟨gn,gs⟩:=p.fresh rel hf nd;obtain⟨vsm,Gp,g1,g2,g3,g4,g5,g6,g7,_⟩:=fo.mut (vs':=[]) (ds':=[]) (G':=[]) on ol;have hq:l∉Gn:=λh=>by
  rcases(gs l h).2 with z | ⟨k',d',hk',ek,hak⟩
  ·obtain⟨vs,w⟩:=rel.mem hx g5;rw[z]at w;cases w
  ·exact oap k' d' true (λz=>hxM (z▸hk')) ek l g5 hak
 refine⟨l,vsm,Gp,rfl,g1,g3,g4,g7,hq,zl,λds' vs' G' m1 m2 m3 m4=>?_⟩;obtain⟨vs2,Gp2,k1,k2,k3,k4,k5,k6,k7,k8⟩:=fo.mut (vs':=vs') (ds':=ds') (G':=G') on ol;have eG:Gp2=Gp:=by rw[g2]at k2;exact(List.cons.inj k2).2.symm
 subst eG;obtain⟨F',h1,h2,h3⟩:=k8 m1 m2 m3;exact rel.mut p hf nd (QQ.refl _) hx hxM hv0 g1 g5 h1 h2 λa=>by have:=h3 a;have:=m4 a;omega
end
section
variable {X:Cx}{a b e:Expr}{fa fb:DE}{pf:DP}{x:Nat}{pos apos:Pos}
noncomputable def Qoj(r:R)(x:Nat):Bool:=r.norm.fr && decide r.norm.M.Nodup && !r.norm.M.contains x
theorem Qua(h:Qoj r x=true):r.norm.fr=true/\r.norm.M.Nodup/\x∉r.norm.M:=by
 unfold Qoj at h;simp only[Zm,decide_eq_true_eq,ZaI]at h;exact⟨h.1.1,h.1.2,λz=>by rw[ZbE.mpr z]at h;cases h.2⟩
noncomputable def QgD(x:Nat)(pf:DP)(fa:DE):DS:=λU=>match U[x]? with
 | some (some (d,true))=>(pf U).bind λis=>(fa U).bind λr0=>match Qbh d is with
  | some (.lst ds)=>if Qoj r0 x && decide (ds.length<sizeLine)then some (.nx ((kill r0.norm.M U).set x (some (Qbk is d (.lst (ds++[r0.d])),true))))else none
  | _=>none
 | _=>none
theorem Qv7{H0:Hp}{A0:LAd}{E:Ends}{σ:L2.St}{H:Hp}:tS X.K H0 A0 (QgD x pf fa) E σ H->Qrz (tBM X.K "list" QqU (tP X.K H0 A0 x pf) (Qia (tV X.K H0 A0 fa) Qpk)) E σ H:=exK λU hs F o rel e q=>by
 unfold QgD at e;split at e
 ·rename_i d hx;refine Qf e λis e2 e=>?_;refine Qf e λr0 e1 e=>?_;split at e
  ·rename_i ds hp;split at e
   ·rename_i hc;simp only[Zm,decide_eq_true_eq]at hc;obtain⟨c1,c2,c3⟩:=Qua hc.1;cases e;refine⟨U,hs,F,d,true,is,.lst ds,rel,hx,e2,hp,λv0 w H2 Gm s2 hv0 fo=>?_⟩;have ty:tyV X.K "list" w H2:=by
     obtain⟨l,ws,L,rfl,hl,_⟩:=fo.rp.lst_inv;exact .inl ⟨rfl,ws,Q1 hl⟩
    refine⟨ty,U,hs,F,r0,rel.ext s2,e1,λvn H3 Gn p=>?_⟩;have p':=p.norm;obtain⟨l,vsm,Gp,rfl,g1,g2,g3,g4,g5,g6,g7⟩:=(rel.ext s2).write p' c1 c2 hx c3 hv0 (fo.same p.same);refine⟨l,vsm,vn,rfl,rfl,g1,by rw[← g2.length];exact hc.2,?_⟩;have rn:=p'.rp;rw[r0.QcV]at rn;have hnl:=(p'.cnt c1).2;rw[r0.QcV]at hnl;have rw1:Rps X.K (upd H3 l (.lst (vsm++[vn]))) [r0.d] [vn] Gn:=by
     simp only[Rps];exact⟨vn,[],Gn,[],rfl,by simp,rn.upd g1 g5,rfl,rfl⟩
    obtain⟨F',rel'⟩:=g7 (ds++[r0.d]) (vsm++[vn]) (Gp++Gn) ((g2.upd g1 g4).append rw1) (by rw[Zy,ZbD];omega) (by rw[Zy,QdV,g3,hnl];simp[nls]) (λa=>by rw[Zau];omega);exact q _ _ F' rel'
   ·cases e
  ·cases e
 ·cases e
open PyProof.Rows in
theorem Qt1:QzD X (Qy8 X.K):=by
 intro pins s σ H o i ov iv Q I ro ri h;obtain⟨p,xs,k,v,rfl,rfl,hq,ha,q⟩:=h;cases ro;obtain⟨t,rfl⟩:=ri;obtain⟨its,r,pl,hz⟩:=I.list hq;obtain⟨j,h1,h2,h3,h4,h5⟩:=QmY ha;obtain⟨w,ew,rw'⟩:=r.get h2;have hl:=r.length;have hn:=Qg8;by_cases h0:0<=k
 ·refine wpAny_getItem_list pl.isList h0 ⋯ (x:=w) ?_ ⟨v,H,I,rw',q⟩;have:k.toNat=j:=by
   rw[seqIndex_of h0 h5]at h1;exact Option.some.inj h1
  rw[this];simpa using ew
 ·refine wpAny_getItem_list_neg pl.isList ⋯ (by rw[Zx]<;>omega) ⋯ (x:=w) ?_ ⟨v,H,I,rw',q⟩;have hj:(k+(its.toArray.size:Int)).toNat=j:=by
   rw[seqIndex_neg ⋯ h4]at h1;rw[Zx,← hl];exact Option.some.inj h1
  rw[hj];simpa using ew
noncomputable def QdY(g:D->D->Option D)(x:Nat)(pf:DP)(fi fa:DE):DS:=λU=>match U[x]? with
 | some (some (d,true))=>(pf U).bind λis=>(fi U).bind λri=>match ri.d,Qbh d is with
  | .int k,some (.lst ds)=>(ixN ds.length k).bind λj=>(ds[j]?).bind λold=>(fa U).bind λr=>(g old r.d).map λnew=> .nx (U.set x (some (Qbk is d (.lst (ds.set j new)),true)))
  | _,_=>none
 | _=>none
theorem QxL(ho:OpR X (inplaceOp op) r)(hg:QcE X.K g r)(hv:SE X e fa)(hp:SPa X a x pf)(hi:SE X i fi)
  (ha:∀ov iv new,augStore i ov iv new=(do holding [new,ov,iv] (setItem ov iv new);release [new,ov,iv] [];pure .next)):S1 X (.AugAssign (.Subscript a i pos') op e pos) (QdY g x pf fi fa):=λH0 A0=>
 (Qys (hp H0 A0) (hi H0 A0) Qt1 (hv H0 A0) (λpins s σ H x y v u Q I rx ry q=>QCB ho I rx ry q) set_list ha).mono λE σ H=>exK λU hs F o rel e q=>by
  unfold QdY at e;split at e
  ·rename_i d hx;refine Qf e λis e2 e=>?_;refine Qf e λri e3 e=>?_;split at e
   ·rename_i k ds hk hp';refine Qf e λj e4 e=>?_;refine Qf e λold e5 e=>?_;refine Qf e λrv e6 e=>?_;obtain⟨new,e7,e⟩:=Zh.mp e;subst e;have hjl:=(Qcc e4).2.1;refine⟨U,hs,F,d,true,is,.lst ds,rel,hx,e2,hp',λv0 w H2 Gm s2 hv0 fo=>⟨U,hs,F,ri,rel.ext s2,e3,λu H3 Gi pi=>?_⟩⟩;have fo3:=fo.same pi.same;have rpi:=pi.rp;rw[hk]at rpi;rw[rpi.int_inv];have at3:atI ds k=some old:=by unfold atI;rw[e4];exact e5
    obtain⟨l,vs,v',Go,rfl,hc,h3,h4⟩:=Focus.one fo3.rp rfl at3;have hc:SqL X.K H3 l vs:=by
     rcases hc with⟨_,hc⟩ | ⟨hc,_⟩
     ·exact hc
     ·cases hc
    refine⟨l,vs,k,v',rfl,rfl,hc,h3,U,hs,F,rv,(rel.ext s2).ext pi.same,e6,λy H4 G4 p4=>?_⟩;have fo4:=fo3.same p4.same;have ro:=h4.rp.same p4.same;refine(hg _ _ _ e7).2 H4 v' y Go G4 _ ro p4.rp λz hz=>?_;have rel4:=((rel.ext s2).ext pi.same).ext p4.same;have pz:Qaa X.K U F H4 H4 ⟨new,true,[]⟩ z []:= .flat (QQ.refl _) (hz H4) (hg _ _ _ e7).1;obtain⟨l',vsm,Gp,el,g1,g2,g3,g4,g5,g6,g7⟩:=rel4.write pz rfl ZaX hx (by simp) hv0 fo4;cases el;refine⟨l,vsm,k,j,rfl,rfl,g1,by rw[← g2.length];exact e4,?_⟩;obtain⟨G',m1,m2,m3⟩:=set_mk g1 g2 g3 g4 g5 (hz H4) (Qeo new (hg _ _ _ e7).1).symm hjl;obtain⟨F',rel'⟩:=g7 _ _ G' m1 (by rw[ZZ];exact g6) m2 m3;exact q _ _ F' rel'
   ·cases e
  ·cases e
end
end HS
namespace HS
open PySem PySem.Spec L2 PyProof.Rows
noncomputable def D.QwN:D->Option Int
 | .int i=>some i
 | _=>none
noncomputable def QdU:List D->Option (List Int)
 | []=>some []
 | d::ds=>(d.QwN).bind λi=>(QdU ds).map λr=>i::r
theorem QcK:∀{ds:List D}{ns:List Int},QdU ds=some ns->ds=ns.map .int
 | [],_,h=>by cases h;rfl
 | d::ds,ns,h=>by
  unfold QdU at h;refine Qf h λi h1 h=>?_;obtain⟨r,h2,rfl⟩:=Zh.mp h;cases d with
  | int j=>cases h1;rw[QcK h2];rfl
  | _=>cases h1
theorem QhF:∀(ns:List Int),QdU (ns.map D.int)=some ns
 | []=>rfl
 | n::ns=>by simp[QdU,QhF ns,D.QwN]
theorem Rps.ints{K:Fgg}{H:Hp}:∀{ns:List Int}{vs:List V}{F:LAd},Rps K H (ns.map .int) vs F->vs=ns.map .int
 | [],_,_,h=>by simp only[List.map_nil,Rps]at h;rw[h.1];rfl
 | n::ns,_,_,h=>by
  simp only[ZJ,Rps]at h;obtain⟨v,ws,F1,F2,rfl,rfl,r,q⟩:=h;rw[r.int_inv,Rps.ints q];rfl
theorem QbR(h:QK (ns.map V.int) us):IntsAre us ns:=intsAre_of h
section
variable {X:Cx}{a b e:Expr}{es:List Expr}{fa fb:DE}{fs:DA}{pos p2:Pos}
theorem QAo(he:PE X e te)(hk:PE X k tk):PE X (.Subscript e (.Slice none none (some k) p2) pos)
  (λσ H Q=>te σ H λx H1=>tk σ H1 λy H2=>∃a xs,x= .ref a/\y= .int (-1)/\SqL X.K H2 a xs/\∀p,H2 p=none->Q (.ref p) (upd H2 p (.lst xs.reverse))):=by
 intro pins s σ H Q I h;refine PyProof.Rows.Subscript_ (thn (he pins s σ H _ I h) λv s1=>exJ λx H1 I1 r1 q1=>?_);refine wpAny_Slice ?_;rw[evalPart_none];refine wpAny_pure (wpAny_pure ?_);rw[evalPart_some];refine thn (hk pins s1 σ H1 _ I1 q1) λvk s3=>exJ λy H3 I3 r3 q3=>?_;obtain⟨c,xs,rfl,rfl,hq,q⟩:=q3;cases r1;obtain⟨t,rfl⟩:=r3;have I4:Inv X pins σ H3 {s3 with heap:=s3.heap.push {cls:= .type "slice",data:= .fields #[.none,.none,.int (-1) t]}}:=I3.kept (t':=s3.toks) λb ob q=>Zb _ q;obtain⟨its,r,ht,hz⟩:=I4.list hq;have hlen:=r.length;refine tail_any ht.isList.typeIs slot_list_getitem.lookup ?_ (by with_unfolding_all rfl);refine wpAny_getItem_list_slice ht.isList (Heap.IsSliceOf.new ..) .none .none (.int (-1) t) (by simp) ?_ (by rw[Zx]<;>omega);rw[PySem.W.krv_pick];refine⟨.ref _,_,I4.laid (t':=s3.toks) (λb ob q=>Zb _ q) (Zi _) ?_,rfl,q _ (I4.hok.fresh (Zi _))⟩;exact⟨by rw[ZbO];exact hz,its.reverse,0,r.reverse,ZC _ rfl⟩
theorem Rps.rev{K:Fgg}{H:Hp}:∀{ds:List D}{vs:List V}{F:LAd},Rps K H ds vs F->∃G,Rps K H ds.reverse vs.reverse G/\∀a∈G,a∈F
 | [],_,_,h=>by simp only[Rps]at h;rw[h.1,h.2];exact⟨[],by simp[Rps],λ_ h=>h⟩
 | d::ds,_,_,h=>by
  simp only[Rps]at h;obtain⟨v,ws,F1,F2,rfl,rfl,r,q⟩:=h;obtain⟨G,h1,h2⟩:=Rps.rev q;refine⟨G++F1,?_,λa ha=>?_⟩
  ·rw[Zbv,Zbv];refine h1.append ?_;simp only[Rps];exact⟨v,[],F1,[],rfl,by simp,r,rfl,rfl⟩
  ·rcases ZG.mp ha with z | z
   ·exact Ze _ (h2 a z)
   ·exact Zg _ z
noncomputable def Qoz(fa fk:DE):DE:=λU=>(fa U).bind λra=>(fk U).bind λrk=>match ra.d,rk.d with
 | .lst xs,.int (-1)=>some (Qa0 xs.reverse ra.M)
 | _,_=>none
theorem QzX{k:Expr}{fk:DE}(ha:SE X a fa)(hk:SE X k fk):SE X (.Subscript a (.Slice none none (some k) p2) pos) (Qoz fa fk):=λH0 A0=>
 (QAo (ha H0 A0) (hk H0 A0)).mono λσ H Q=>exK λU hs F r' rel e q=>by
  refine Qf e λra e1 e=>?_;refine Qf e λrk e2 e=>?_;refine two rel e1 e2 λx y H1 H2 G1 G2 p1 p2=>?_;split at e
  ·rename_i xs hra hrk;cases e;have rp:=p1.rp.same p2.same;have rk':=p2.rp;rw[hra]at rp;rw[hrk]at rk';obtain⟨c,vs,L,rfl,hc,rl,zl,el⟩:=rp.lst_inv;refine⟨c,vs,rfl,rk'.int_inv,Q1 hc,λp hp=>?_⟩;obtain⟨G,h1,h2⟩:=rl.rev;refine q _ _ (p::G) (Qaa.Qa0 (p1.same.trans p2.same) hp h1 (by rw[ZbO];exact zl) (λz hz=>p1.src z ?_) p1.own);rcases el with rfl | rfl
   ·exact Zc _ (h2 z hz)
   ·exact h2 z hz
  ·cases e
noncomputable def QrO(K:Fgg)(C:List Int->Int->Prop):List V->Hp->VK->Prop:=λxs H Q=>∃(p:Addr) (ns:List Int),xs=[.ref p]/\(SqL K H p (ns.map V.int)∨SqT K H p (ns.map V.int))/\ns≠[]/\∀M,C ns M->Q (.int M) H
def Qlp(ns:List Int)(M:Int):Prop:=M∈ns/\∀a∈ns,M<=a
def isMax(ns:List Int)(M:Int):Prop:=M∈ns/\∀a∈ns,a<=M
theorem Qda(hi:IntsAre us ns):∃xs:Array (Int×Tok),us.toArray=intItems xs/\ns=xs.toList.map (·.1):=by
 obtain⟨xs,e⟩:=hi.allInts.items;exact⟨xs,e,by rw[← hi.numsOf,← nums_intItems,← e]⟩
theorem Qo7(hh:A.handled=none)(hl:s.heap.IsTuple l (intItems xs))(hne:0<xs.size)
  (h:∀v h' tk,(intItems xs)[argBest (λi j=>decide (numAt xs i<numAt xs j)) (xs.size-1)]? =some v->(∀b o,s.heap.get? b=some o->h'.get? b=some o)->Q v {s with heap:=h',toks:=tk}):
  wpAny (model prog w) A (call (.builtin "min") [.ref l]) Q E s:=by
 have hlt:l<s.heap.objs.size:=by obtain⟨_,e,_⟩:=hl;exact Zs e
 refine call_min_walk (wpAny_pyIter_tuple hl ?_);refine⟨_,[_,l],[_],_,_,_,_,rfl,Walks.tuple (A:=A.in1) hh _ l (ZN hlt) (intItems xs),⟨⟨_,ZC _ rfl,rfl,rfl⟩,hl.push _⟩,λb hb=>?_,by simpa[intItems]using hne,CmpOf.ints_lt (numAt xs) (λ_ _=>intItems_at),λv h' tk hP hk=>?_⟩
 ·show b<(s.heap.push _).objs.size;rw[Zar];rcases Zj.mp hb with rfl | hb
  ·exact Zbh _
  ·rcases Zj.mp hb with rfl | hb
   ·exact ZaT hlt
   ·cases hb
 ·refine h v h' tk (by simpa[intItems]using hP) λb o e=>?_;refine hk b o (λhm=>?_) (Zb _ e);rcases Zj.mp hm with e1 | hm
  ·exact absurd (e1▸Zs e) (ZY _)
  ·cases hm
theorem Qs8(hc:X.calm=true):QcI X (.builtin "min") (QrO X.K Qlp):=by
 intro pins s σ H xs us Q I r h;obtain⟨p,ns,rfl,hq,hne,q⟩:=h;obtain⟨u,rfl,rx⟩:=vals1 r;cases rx;rcases hq with hq | hq
 ·obtain⟨its,r',pl,hz⟩:=I.list hq;obtain⟨ys,e,hns⟩:=Qda (QbR r');have hl:=pl.isList;rw[e]at hl;have hsz:0<ys.size:=by
   rcases ZaL ys.size with z | z
   ·exact absurd (by rw[hns,Zbl];exact Zav (by simpa using z)) hne
   ·exact z
  refine min_intList (I.ok.hd hc) hl hsz λv h' tk hv hk=>?_;obtain⟨t,rfl⟩:=intItems_at hv;obtain⟨h1,h2⟩:=argBest_lt (numAt ys) (ys.size-1);refine⟨.int _,H,I.kept hk,⟨t,rfl⟩,q _ ⟨?_,λa ha=>?_⟩⟩
  ·rw[hns,numAt_eq];exact getD_mem (by rw[Zn,Zaf];omega)
  ·rw[hns]at ha;obtain⟨j,hj,rfl⟩:=mem_getD ha;rw[Zn,Zaf]at hj;rw[← numAt_eq];exact h2 j ⋯
 ·obtain⟨its,r',pl,hz⟩:=I.tuple hq;obtain⟨ys,e,hns⟩:=Qda (QbR r');have hl:=pl;rw[e]at hl;have hsz:0<ys.size:=by
   rcases ZaL ys.size with z | z
   ·exact absurd (by rw[hns,Zbl];exact Zav (by simpa using z)) hne
   ·exact z
  refine Qo7 (I.ok.hd hc) hl hsz λv h' tk hv hk=>?_;obtain⟨t,rfl⟩:=intItems_at hv;obtain⟨h1,h2⟩:=argBest_lt (numAt ys) (ys.size-1);refine⟨.int _,H,I.kept hk,⟨t,rfl⟩,q _ ⟨?_,λa ha=>?_⟩⟩
  ·rw[hns,numAt_eq];exact getD_mem (by rw[Zn,Zaf];omega)
  ·rw[hns]at ha;obtain⟨j,hj,rfl⟩:=mem_getD ha;rw[Zn,Zaf]at hj;rw[← numAt_eq];exact h2 j ⋯
theorem Qpp(hh:A.handled=none)(hl:s.heap.IsTuple l (intItems xs))(hne:0<xs.size)
  (h:∀v h' tk,(intItems xs)[argBest (λi j=>decide (numAt xs i>numAt xs j)) (xs.size-1)]? =some v->(∀b o,s.heap.get? b=some o->h'.get? b=some o)->Q v {s with heap:=h',toks:=tk}):
  wpAny (model prog w) A (call (.builtin "max") [.ref l]) Q E s:=by
 have hlt:l<s.heap.objs.size:=by obtain⟨_,e,_⟩:=hl;exact Zs e
 refine call_max_walk (wpAny_pyIter_tuple hl ?_);refine⟨_,[_,l],[_],_,_,_,_,rfl,Walks.tuple (A:=A.in1) hh _ l (ZN hlt) (intItems xs),⟨⟨_,ZC _ rfl,rfl,rfl⟩,hl.push _⟩,λb hb=>?_,by simpa[intItems]using hne,CmpOf.ints_gt (numAt xs) (λ_ _=>intItems_at),λv h' tk hP hk=>?_⟩
 ·show b<(s.heap.push _).objs.size;rw[Zar];rcases Zj.mp hb with rfl | hb
  ·exact Zbh _
  ·rcases Zj.mp hb with rfl | hb
   ·exact ZaT hlt
   ·cases hb
 ·refine h v h' tk (by simpa[intItems]using hP) λb o e=>?_;refine hk b o (λhm=>?_) (Zb _ e);rcases Zj.mp hm with e1 | hm
  ·exact absurd (e1▸Zs e) (ZY _)
  ·cases hm
theorem Qt4(hc:X.calm=true):QcI X (.builtin "max") (QrO X.K isMax):=by
 intro pins s σ H xs us Q I r h;obtain⟨p,ns,rfl,hq,hne,q⟩:=h;obtain⟨u,rfl,rx⟩:=vals1 r;cases rx;rcases hq with hq | hq
 ·obtain⟨its,r',pl,hz⟩:=I.list hq;obtain⟨ys,e,hns⟩:=Qda (QbR r');have hl:=pl.isList;rw[e]at hl;have hsz:0<ys.size:=by
   rcases ZaL ys.size with z | z
   ·exact absurd (by rw[hns,Zbl];exact Zav (by simpa using z)) hne
   ·exact z
  refine max_intList (I.ok.hd hc) hl hsz λv h' tk hv hk=>?_;obtain⟨t,rfl⟩:=intItems_at hv;obtain⟨h1,h2⟩:=argBest_gt (numAt ys) (ys.size-1);refine⟨.int _,H,I.kept hk,⟨t,rfl⟩,q _ ⟨?_,λa ha=>?_⟩⟩
  ·rw[hns,numAt_eq];exact getD_mem (by rw[Zn,Zaf];omega)
  ·rw[hns]at ha;obtain⟨j,hj,rfl⟩:=mem_getD ha;rw[Zn,Zaf]at hj;rw[← numAt_eq];exact h2 j ⋯
 ·obtain⟨its,r',pl,hz⟩:=I.tuple hq;obtain⟨ys,e,hns⟩:=Qda (QbR r');have hl:=pl;rw[e]at hl;have hsz:0<ys.size:=by
   rcases ZaL ys.size with z | z
   ·exact absurd (by rw[hns,Zbl];exact Zav (by simpa using z)) hne
   ·exact z
  refine Qpp (I.ok.hd hc) hl hsz λv h' tk hv hk=>?_;obtain⟨t,rfl⟩:=intItems_at hv;obtain⟨h1,h2⟩:=argBest_gt (numAt ys) (ys.size-1);refine⟨.int _,H,I.kept hk,⟨t,rfl⟩,q _ ⟨?_,λa ha=>?_⟩⟩
  ·rw[hns,numAt_eq];exact getD_mem (by rw[Zn,Zaf];omega)
  ·rw[hns]at ha;obtain⟨j,hj,rfl⟩:=mem_getD ha;rw[Zn,Zaf]at hj;rw[← numAt_eq];exact h2 j ⋯
theorem QpV(hh:A.handled=none)(hl:s.heap.IsTuple l (intItems xs))
  (h:∀h' tk t',(∀b o,s.heap.get? b=some o->h'.get? b=some o)->Q (.int (preSum (numAt xs) xs.size) t') {s with heap:=h',toks:=tk}):
  wpAny (model prog w) A (call (.builtin "sum") [.ref l]) Q E s:=by
 have hlt:l<s.heap.objs.size:=by obtain⟨_,e,_⟩:=hl;exact Zs e
 refine call_sum_walkG (wpAny_pyIter_tuple hl ?_);refine⟨_,[_,l],[_],_,_,_,numAt xs,rfl,Walks.tuple (A:=A.in1) hh _ l (ZN hlt) (intItems xs),⟨⟨_,ZC _ rfl,rfl,rfl⟩,hl.push _⟩,λb hb=>?_,(λ_ _=>intItems_at),λh' tk t' hk=>?_⟩
 ·show b<(s.heap.push _).objs.size;rw[Zar];rcases Zj.mp hb with rfl | hb
  ·exact Zbh _
  ·rcases Zj.mp hb with rfl | hb
   ·exact ZaT hlt
   ·cases hb
 ·have:=h h' tk t' λb o e=>by
   refine hk b o (λhm=>?_) (Zb _ e);rcases Zj.mp hm with e1 | hm
   ·exact absurd (e1▸Zs e) (ZY _)
   ·cases hm
  simpa[intItems]using this
noncomputable def Qzn(K:Fgg):List V->Hp->VK->Prop:=λxs H Q=>∃(p:Addr) (ns:List Int),xs=[.ref p]/\(SqL K H p (ns.map V.int)∨SqT K H p (ns.map V.int))/\Q (.int ns.sum) H
theorem Qup(hc:X.calm=true):QcI X (.builtin "sum") (Qzn X.K):=by
 intro pins s σ H xs us Q I r h;obtain⟨p,ns,rfl,hq,q⟩:=h;obtain⟨u,rfl,rx⟩:=vals1 r;cases rx;rcases hq with hq | hq
 ·obtain⟨its,r',pl,hz⟩:=I.list hq;obtain⟨ys,e,hns⟩:=Qda (QbR r');have hl:=pl.isList;rw[e]at hl;refine sum_intListG (I.ok.hd hc) hl λh' tk t' hk=>?_;refine⟨.int ns.sum,H,I.kept hk,⟨t',?_⟩,q⟩;rw[preSum_eq,Zby (by simp),hns]
 ·obtain⟨its,r',pl,hz⟩:=I.tuple hq;obtain⟨ys,e,hns⟩:=Qda (QbR r');have hl:=pl;rw[e]at hl;refine QpV (I.ok.hd hc) hl λh' tk t' hk=>?_;refine⟨.int ns.sum,H,I.kept hk,⟨t',?_⟩,q⟩;rw[preSum_eq,Zby (by simp),hns]
noncomputable def QkX:List Int->Option Int
 | []=>none
 | [n]=>some n
 | n::r=>(QkX r).map λm=>if m<n then m else n
noncomputable def QkG:List Int->Option Int
 | []=>none
 | [n]=>some n
 | n::r=>(QkG r).map λm=>if n<m then m else n
theorem Qjj:∀{ns:List Int}{m:Int},QkX ns=some m->Qlp ns m
 | [],_,h=>by cases h
 | [n],_,h=>by cases h;exact⟨by simp,λa ha=>by simp at ha;omega⟩
 | n::k::r,m,h=>by
  simp only[QkX]at h;obtain⟨m',h1,rfl⟩:=Zh.mp h;obtain⟨h2,h3⟩:=Qjj h1;constructor
  ·split
   ·exact Zc _ h2
   ·exact Zl
  ·intro a ha;rcases Zj.mp ha with rfl | ha
   ·split<;>omega
   ·have:=h3 a ha;split<;>omega
theorem QjE:∀{ns:List Int}{m:Int},QkG ns=some m->isMax ns m
 | [],_,h=>by cases h
 | [n],_,h=>by cases h;exact⟨by simp,λa ha=>by simp at ha;omega⟩
 | n::k::r,m,h=>by
  simp only[QkG]at h;obtain⟨m',h1,rfl⟩:=Zh.mp h;obtain⟨h2,h3⟩:=QjE h1;constructor
  ·split
   ·exact Zc _ h2
   ·exact Zl
  ·intro a ha;rcases Zj.mp ha with rfl | ha
   ·split<;>omega
   ·have:=h3 a ha;split<;>omega
theorem QnG{ns:List Int}{a b:Int}(h:Qlp ns a)(g:Qlp ns b):a=b:=by have:=h.2 b g.1;have:=g.2 a h.1;omega
theorem Qnv{ns:List Int}{a b:Int}(h:isMax ns a)(g:isMax ns b):a=b:=by have:=h.2 b g.1;have:=g.2 a h.1;omega
noncomputable def QjM:List D->Option D
 | [.lst xs]=>(QdU xs).bind λns=>(QkX ns).map .int
 | [.tup xs]=>(QdU xs).bind λns=>(QkX ns).map .int
 | _=>none
noncomputable def QhL:List D->Option D
 | [.lst xs]=>(QdU xs).bind λns=>(QkG ns).map .int
 | [.tup xs]=>(QdU xs).bind λns=>(QkG ns).map .int
 | _=>none
noncomputable def Qjl:List D->Option D
 | [.lst xs]=>(QdU xs).map λns=> .int ns.sum
 | [.tup xs]=>(QdU xs).map λns=> .int ns.sum
 | _=>none
theorem Qw9{K:Fgg}:Qe1 K QjM (QrO K Qlp):=λds d e=>by
 unfold QjM at e;split at e
 ·refine Qf e λns h1 e=>?_;obtain⟨m,h2,rfl⟩:=Zh.mp e;refine⟨rfl,λH vs F Q r q=>?_⟩;obtain⟨v,rfl,rp⟩:=r.one;obtain⟨l,ws,L,rfl,hl,rl,zl,el⟩:=rp.lst_inv;rw[QcK h1]at rl;rw[rl.ints]at hl;exact⟨l,ns,rfl,.inl (Q1 hl),λz=>(by rw[z]at h2;cases h2),λM hM=>by rw[QnG hM (Qjj h2)];exact q _ λ_=> .int_mk⟩
 ·refine Qf e λns h1 e=>?_;obtain⟨m,h2,rfl⟩:=Zh.mp e;refine⟨rfl,λH vs F Q r q=>?_⟩;obtain⟨v,rfl,rp⟩:=r.one;obtain⟨l,ws,rfl,hl,rl⟩:=rp.Qa8;rw[QcK h1]at rl;rw[rl.ints]at hl;exact⟨l,ns,rfl,.inr hl,λz=>(by rw[z]at h2;cases h2),λM hM=>by rw[QnG hM (Qjj h2)];exact q _ λ_=> .int_mk⟩
 ·cases e
theorem QyB{K:Fgg}:Qe1 K QhL (QrO K isMax):=λds d e=>by
 unfold QhL at e;split at e
 ·refine Qf e λns h1 e=>?_;obtain⟨m,h2,rfl⟩:=Zh.mp e;refine⟨rfl,λH vs F Q r q=>?_⟩;obtain⟨v,rfl,rp⟩:=r.one;obtain⟨l,ws,L,rfl,hl,rl,zl,el⟩:=rp.lst_inv;rw[QcK h1]at rl;rw[rl.ints]at hl;exact⟨l,ns,rfl,.inl (Q1 hl),λz=>(by rw[z]at h2;cases h2),λM hM=>by rw[Qnv hM (QjE h2)];exact q _ λ_=> .int_mk⟩
 ·refine Qf e λns h1 e=>?_;obtain⟨m,h2,rfl⟩:=Zh.mp e;refine⟨rfl,λH vs F Q r q=>?_⟩;obtain⟨v,rfl,rp⟩:=r.one;obtain⟨l,ws,rfl,hl,rl⟩:=rp.Qa8;rw[QcK h1]at rl;rw[rl.ints]at hl;exact⟨l,ns,rfl,.inr hl,λz=>(by rw[z]at h2;cases h2),λM hM=>by rw[Qnv hM (QjE h2)];exact q _ λ_=> .int_mk⟩
 ·cases e
theorem Qxw{K:Fgg}:Qe1 K Qjl (Qzn K):=λds d e=>by
 unfold Qjl at e;split at e
 ·obtain⟨ns,h1,rfl⟩:=Zh.mp e;refine⟨rfl,λH vs F Q r q=>?_⟩;obtain⟨v,rfl,rp⟩:=r.one;obtain⟨l,ws,L,rfl,hl,rl,zl,el⟩:=rp.lst_inv;rw[QcK h1]at rl;rw[rl.ints]at hl;exact⟨l,ns,rfl,.inl (Q1 hl),q _ λ_=> .int_mk⟩
 ·obtain⟨ns,h1,rfl⟩:=Zh.mp e;refine⟨rfl,λH vs F Q r q=>?_⟩;obtain⟨v,rfl,rp⟩:=r.one;obtain⟨l,ws,rfl,hl,rl⟩:=rp.Qa8;rw[QcK h1]at rl;rw[rl.ints]at hl;exact⟨l,ns,rfl,.inr hl,q _ λ_=> .int_mk⟩
 ·cases e
end
section
variable {X:Cx}{a b c e tg:Expr}{es:List Expr}{fa fb fc:DE}{fs:DA}{pos p2:Pos}
noncomputable def Itd(hi:Int)(n:Nat):It:=⟨λi _=>i<n,λi H x H'=>H'=H/\x= .int (hi-i),λi _=>n<=i⟩
theorem Qqg{P:Program}{w:World}{K:Fgg}{tg:Expr}(it:Addr)(lo:Int)(n:Nat):Turn P w K tg (Itd lo n) [it] it (λi h=>IsRangeIter h it (lo+(i:Nat)*(-1)) ((n:Int)-(i:Nat)) (-1)) where
 mem:=by simp
 obj:=λi h st b hb=>by
  have e:b=it:=by simpa using hb
  subst e;exact⟨_,st,λv z=>by
   have z':Data.fields _=Data.cell v:=z;cases z'⟩
 keep:=λi h h' st k=>k it (by simp) _ st
 item:=by
  intro X hP hw hK hc i pins s σ H E I hf st hg;subst hP hw hK;obtain⟨f0,f1,f2,f3,f4,f5⟩:=hf it (by simp);have W:=Walks.range (prog:=X.prog) (w:=X.w) (I.ok.hd hc) it lo (-1) n;refine W.item i s _ _ hg st λv h' tk hv st' kk=>?_;obtain⟨t,rfl⟩:=hv;have I1:Inv X pins σ H {s with heap:=h',toks:=tk}:=I.turned (λb o hb e=>kk b o (by simpa using hb) e) f0 f1 f3 f4 f5;refine⟨_,rfl,Qom st' rfl rfl (by decide) ⟨.int (lo-i),H,I1,⟨t,?_⟩,⟨rfl,rfl⟩,st',λb hb=>(hf b hb).1⟩⟩;rw[show lo+(i:Int)* -1=lo-i by omega]
 done:=by
  intro X hP hw hK hc i pins s σ H E I hf st hg;subst hP hw hK;obtain⟨f0,f1,f2,f3,f4,f5⟩:=hf it (by simp);exact wpAny_pyNext_range_end (I.ok.hd hc) st (by have:n<=i:=hg;omega) λh' eb=>⟨rfl,I.turned (t':=s.toks) (λb o hb e=>eb b o hb e) f0 f1 f3 f4 f5⟩
 self:=λ_ _ _ _ _ st h=>wpAny_pyIter_rangeiter st h
theorem QnD(lo hi:Int):Builtin.Range.rangeSize lo hi (-1)=if lo>hi then lo-hi else 0:=by
 unfold Builtin.Range.rangeSize;rw[if_neg (by decide)];split
 ·rw[show(- -1:Int)=1 by decide,Int.ediv_one];omega
 ·rfl
theorem small_down{lo hi:Int}(h1: -(2^62)<=lo)(h2:lo<2^62)(h3: -(2^62)<=hi)(h4:hi<2^62):Builtin.Range.small lo hi (-1)=true:=by
 unfold Builtin.Range.small;rw[QnD];simp only[Builtin.Range.rangeFitsLong,Zm,Zco,decide_eq_true_eq,beq_iff_eq,show ¬((-1:Int)>0) by decide,if_false];split<;>omega
theorem Qtw{pins:List (Addr×Obj)}{σ:L2.St}{H:Hp}{s:Shared}{R:It->Hp->Prop}{E:Value->Shared->Prop}{lo hi:Int}{t u v:Tok}{tk:Nat}(I:Inv X pins σ H s)(h1: -(2^62)<=lo)(h2:lo<2^62)(h3: -(2^62)<=hi)(h4:hi<2^62)
  (q:R (Itd lo (lo-hi).toNat) H):wpAny (model X.prog X.w) X.A (pyIter (.ref s.heap.objs.size)) (PIE X pins σ tg R) E {s with heap:=s.heap.push {cls:= .type "range",data:= .fields #[.int lo t,.int hi u,.int (-1) v]},toks:=tk}:=by
 refine wpAny_pyIter_range (IsRange.new ..) (small_down h1 h2 h3 h4) ?_;have I1:Inv X pins σ H {s with heap:=s.heap.push {cls:= .type "range",data:= .fields #[.int lo t,.int hi u,.int (-1) v]},toks:=tk}:=I.kept λb o e=>Zb _ e
 refine⟨(s.heap.push {cls:= .type "range",data:= .fields #[.int lo t,.int hi u,.int (-1) v]}).objs.size,[(s.heap.push {cls:= .type "range",data:= .fields #[.int lo t,.int hi u,.int (-1) v]}).objs.size],_,_,H,rfl,
  I1.kept (t':=tk) λb o e=>Zb _ e,Qqg _ lo (lo-hi).toNat,?_,λb hb=>?_,q⟩
 ·have e1:lo+((0:Nat):Int)*(-1)=lo:=by simp
  have e2:(((lo-hi).toNat:Nat):Int)-((0:Nat):Int)=Builtin.Range.rangeSize lo hi (-1):=by rw[QnD];split<;>omega
  show IsRangeIter _ _ (lo+((0:Nat):Int)*(-1)) ((((lo-hi).toNat:Nat):Int)-((0:Nat):Int)) (-1);rw[e1,e2];exact ZC _ rfl
 ·have e:b=(s.heap.push {cls:= .type "range",data:= .fields #[.int lo t,.int hi u,.int (-1) v]}).objs.size:=by simpa using hb
  subst e;exact I1.Qkg (Zi _) (I1.hok.fresh (Zi _))
noncomputable def QAW(ta:TA):TI:=λσ H R=>ta σ H λvs H1=>∃i j:Int,vs=[.int i,.int j,.int (-1)]/\(-(2^62)<=i/\i<2^62/\ -(2^62)<=j/\j<2^62)/\R (Itd i (i-j).toNat) H1
theorem Quc(hg:Gl X "range")(hm:X.mg "range" =none)(ha:PA X [a,b,c] ta)(hs:starEach [a,b,c] X.env=(false,eval a X.env)::starEach [b,c] X.env)(hs2:(backTo pos (starEach [b,c] X.env)).any (·.1)=false):
  PI X tg (.Call (.Name "range" p) [a,b,c] [] pos) (QAW ta):=by
 intro pins s σ H R I h;refine Call_ (Qdi I hg hm boot_range (Zac (thn (ha pos pins s σ H _ I h) λus s1 ⟨vs,H1,I1,r1,q1⟩=>?_) hs hs2));obtain⟨i,j,e,⟨q1,q2,q3,q4⟩,q⟩:=q1;subst e;cases r1 with
 | cons r rr=>
  cases rr with
  | cons r' rr=>
   cases rr with
   | cons r'' rr=>
    cases rr;obtain⟨t,rfl⟩:=r;obtain⟨t',rfl⟩:=r';obtain⟨t'',rfl⟩:=r'';exact call_range_3 (by decide) (Qtw I1 q1 q2 q3 q4 q) (.inl (ZbV (by decide+kernel)))
noncomputable def Qmt(hi:Int)(n:Nat):List D:=(List.range n).map λ(k:Nat)=> .int (hi-(k:Int))
theorem Qux{lo:Int}{n i:Nat}{d:D}(h:(Qmt lo n)[i]? =some d):i<n/\d= .int (lo-i):=by
 unfold Qmt at h;rw[Zr]at h;by_cases hi:i<n
 ·rw[ZK hi]at h;cases h;exact⟨hi,rfl⟩
 ·rw[Zv (by simp;omega)]at h;cases h
noncomputable def Qfw(fa fb fc:DE):DI:=λU=>(fa U).bind λr=>(fb U).bind λr'=>(fc U).bind λr''=>match r.d,r'.d,r''.d with
 | .int i,.int j,.int (-1)=>if i-j<=16777216/\ -(2^62)<=i/\i<2^62/\ -(2^62)<=j/\j<2^62 then some ⟨Qmt i (i-j).toNat,[]⟩else none
 | _,_,_=>none
theorem Qkz{lo:Int}{n:Nat}:(Qmt lo n).length=n:=by simp[Qmt]
theorem Qqi{K:Fgg}{lo:Int}{n:Nat}:Walk K (Itd lo n) [] (Qmt lo n) where
 stop:=λH _=>by rw[Qkz];exact Zi _
 go:=λi H hi _=>by rw[Qkz]at hi;exact hi
 yld:=λi d H x H' e _ y=>by
  obtain⟨h1,rfl⟩:=Qux e;obtain⟨rfl,rfl⟩:=y;exact⟨QQ.refl _,[],.int_mk,λz hz=>by simp at hz⟩
theorem Qts(hg:Gl X "range")(hm:X.mg "range" =none)(ha:SE X a fa)(hb:SE X b fb)(hc:SE X c fc)(h1:starEach [a,b,c] X.env=(false,eval a X.env)::starEach [b,c] X.env)(h2:starEach [b,c] X.env=(false,eval b X.env)::starEach [c] X.env)(h3:starEach [c] X.env=(false,eval c X.env)::starEach [] X.env):
  SI X tg (.Call (.Name "range" p) [a,b,c] [] pos) (Qfw fa fb fc):=λH0 A0=>
 (Quc hg hm (Qar (ha H0 A0) (Qar (hb H0 A0) (Qar (hc H0 A0) QcQ h3) h2) h1) h1 (by rw[h2,h3];rfl)).mono λσ H Rr=>exK λU hs F ir rel e q=>by
  refine Qf e λr e1 e=>?_;refine Qf e λr' e2 e=>?_;refine Qf e λr'' e3 e=>?_;refine⟨U,hs,F,r,rel,e1,λv H1 G pp=>⟨U,hs,F,r',rel.ext pp.same,e2,λv' H2 G' pp'=>⟨U,hs,F,r'',(rel.ext pp.same).ext pp'.same,e3,λv'' H3 G'' pp''=>?_⟩⟩⟩;split at e
  ·rename_i i j hr hr' hr'';split at e
   ·rename_i hz;cases e;have rp:=(pp.rp.same pp'.same).same pp''.same;have rp':=pp'.rp.same pp''.same;have rp'':=pp''.rp;rw[hr]at rp;rw[hr']at rp';rw[hr'']at rp'';rw[rp.int_inv,rp'.int_inv,rp''.int_inv];refine⟨i,j,rfl,hz.2,q _ H3 [] ((pp.same.trans pp'.same).trans pp''.same) Qqi (λt ht=>by simp at ht) Qbz.nil ?_⟩;rw[Qkz,QmL];omega
   ·cases e
  ·cases e
theorem Qyr:MtR X "int.bit_length" (λx vs H Q=>∃i,x= .int i/\vs=[]/\Q (.int (Builtin.Int.intBits i)) H):=by
 intro pins s σ H x vs v us Q I rx rv h;obtain⟨i,rfl,rfl,q⟩:=h;obtain⟨t,rfl⟩:=rx;have hus:=rv.zero;subst hus;exact call_int_bit_length ⟨.int _,H,I.tok _,⟨_,rfl⟩,q⟩
noncomputable def Qoo(fa:DE):DE:=λU=>(fa U).bind λr=>match r.d with
 | .int i=>some ⟨.int (Builtin.Int.intBits i),true,[]⟩
 | _=>none
theorem QyH(ha:SE X a fa)(hb:attributeBase a "bit_length" X.env (eval a X.env)=eval a X.env)(hl:(apos.endLine == cpos.line)=true):SE X (.Call (.Attribute a "bit_length" apos) [] [] cpos) (Qoo fa):=λH0 A0=>
 (QAd PySem.F.plainAttrs_int PySem.F.slot_int_bit_length PySem.F.type_int_bit_length Qyr (ha H0 A0) hb hl).mono λσ H Q=>exK λU hs F r' rel e q=>by
  refine Qf e λra e1 e=>?_;refine⟨U,hs,F,ra,rel,e1,λv H1 G p1=>?_⟩;cases hd:ra.d with
  | int i=>
   rw[hd]at e;cases e;have rp:=p1.rp;rw[hd]at rp;rw[rp.int_inv];exact⟨rfl,i,rfl,rfl,q _ _ [] (.flat p1.same .int_mk)⟩
  | _=>rw[hd]at e;cases e
noncomputable def Qsg(fs:DA):DE:=λU=>(fs U).bind λr=>match r.ds with
 | [.lst xs]=>if Qak xs=true then some ⟨.tup xs,true,[]⟩else none
 | _=>none
theorem Qw8(hg:Gl X "tuple")(hm:X.mg "tuple" =none)(ha:SA X (e::es) fs)(he:starEach (e::es) X.env=(false,eval e X.env)::starEach es X.env)(hpl:(backTo pos (starEach es X.env)).any (·.1)=false):
  SE X (.Call (.Name "tuple" p) (e::es) [] pos) (Qsg fs):=λH0 A0=>
 (QiC Qob hg hm Zcd (ha H0 A0) (by decide) (by decide) he hpl).mono λσ H Q=>exK λU hs F r' rel e q=>by
  refine Qf e λra e1 e=>?_;refine⟨U,hs,F,ra,rel,e1,λvs H1 G p1=>?_⟩;split at e
  ·rename_i xs hds;split at e
   ·rename_i hf;cases e;have rp:=p1.rp;rw[hds]at rp;obtain⟨v,rfl,rq⟩:=rp.one;obtain⟨l,ws,L,rfl,hl,rl,zl,el⟩:=rq.lst_inv;have:=rl.Qco hf;subst this;refine⟨l,ws,rfl,.inl ⟨Q1 hl,λc hc=>q _ _ [] (.flat (p1.same.trans (Qbj hc)) (Rp.Qhl Qac (rl.same (Qbj hc))) (by simp only[D.flat];exact hf))⟩⟩
   ·cases e
  ·cases e
end
end HS
namespace HS
open PySem PySem.Spec PyProof.Rows L2
section
variable {X:Cx}{a b c:Expr}{fa fb fc:DE}{pos:Pos}
end
end HS
namespace HS
open PySem PySem.Spec L2
structure FnR where
 n:Nat
 dfl:List D
 den:Den
structure Th where
 N:List Str
 sc:List (Str×NameKind)
 Γ:List (Str×FnR)
 cs:List (Str×Int)
 tr:Stmt->Option DS:=λ_=>none
noncomputable def posOf(x:Str):List Str->Option Nat
 | []=>none
 | y::ys=>if x=y then some 0 else(posOf x ys).map (· +1)
theorem Qgo:∀{x:Str}{ys:List Str}{i:Nat},posOf x ys=some i->ys[i]? =some x
 | x,[],i,h=>by cases h
 | x,y::ys,i,h=>by
  unfold posOf at h;split at h
  ·rename_i e;cases h;subst e;rfl
  ·obtain⟨j,hj,rfl⟩:=Zh.mp h;simpa using Qgo hj
noncomputable def look{α:Type}(x:Str):List (Str×α)->Option α
 | []=>none
 | (y,a)::r=>if x=y then some a else look x r
theorem QbM{α:Type}:∀{x:Str}{l:List (Str×α)},look x l=l.lookup x
 | x,[]=>rfl
 | x,(y,a)::r=>by
  unfold look;rw[Zw];by_cases h:x=y
  ·subst h;simp
  ·rw[if_neg h,QbM];have:(x == y)=false:=by simpa using h
   rw[this]
noncomputable def QwP:NameKind->Bool
 | .local =>true | .cell=>true | .free=>true | _=>false
noncomputable def QwD:NameKind->Bool
 | .local =>true | .cell=>true | _=>false
noncomputable def QCl:NameKind->Bool
 | .globalImplicit=>true | _=>false
noncomputable def isFree:NameKind->Bool
 | .free=>true | _=>false
noncomputable def odd(x:Str):Bool:=decide (x= "__debug__") || decide (x= "__classdict__") || decide (x= "__name__")
noncomputable def Th.slot(Y:Th)(x:Str):Option Nat:=if((look x Y.sc).map QwP).getD false && !odd x then posOf x Y.N else none
noncomputable def Th.QbH(Y:Th)(x:Str):Option Nat:=if((look x Y.sc).map QwD).getD false && !odd x then posOf x Y.N else none
noncomputable def Th.gl(Y:Th)(x:Str):Bool:=((look x Y.sc).map QCl).getD false && !odd x
def Qw3(X:Cx)(x:Str)(r:FnR):Prop:=∃k f fd ps,Qcs X.prog X.w X.K X.mg X.base CX0 k f fd ps (spV X.K r.n r.den)/\Qbf k X.A/\X.mg x=some (.ref f)/\PySem.W.keepIn X.K (.ref f)=true∧
 ∀m,m<=r.dfl.length->∃ds dvs,Binds X.K fd ps ds/\QK dvs ds/\∀H,Rps X.K H (r.dfl.drop (r.dfl.length-m)) dvs []
noncomputable def Qpz:List Str:=["range","enumerate","zip","len","list","min","max","sum","abs","isinstance","int","bool","tuple","str","divmod","sorted","any","all"]
structure CtxB (X:Cx) (Y:Th):Prop where
 N:X.N=Y.N
 nd:Y.N.Nodup
 lc:∀x,look x Y.sc=some .local ->X.env.scope.names.lookup x=some .local
 ce:∀x,look x Y.sc=some .cell->X.env.scope.names.lookup x=some .cell/\X.fn x=true
 fe:∀x,look x Y.sc=some .free->X.env.scope.names.lookup x=some .cell∨X.env.scope.names.lookup x=some .free
 gl:∀x,look x Y.sc=some .globalImplicit->X.env.scope.names.lookup x=some .globalImplicit
 units:X.A.units+64<cLine
 mg:∀x∈Qpz,X.mg x=none
 cs:∀x i,look x Y.cs=some i->∃t,X.mg x=some (.int i t)
structure Qab (X:Cx) (Y:Th):Prop extends CtxB X Y where
 calm:X.calm=true
 pass:PassesOwn (model X.prog X.w) X.A X.env X.xe
 fns:∀x r,look x Y.Γ=some r->Qw3 X x r
 tr:∀st f,Y.tr st=some f->S1 X st f
section
theorem QqX(h:odd x=false):(x == ("__debug__" :Str))=false/\(x == ("__classdict__" :Str))=false/\x≠ "__name__" :=by
 unfold odd at h;simp only[Bool.or_eq_false_iff,decide_eq_false_iff_not]at h;exact⟨by simpa using h.1.1,by simpa using h.1.2,h.2⟩
theorem Qav(ok:CtxB X Y)(h:Y.slot x=some i):PE X (.Name x pos) (QgW i):=by
 unfold Th.slot at h;split at h
 ·rename_i hc;simp only[Zm,ZaI]at hc;obtain⟨h1,h2,_⟩:=QqX hc.2;refine Qz3 (by rw[ok.N];exact Qgo h) ?_ h1 h2;cases q:look x Y.sc with
  | none=>rw[q]at hc;cases hc.1
  | some k=>
   rw[q]at hc;cases k with
   | «local» =>exact .inl (ok.lc x q)
   | cell=>exact .inr (.inl (ok.ce x q).1)
   | free=>exact .inr (ok.fe x q)
   | _=>cases hc.1
 ·cases h
theorem Qcq(ok:CtxB X Y)(h:Y.QbH x=some i):X.N[i]? =some x/\Loc X.env.scope x/\(X.fn x=true∨X.env.scope.names.lookup x=some .local):=by
 unfold Th.QbH at h;split at h
 ·rename_i hc;simp only[Zm,ZaI]at hc;refine⟨by rw[ok.N];exact Qgo h,?_⟩;cases q:look x Y.sc with
  | none=>rw[q]at hc;cases hc.1
  | some k=>
   rw[q]at hc;cases k with
   | «local» =>exact⟨.inl (ok.lc x q),.inr (ok.lc x q)⟩
   | cell=>exact⟨.inr (ok.ce x q).1,.inl (ok.ce x q).2⟩
   | _=>cases hc.1
 ·cases h
theorem Qd9(ok:CtxB X Y)(h:Y.gl x=true):Gl X x/\(x == ("__debug__" :Str))=false/\x≠ "__name__" :=by
 unfold Th.gl at h;simp only[Zm,ZaI]at h;obtain⟨h1,h2,h3⟩:=QqX h.2;refine⟨?_,h1,h3⟩;cases q:look x Y.sc with
 | none=>rw[q]at h;cases h.1
 | some k=>
  rw[q]at h;cases k with
  | globalImplicit=>exact ok.gl x q
  | _=>cases h.1
end
noncomputable def isTup:Expr->Bool
 | .Tuple .. =>true
 | _=>false
noncomputable def QbB:Expr->Option Str
 | .Name x _=>some x
 | _=>none
noncomputable def Qkv(Y:Th):Expr->Option Tg
 | .Name x _=>(Y.QbH x).map .nm
 | .Tuple es _ _=>((es.mapM QbB).bind λxs=>xs.mapM Y.QbH).map .tp
 | _=>none
noncomputable def QrS:CmpOp->Option (D->D->Option D)
 | .Eq=>some gEq | .NotEq=>some gNe | .Lt=>some gLt | .LtE=>some gLe | .Gt=>some gGt | .GtE=>some gGe
 | .Is=>none | .IsNot=>none
 | .In=>none | .NotIn=>none
noncomputable def QuI(x:Str):Option String:=
 if x= "int" then some "int" else if x= "bool" then some "bool" else if x= "list" then some "list" else if x= "tuple" then some "tuple" else if x= "str" then some "str" else none
noncomputable def inner(Y:Th)(scope:Scope):Th:={N:=(scope.names.filter λy=>QwP y.2).map (·.1),sc:=scope.names,Γ:=Y.Γ,cs:=Y.cs}
noncomputable def Qjw(Y:Th)(scope:Scope):List (Option Nat):=(inner Y scope).N.map λx=>if((look x scope.names).map isFree).getD false then posOf x Y.N else none
noncomputable def Qlf(Y:Th)(scope:Scope)(t:Tg):Bool:=(scope.kind == .function) && decide (inner Y scope).N.Nodup &&
 (scope.names.all λy=>match y.2 with
  | .cell=>decide (look y.1 scope.names=some .cell)
  | .local =>decide (look y.1 scope.names=some .local)
  | .free=>match look y.1 Y.sc with
   | some .cell=>true
   | some .free=>true
   | _=>false
  | _=>true) &&
 t.slots.all λj=>match (Qjw Y scope)[j]? with
  | some (some _)=>false
  | _=>true
noncomputable def QBO:List Expr->Bool
 | []=>true | [_]=>true | _=>false
noncomputable def bf1(x:Str)(fa:DE):Option DE:=
 if x= "len" then some (dBf Q2 (Qa fa Qe))else
 if x= "list" then some (dList (Qa fa Qe))else
 if x= "abs" then some (dBf QpD (Qa fa Qe))else
 if x= "min" then some (dBf QjM (Qa fa Qe))else
 if x= "max" then some (dBf QhL (Qa fa Qe))else
 if x= "sum" then some (dBf Qjl (Qa fa Qe))else
 if x= "tuple" then some (Qsg (Qa fa Qe))else
 none
noncomputable def bf2(x:Str)(fa fb:DE):Option DE:=
 if x= "min" then some (dBf QlL (Qa fa (Qa fb Qe)))else
 if x= "max" then some (dBf Qll (Qa fa (Qa fb Qe)))else
 none
mutual
noncomputable def Qu(n:Nat)(Y:Th)(e:Expr):Option DE:=match n with
 | 0=>none
 | n+1=>match e with
  | .Name x _=>match Y.slot x with
   | some i=>some (Qg i)
   | none=>if Y.gl x then(look x Y.cs).map λi=>dC (.int i)else none
  | .Constant (.int i) _ _=>some (dC (.int i))
  | .Constant (.bool b) _ _=>some (dC (.bl b))
  | .Constant .none _ _=>some (dC .non)
  | .Constant (.str x) _ _=>some (dC (.str x))
  | .BinOp a op b _=>(Qu n Y a).bind λfa=>(Qu n Y b).bind λfb=>match op with
   | .Add=>some (QE fa fb)
   | .Mult=>some (QZ fa fb)
   | .Sub=>some (dOp Qax fa fb)
   | .FloorDiv=>some (dOp Qa4 fa fb)
   | .Mod=>some (dOp Q9 fa fb)
   | .Pow=>some (dOp Qry fa fb)
   | .RShift=>some (dOp QoD fa fb)
   | _=>none
  | .UnaryOp .USub a _=>(Qu n Y a).map Qh6
  | .UnaryOp .Not a _=>(Qu n Y a).map QhZ
  | .BoolOp .And [a] _=>Qu n Y a
  | .BoolOp .And (a::b::r) p=>(Qu n Y a).bind λfa=>(Qu n Y (.BoolOp .And (b::r) p)).map λfb=>Qca fa fb
  | .BoolOp .Or [a] _=>Qu n Y a
  | .BoolOp .Or (a::b::r) p=>(Qu n Y a).bind λfa=>(Qu n Y (.BoolOp .Or (b::r) p)).map λfb=>dOr fa fb
  | .Compare a [op] [b] _=>(Qu n Y a).bind λfa=>(Qu n Y b).bind λfb=>(QrS op).map λg=>dOp g fa fb
  | .IfExp c a b _=>(Qa1 n Y c).bind λg=>(Qu n Y a).bind λfa=>(Qu n Y b).map λfb=>dIf g fa fb
  | .Tuple es _ _=>(QbI n Y es).map QaO
  | .List es _=>(QbI n Y es).map Qad
  | .Subscript a (.Slice lo hi none _) _=>(Qu n Y a).bind λfa=>(QlB n Y lo).bind λfl=>(QlB n Y hi).map λfh=>QbX fa fl fh
  | .Subscript a (.Slice none none (some k) _) _=>(Qu n Y a).bind λfa=>(Qu n Y k).map λfk=>Qoz fa fk
  | .Subscript a b _=>(Qu n Y a).bind λfa=>(Qu n Y b).map λfb=>Qr fa fb
  | .Call (.Name x _) args [] _=>if Y.gl x then(match look x Y.Γ with
    | some r=>if r.n<=args.length+r.dfl.length/\args.length<=r.n then(QbI n Y args).map λfs=>Qh r.n r.den (r.dfl.drop (r.dfl.length-(r.n-args.length))) fs else none
    | none=>Qol n Y x args)else none
  | .Call (.Attribute (.Name x p) m apos) [] [] cpos=>if m= "bit_length" /\(apos.endLine == cpos.line)=true then(Qu n Y (.Name x p)).map Qoo else none
  | .ListComp elt [⟨tg,iter,ifs,0⟩] scope _=>(Qkv (inner Y scope) tg).bind λt=>if Qlf Y scope t && QBO ifs then
    (Qig n Y tg iter).bind λfi=>(Qhe n (inner Y scope) ifs).bind λft=>(Qu n (inner Y scope) elt).map λfe=>QF fi t (Qjw Y scope) ft fe else none
  | _=>none
noncomputable def Qol(n:Nat)(Y:Th)(x:Str)(args:List Expr):Option DE:=match n with
 | 0=>none
 | n+1=>match args with
  | [a]=>(Qu n Y a).bind λfa=>bf1 x fa
  | [a,b]=>if x= "isinstance" then(Qu n Y a).bind λfa=>match b with
    | .Name y _=>if Y.gl y then(QuI y).map λT=>QmX T fa else none
    | _=>none
   else(Qu n Y a).bind λfa=>(Qu n Y b).bind λfb=>bf2 x fa fb
  | _=>none
noncomputable def Qa1(n:Nat)(Y:Th)(e:Expr):Option DT:=match n with
 | 0=>none
 | n+1=>match e with
  | .UnaryOp .Not a _=>(Qa1 n Y a).map Qcv
  | .BoolOp .And [a] _=>Qa1 n Y a
  | .BoolOp .And (a::b::r) p=>(Qa1 n Y a).bind λfa=>(Qa1 n Y (.BoolOp .And (b::r) p)).map λfb=>QhX fa fb
  | .BoolOp .Or [a] _=>Qa1 n Y a
  | .BoolOp .Or (a::b::r) p=>(Qa1 n Y a).bind λfa=>(Qa1 n Y (.BoolOp .Or (b::r) p)).map λfb=>bOr fa fb
  | .Compare a [op] [b] _=>(Qu n Y a).bind λfa=>(Qu n Y b).bind λfb=>(QrS op).map λg=>QB (dOp g fa fb)
  | .BoolOp _ _ _=>none
  | .IfExp _ _ _ _=>none
  | .Compare _ _ _ _=>none
  | e=>(Qu n Y e).map QB
noncomputable def Qhe(n:Nat)(Y:Th)(es:List Expr):Option DT:=match n with
 | 0=>none
 | n+1=>match es with
  | []=>some QN
  | [c]=>Qa1 n Y c
  | _=>none
noncomputable def QbI(n:Nat)(Y:Th)(es:List Expr):Option DA:=match n with
 | 0=>none
 | n+1=>match es with
  | []=>some Qe
  | e::es=>(Qu n Y e).bind λfa=>(QbI n Y es).map λfs=>Qa fa fs
noncomputable def QlB(n:Nat)(Y:Th)(e:Option Expr):Option DO:=match n with
 | 0=>none
 | n+1=>match e with
  | none=>some Qa9
  | some e=>(Qu n Y e).map Qba
noncomputable def Qig(n:Nat)(Y:Th)(tg e:Expr):Option DI:=match n with
 | 0=>none
 | n+1=>match e with
  | .Call (.Name x _) args [] _=>if Y.gl x && (look x Y.Γ).isNone then(match args with
    | [a]=>if x= "range" then(Qu n Y a).map QaH else
     if x= "enumerate" then(if isTup tg then(Qu n Y a).map QdX else none)else
     (Qu n Y e).map QX
    | [a,b,c]=>
     if x= "range" then(Qu n Y a).bind λfa=>(Qu n Y b).bind λfb=>(Qu n Y c).map λfc=>Qfw fa fb fc else
     if x= "zip" then(if isTup tg then(Qu n Y a).bind λfa=>(Qu n Y b).bind λfb=>(Qu n Y c).map λfc=>Qhj fa fb fc else none)else
     (Qu n Y e).map QX
    | [a,b]=>
     if x= "range" then(Qu n Y a).bind λfa=>(Qu n Y b).map λfb=>Qei fa fb else
     if x= "zip" then(if isTup tg then(Qu n Y a).bind λfa=>(Qu n Y b).map λfb=>Qaz fa fb else none)else
     (Qu n Y e).map QX
    | _=>(Qu n Y e).map QX)else(Qu n Y e).map QX
  | e=>(Qu n Y e).map QX
end
theorem Qa2{α β γ:Type}{x:Option α}{y:α->Option β}{k:α->β->γ}{r:γ}(e:(x.bind λa=>(y a).map λb=>k a b)=some r):∃a b,x=some a/\y a=some b/\k a b=r:=by
 refine Qf e λa h1 e=>?_;obtain⟨b,h2,e⟩:=Zh.mp e;exact⟨a,b,h1,h2,e⟩
theorem bindR{α β γ:Type}{x:Option α}{y:α->Option β}{k:α->β->γ}{r:γ}{M:γ->Prop}(e:(x.bind λa=>(y a).map λb=>k a b)=some r)(g:∀a b,x=some a->y a=some b->M (k a b)):M r:=by
 obtain⟨a,b,h1,h2,rfl⟩:=Qa2 e;exact g a b h1 h2
theorem QaM(h:Qu n Y e=some f)(es:List Expr)(env:Env):starEach (e::es) env=(false,eval e env)::starEach es env:=by
 cases n with
 | zero=>exact nn h
 | succ n=>cases e<;>first | rfl | (exact nn h)
theorem QqD:∀{n:Nat}{Y:Th}{es:List Expr}{f:DA},QbI n Y es=some f->∀(pos:Pos) (env:Env),(backTo pos (starEach es env)).any (·.1)=false
 | 0,_,_,_,h,_,_=>by simp[QbI]at h
 | n+1,_,[],_,h,_,_=>rfl
 | n+1,_,e::es,_,h,pos,env=>by
  simp only[QbI]at h;obtain⟨fa,fs,h1,h2,_⟩:=Qa2 h;rw[QaM h1];have:=QqD h2 pos env;simpa[backTo]using this
theorem Qq2(h:Qu n Y b=some f):QjG b:=by
 cases n with
 | zero=>exact nn h
 | succ n=>cases b<;>first | (intro o i;rfl) | (exact nn h)
theorem QyT(h:Qu n Y e=some f)(env:Env):∀x,foldedSetIterable e env x=pure x:=by
 cases n with
 | zero=>exact nn h
 | succ n=>cases e<;>first | (intro x;rfl) | (exact nn h)
theorem Qtc(h:Qu n Y e=some f)(op:CmpOp):behindInMarks op e=false:=by
 cases n with
 | zero=>exact nn h
 | succ n=>cases e<;>first | rfl | (exact nn h)
theorem Qed{env:Env}:∀{names:List (Str×NameKind)}{x:Str},names.lookup x=some .cell→
  (names.map λ(n,k)=>if(k == NameKind.free && env.scope.kind == .function && env.kindOf n == some .cell)then(n,NameKind.cell)else(n,k)).lookup x=some .cell
 | [],_,h=>by simp at h
 | (n,k)::r,x,h=>by
  have ih:= @Qed env r x;rw[ZJ];cases hx:x == n with
  | true=>
   simp only[Zw,hx]at h;cases h;dsimp only;split<;>simp[Zw,hx]
  | false=>
   simp only[Zw,hx]at h;dsimp only;split<;>(simp only[Zw,hx];exact ih h)
theorem QpQ{X:Cx}{Y:Th}{scope:Scope}{t:Tg}(ok:Qab X Y)(h:Qlf Y scope t=true):Qe0 X (inner Y scope).N scope/\Qoi X (inner Y scope).N scope (Qjw Y scope) t.slots/\∀cl C fp s3 H3,Qab (cxc X (inner Y scope).N scope cl C fp s3 H3) (inner Y scope):=by
 unfold Qlf at h;simp only[Zm,decide_eq_true_eq]at h;obtain⟨⟨⟨h1,h2⟩,h3⟩,h4⟩:=h;have hk:scope.kind= .function:=by simpa using h1
 have each:∀y∈scope.names,(y.2= .cell->scope.names.lookup y.1=some .cell)/\(y.2= .local ->scope.names.lookup y.1=some .local)/\(y.2= .free->X.env.kindOf y.1=some .cell∨X.env.kindOf y.1=some .free):=λy hy=>by
  have:=ZaF.mp h3 y hy;obtain⟨y,k⟩:=y;cases k with
  | cell=>exact⟨λ_=>(by rw[← QbM];simpa using this),λz=>(by cases z),λz=>(by cases z)⟩
  | «local» =>exact⟨λz=>(by cases z),λ_=>by rw[← QbM];simpa using this,λz=>by cases z⟩
  | free=>
   refine⟨λz=>(by cases z),λz=>(by cases z),λ_=>?_⟩;dsimp only at this;split at this
   ·rename_i q;exact .inl (ok.ce _ q).1
   ·rename_i q;exact ok.fe _ q
   ·cases this
  | _=>exact⟨λz=>(by cases z),λz=>(by cases z),λz=>(by cases z)⟩
 have S:Qe0 X (inner Y scope).N scope:=⟨hk,λy hy=>(each y hy).1,λy hy=>(each y hy).2.1,λy hy=>(each y hy).2.2⟩;refine⟨S,⟨by unfold Qjw;simp,λj i e=>?_,λj i e hj=>?_⟩,λcl C fp s3 H3=>⟨⟨rfl,h2,λx e=>?_,λx e=>?_,λx e=>?_,λx e=>?_,ok.units,ok.mg,ok.cs⟩,ok.calm,PassesOwn.never,ok.fns,λ_ _ e=>nomatch e⟩⟩
 ·unfold Qjw at e;rw[Zr]at e;cases q:(inner Y scope).N[j]? with
  | none=>rw[q]at e;cases e
  | some x=>
   rw[q]at e;simp only[ZV,Option.some.injEq]at e;split at e
   ·rename_i hf;cases hl:look x scope.names with
    | none=>rw[hl]at hf;cases hf
    | some k=>
     rw[hl]at hf;cases k with
     | free=>
      rw[QbM]at hl;exact⟨x,rfl,hl,by rw[ok.N];exact Qgo e,(each (x,.free) (Zap hl)).2.2 rfl⟩
     | _=>cases hf
   ·cases e
 ·have:=ZaF.mp h4 j hj;rw[e]at this;cases this
 ·have e':scope.names.lookup x=some .local :=by rw[← QbM];exact e
  exact lookup_relabel_local e'
 ·have e':scope.names.lookup x=some .cell:=by rw[← QbM];exact e
  exact⟨Qed e',decide_eq_true e'⟩
 ·have e':scope.names.lookup x=some .free:=by rw[← QbM];exact e
  exact QcF e'
 ·have e':scope.names.lookup x=some .globalImplicit:=by rw[← QbM];exact e
  show(relabel scope X.env).names.lookup x=some .globalImplicit;unfold relabel
  have gen:∀{names:List (Str×NameKind)},names.lookup x=some .globalImplicit→
    (names.map λ(n,k)=>if(k == NameKind.free && X.env.scope.kind == .function && X.env.kindOf n == some .cell)then(n,NameKind.cell)else(n,k)).lookup x=some .globalImplicit:=by
   intro names
   induction names with
   | nil=>intro z;simp at z
   | cons y r ih=>
    intro z;obtain⟨n,k⟩:=y;rw[ZJ];cases hx:x == n with
    | true=>
     simp only[Zw,hx]at z;cases z;simp[Zw,hx]
    | false=>
     simp only[Zw,hx]at z;dsimp only;split<;>(simp only[Zw,hx];exact ih z)
  exact gen e'
theorem Qor(ok:Qab X Y)(h:Qkv Y tg=some t):SG X tg t:=by
 have hN:X.N.Nodup:=by rw[ok.N];exact ok.nd
 cases tg with
 | Name x pos=>
  change Option.map _ _=_ at h;refine mapR h λi hi=>?_;obtain⟨h1,h2,h3⟩:=Qcq ok.toCtxB hi;exact Qyi (Qq6 hN h1 h2 h3)
 | Tuple es k pos=>
  change Option.map _ _=_ at h;refine mapR h λis hi=>?_;refine Qf hi λxs h1 h2=>?_;have key:∀(es:List Expr) (xs:List Str) (is:List Nat),es.mapM QbB=some xs->xs.mapM Y.QbH=some is->PGs X es (QlU is)/\(assignEach es X.env).length=is.length/\(assignEach es X.env).findIdx? (·.1)=none:=by
   intro es
   induction es with
   | nil=>
    intro xs is h1 h2;cases h1;cases h2;exact⟨QxU,rfl,rfl⟩
   | cons e es ih=>
    intro xs is h1 h2;rw[List.mapM_cons]at h1;refine Qf h1 λx hx h1=>?_;refine Qf h1 λys hy h1=>?_;cases h1;rw[List.mapM_cons]at h2;refine Qf h2 λi hi h2=>?_;refine Qf h2 λjs hj h2=>?_;cases h2;obtain⟨a1,a2,a3⟩:=ih ys js hy hj;cases e with
    | Name y p=>
     cases hx;obtain⟨g1,g2,g3⟩:=Qcq ok.toCtxB hi;refine⟨QvP (Qq6 hN g1 g2 g3) a1 rfl,?_,?_⟩
     ·show(assignEach es X.env).length+1=_;rw[a2];rfl
     ·show List.findIdx? (·.1) ((false,assign (.Name x p) X.env)::assignEach es X.env)=none;rw[List.findIdx?_cons];simp only[a3];rfl
    | _=>cases hx
  obtain⟨a1,a2,a3⟩:=key es xs is h1 h2;exact QyX ok.calm a1 a2 a3
 | _=>exact nn h
theorem QrV{f:Int->Int->Bool}:∀a b d,gI (λi j=>some (.bl (f i j))) a b=some d->∃k,d= .bl k:=λa b d h=>by
 obtain⟨i,j,_,_,e⟩:=QsY h;cases e;exact⟨_,rfl⟩
theorem Qs0(ok:Qab X Y)(h:QrS op=some g):∃r,OpR X (compareOp op) r/\QcE X.K g r/\∀a b d,g a b=some d->∃k,d= .bl k:=by
 cases op<;>cases h
 ·exact⟨_,Qzq ok.units,QBs,λa b d h=>by unfold gEq at h;split at h<;>cases h;exact⟨_,rfl⟩⟩
 ·exact⟨_,QAp ok.units,QBt,λa b d h=>by unfold gNe at h;split at h<;>cases h;exact⟨_,rfl⟩⟩
 ·exact⟨_,QBu,QA9,QrV⟩
 ·exact⟨_,QBS,QBy,QrV⟩
 ·exact⟨_,QA6,QBz,QrV⟩
 ·exact⟨_,QA8,QAY,QrV⟩
structure QlD (n:Nat):Prop where
 E:∀X Y e f,Qab X Y->Qu n Y e=some f->SE X e f
 B:∀X Y x args f p pos,Qab X Y->Y.gl x=true->Qol n Y x args=some f->SE X (.Call (.Name x p) args [] pos) f
 T:∀X Y e f,Qab X Y->Qa1 n Y e=some f->ST X e f
 Ts:∀X Y e f,Qab X Y->Qhe n Y e=some f->QoA X e f
 A:∀X Y e f,Qab X Y->QbI n Y e=some f->SA X e f
 O:∀X Y e f,Qab X Y->QlB n Y e=some f->SO X e f
 I:∀X Y tg e f,Qab X Y->Qig n Y tg e=some f->SI X tg e f/\∀x,foldedSetIterable e X.env x=pure x
theorem callArgs{X:Cx}{n:Nat}{Y:Th}{es:List Expr}{fs:DA}(h:QbI n Y es=some fs){e:Expr}{es':List Expr}(he:es=e::es')(pos:Pos):starEach (e::es') X.env=(false,eval e X.env)::starEach es' X.env/\(backTo pos (starEach es' X.env)).any (·.1)=false:=by
 subst he;cases n with
 | zero=>simp[QbI]at h
 | succ n=>
  simp only[QbI]at h;obtain⟨fa,fs',h1,h2,_⟩:=Qa2 h;exact⟨QaM h1 es' X.env,QqD h2 pos X.env⟩
theorem QBA(ih:QlD n):∀X Y e f,Qab X Y->Qu (n+1) Y e=some f->SE X e f:=by
  intro X Y e f ok h;cases e with
  | Name x pos=>
    (conv at h=>lhs;whnf)
    cases q:Y.slot x with
    | some i=>rw[q]at h;cases h;exact Qdg (Qav ok.toCtxB q)
    | none=>
      rw[q]at h;dsimp only at h;split at h
      · rename_i hg
        refine mapR h λi hi=>?_;obtain⟨g1,g2,g3⟩:=Qd9 ok.toCtxB hg;obtain⟨t,hm⟩:=ok.cs x i hi;exact Ql8 (v:= .int i) (Qxy g1 hm ⟨t,rfl⟩ g2) (λ_ _=> .int_mk) rfl
      · cases h
  | Constant c k pos=>
    cases c with
    | int i=>(conv at h=>lhs;whnf);cases h;exact Ql8 QAO (λ_ _=> .int_mk) rfl
    | bool b=>(conv at h=>lhs;whnf);cases h;exact Ql8 QwK (λ_ _=> .QdK) rfl
    | none=>(conv at h=>lhs;whnf);cases h;exact Ql8 Qzo (λ_ _=> .Qle) rfl
    | str x=>(conv at h=>lhs;whnf);cases h;exact Ql8 QyU (λ_ _=> .str_mk) rfl
    | _=>exact nn h
  | BinOp a op b pos=>
    (conv at h=>lhs;whnf)
    refine Qf h λfa h1 h=>?_;refine Qf h λfb h2 h=>?_;have ha:=ih.E X Y a fa ok h1;have hb:=ih.E X Y b fb ok h2;cases op with
    | Add=>cases h;exact QzK ha hb
    | Mult=>cases h;exact Qzx ha hb
    | Sub=>cases h;exact Qk7 QAr QtB ha hb
    | FloorDiv=>cases h;exact Qk7 Qx0 Qz5 ha hb
    | Mod=>cases h;exact Qk7 QxW QAP ha hb
    | Pow=>cases h;exact Qk7 QxQ QzM ha hb
    | RShift=>cases h;exact Qk7 QAm QAF ha hb
    | _=>cases h
  | UnaryOp op a pos=>
    cases op with
    | USub=>
      (conv at h=>lhs;whnf)
      refine mapR h λfa h1=>?_;exact Qy6 (ih.E X Y a fa ok h1)
    | Not=>
      (conv at h=>lhs;whnf)
      refine mapR h λfa h1=>?_;exact QtN (ih.E X Y a fa ok h1)
    | _=>exact nn h
  | BoolOp op es pos=>
    cases op with
    | And=>
      match es,h with
      | [],h=>exact nn h
      | [a],h=>(conv at h=>lhs;whnf);exact QpE (ih.E X Y a f ok h)
      | a::b::r,h=>
        (conv at h=>lhs;whnf)
        refine bindR h λfa fb h1 h2=>?_;exact Qs6 (ih.E X Y a fa ok h1) (ih.E X Y _ fb ok h2)
    | Or=>
      match es,h with
      | [],h=>exact nn h
      | [a],h=>(conv at h=>lhs;whnf);exact QpE (ih.E X Y a f ok h)
      | a::b::r,h=>
        (conv at h=>lhs;whnf)
        refine bindR h λfa fb h1 h2=>?_;exact QBC (ih.E X Y a fa ok h1) (ih.E X Y _ fb ok h2)
  | Compare a ops bs pos=>
    match ops,bs,h with
    | [op],[b],h=>
      (conv at h=>lhs;whnf)
      refine Qf h λfa h1 h=>?_;refine bindR h λfb g h2 h3=>?_;obtain⟨r,o1,o2,_⟩:=Qs0 ok h3;exact Qzm o1 o2 (ih.E X Y a fa ok h1) (ih.E X Y b fb ok h2) (Qtc h2 op)
    | [],_,h=>exact nn h
    | [_],[],h=>exact nn h
    | [_],_::_::_,h=>exact nn h
    | _::_::_,_,h=>exact nn h
  | IfExp c a b pos=>
    (conv at h=>lhs;whnf)
    refine Qf h λg h1 h=>?_;refine bindR h λfa fb h2 h3=>?_;exact QBm (ih.T X Y c g ok h1) (ih.E X Y a fa ok h2) (ih.E X Y b fb ok h3)
  | Tuple es k pos=>
    (conv at h=>lhs;whnf)
    refine mapR h λfs h1=>?_;exact Qz1 (ih.A X Y es fs ok h1)
  | List es pos=>
    (conv at h=>lhs;whnf)
    refine mapR h λfs h1=>?_;exact QzQ (ih.A X Y es fs ok h1)
  | Subscript a b pos=>
    by_cases hb:∃lo hi p2,b= .Slice lo hi none p2
    · obtain⟨lo,hi,p2,rfl⟩:=hb
      (conv at h=>lhs;whnf)
      refine Qf h λfa h1 h=>?_;refine bindR h λfl fh h2 h3=>?_;exact Qzv (ih.E X Y a fa ok h1) (ih.O X Y lo fl ok h2) (ih.O X Y hi fh ok h3)
    · by_cases hk:∃k p2,b= .Slice none none (some k) p2
      · obtain⟨k,p2,rfl⟩:=hk
        (conv at h=>lhs;whnf)
        refine bindR h λfa fk h1 h2=>?_;exact QzX (ih.E X Y a fa ok h1) (ih.E X Y k fk ok h2)
      · have h':((Qu n Y a).bind λfa=>(Qu n Y b).map λfb=>Qr fa fb)=some f:=by
          cases b<;>first
            | (exact h)
            | (rename_i lo hi st p2;cases lo<;>cases hi<;>cases st<;>first | (exact absurd ⟨_,_,_,rfl⟩ hb) | (exact absurd ⟨_,_,rfl⟩ hk) | (exact h))
        refine bindR h' λfa fb h1 h2=>?_;exact QzP (ih.E X Y a fa ok h1) (ih.E X Y b fb ok h2) (Qq2 h2)
  | Call fn args kws pos=>
    cases fn with
    | Name x p=>
     cases kws with
     | cons k ks=>exact nn h
     | nil=>
      have h:(if Y.gl x then(match look x Y.Γ with | some r=>if r.n<=args.length+r.dfl.length/\args.length<=r.n then(QbI n Y args).map λfs=>Qh r.n r.den (r.dfl.drop (r.dfl.length-(r.n-args.length))) fs else none | none=>Qol n Y x args)else none)=some f:=h;split at h
      · rename_i hg
        obtain⟨g1,g2,g3⟩:=Qd9 ok.toCtxB hg;split at h
        · rename_i r hr
          split at h
          · rename_i hn
            refine mapR h λfs h1=>?_;obtain⟨k,fa,fd,ps,F1,F2,F3,F4,F5⟩:=ok.fns x r hr;obtain⟨ds,dvs,b1,b2,b3⟩:=F5 (r.n-args.length) ⋯;cases args with
            | nil=>
              cases n with
              | zero=>simp[QbI]at h1
              | succ n=>
                simp only[QbI]at h1;cases h1;exact Qvx F1 F2 g1 F3 F4 b1 b2 b3 g2
            | cons e es=>
              obtain⟨s1,s2⟩:=callArgs (X:=X) h1 rfl pos;exact Qxf F1 F2 g1 F3 F4 b1 b2 b3 (ih.A X Y _ fs ok h1) g2 s1 s2
          · cases h
        · exact ih.B X Y x args f p pos ok hg h
      · cases h
    | Attribute o m apos=>
      cases o with
      | Name x p=>
        cases args with
        | nil=>
          cases kws with
          | nil=>
            have h:(if m= "bit_length" /\(apos.endLine == pos.line)=true then(Qu n Y (.Name x p)).map Qoo else none)=some f:=h;split at h
            · rename_i hc
              refine mapR h λfa h1=>?_;obtain⟨rfl,hl⟩:=hc;exact QyH (ih.E X Y _ fa ok h1) rfl hl
            · cases h
          | cons _ _=>exact nn h
        | cons _ _=>exact nn h
      | _=>exact nn h
    | _=>exact nn h
  | ListComp elt gens scope pos=>
    match gens,h with
    | [⟨tg,iter,ifs,k⟩],h=>
      by_cases hk:k=0
      · subst hk
        (conv at h=>lhs;whnf)
        refine Qf h λt ht h=>?_;split at h
        · rename_i hc
          simp only[Zm]at hc;refine Qf h λfi h1 h=>?_;refine bindR h λft fe h2 h3=>?_;obtain⟨S,cap,inn⟩:=QpQ ok hc.1;obtain⟨i1,i2⟩:=ih.I X Y tg iter fi ok h1;exact QxZ ok.calm S i1 cap (λcl C fp s3 H3=>⟨Qor (inn cl C fp s3 H3) ht,ih.Ts _ _ ifs ft (inn cl C fp s3 H3) h2,ih.E _ _ elt fe (inn cl C fp s3 H3) h3⟩) i2
        · cases h
      · exfalso
        cases k with
        | ofNat k=>
          cases k with
          | zero=>exact hk rfl
          | succ k=>exact nn h
        | negSucc k=>exact nn h
    | [],h=>exact nn h
    | ⟨_,_,_,.ofNat 0⟩::_::_,h=>exact nn h
    | ⟨_,_,_,.ofNat (k+1)⟩::_::_,h=>exact nn h
    | ⟨_,_,_,.negSucc k⟩::_::_,h=>exact nn h
  | _=>exact nn h
theorem QyQ(ok:Qab X Y)(g1:Gl X x)(sa:SA X [a] (Qa fa Qe))(st:starEach [a] X.env=(false,eval a X.env)::starEach [] X.env)(h:bf1 x fa=some f):SE X (.Call (.Name x p) [a] [] pos) f:=by
 unfold bf1 at h;by_cases e:x= "len"
 ·rw[if_pos e]at h;cases h;subst e;have hm:=ok.mg "len" (by decide+kernel);exact Qh5 QpG Qze g1 hm PySem.boot_len sa (by decide) (by decide) st rfl
 rw[if_neg e]at h;clear e;by_cases e:x= "list"
 ·rw[if_pos e]at h;cases h;subst e;have hm:=ok.mg "list" (by decide+kernel);exact Qw6 g1 hm sa st rfl
 rw[if_neg e]at h;clear e;by_cases e:x= "abs"
 ·rw[if_pos e]at h;cases h;subst e;have hm:=ok.mg "abs" (by decide+kernel);exact Qh5 QuV Qzc g1 hm PyProof.Rows.boot_abs sa (by decide) (by decide) st rfl
 rw[if_neg e]at h;clear e;by_cases e:x= "min"
 ·rw[if_pos e]at h;cases h;subst e;have hm:=ok.mg "min" (by decide+kernel);exact Qh5 (Qs8 ok.calm) Qw9 g1 hm PyProof.Rows.boot_min sa (by decide) (by decide) st rfl
 rw[if_neg e]at h;clear e;by_cases e:x= "max"
 ·rw[if_pos e]at h;cases h;subst e;have hm:=ok.mg "max" (by decide+kernel);exact Qh5 (Qt4 ok.calm) QyB g1 hm PyProof.Rows.boot_max sa (by decide) (by decide) st rfl
 rw[if_neg e]at h;clear e;by_cases e:x= "sum"
 ·rw[if_pos e]at h;cases h;subst e;have hm:=ok.mg "sum" (by decide+kernel);exact Qh5 (Qup ok.calm) Qxw g1 hm PyProof.Rows.boot_sum sa (by decide) (by decide) st rfl
 rw[if_neg e]at h;clear e;by_cases e:x= "tuple"
 ·rw[if_pos e]at h;cases h;subst e;have hm:=ok.mg "tuple" (by decide+kernel);exact Qw8 g1 hm sa st rfl
 rw[if_neg e]at h;clear e;cases h
theorem QAH(ok:Qab X Y)(g1:Gl X x)(sa:SA X [a,b] (Qa fa (Qa fb Qe)))(st:starEach [a,b] X.env=(false,eval a X.env)::starEach [b] X.env)(pl:(backTo pos (starEach [b] X.env)).any (·.1)=false)(h:bf2 x fa fb=some f):SE X (.Call (.Name x p) [a,b] [] pos) f:=by
 unfold bf2 at h;by_cases e:x= "min"
 ·rw[if_pos e]at h;cases h;subst e;have hm:=ok.mg "min" (by decide+kernel);exact Qh5 (Qt8 ok.calm) Qw5 g1 hm PyProof.Rows.boot_min sa (by decide) (by decide) st pl
 rw[if_neg e]at h;clear e;by_cases e:x= "max"
 ·rw[if_pos e]at h;cases h;subst e;have hm:=ok.mg "max" (by decide+kernel);exact Qh5 (QsE ok.calm) Qyq g1 hm PyProof.Rows.boot_max sa (by decide) (by decide) st pl
 rw[if_neg e]at h;clear e;cases h
theorem QBI(ih:QlD n):∀X Y x args f p pos,Qab X Y->Y.gl x=true->Qol (n+1) Y x args=some f->SE X (.Call (.Name x p) args [] pos) f:=by
 intro X Y x args f p pos ok hg h;obtain⟨g1,g2,g3⟩:=Qd9 ok.toCtxB hg
 match args,h with
 | [],h=>exact nn h
 | [a],h=>
  change((Qu n Y a).bind λfa=>bf1 x fa)=some f at h;refine Qf h λfa h1 h=>?_;have ha:=ih.E X Y a fa ok h1;have st:=QaM h1 [] X.env;exact QyQ ok g1 (Qhs ha Qlj st) st h
 | [a,b],h=>
  change(if x= "isinstance" then(Qu n Y a).bind λfa=>(match b with | .Name y _=>if Y.gl y then(QuI y).map λT=>QmX T fa else none | _=>none)else(Qu n Y a).bind λfa=>(Qu n Y b).bind λfb=>bf2 x fa fb)=some f at h;split at h
  ·rename_i e;refine Qf h λfa h1 h=>?_;have ha:=ih.E X Y a fa ok h1;split at h
   ·rename_i y p2;split at h
    ·rename_i hy;refine mapR h λT hT=>?_;obtain⟨y1,y2,y3⟩:=Qd9 ok.toCtxB hy;clear h;subst e;refine QzH g1 (ok.mg _ (by decide+kernel)) ha ?_ (QaM h1 _ X.env);unfold QuI at hT;split at hT
     ·rename_i e;cases hT;subst e;exact Qha y1 (ok.mg _ (by decide+kernel)) PyProof.Rows.boot_int rfl
     ·split at hT
      ·rename_i e;cases hT;subst e;exact Qha y1 (ok.mg _ (by decide+kernel)) PyProof.Rows.boot_bool rfl
      ·split at hT
       ·rename_i e;cases hT;subst e;exact Qha y1 (ok.mg _ (by decide+kernel)) Zbw rfl
       ·split at hT
        ·rename_i e;cases hT;subst e;exact Qha y1 (ok.mg _ (by decide+kernel)) Zcd rfl
        ·split at hT
         ·rename_i e;cases hT;subst e;exact Qha y1 (ok.mg _ (by decide+kernel)) PyProof.Rows.boot_str rfl
         ·cases hT
    ·cases h
   ·cases h
  ·refine Qf h λfa h1 h=>?_;refine Qf h λfb h2 h=>?_;have ha:=ih.E X Y a fa ok h1;have hb:=ih.E X Y b fb ok h2;have sb:SA X [b] (Qa fb Qe):=Qhs hb Qlj (QaM h2 [] X.env);have sa:SA X [a,b] (Qa fa (Qa fb Qe)):=Qhs ha sb (QaM h1 [b] X.env);have pl:(backTo pos (starEach [b] X.env)).any (·.1)=false:=by rw[QaM h2 [] X.env];rfl
   exact QAH ok g1 sa (QaM h1 [b] X.env) pl h
 | _::_::_::_,h=>exact nn h
theorem QAS{n:Nat}(ih:QlD n):∀X Y e f,Qab X Y->Qa1 (n+1) Y e=some f->ST X e f:=by
 intro X Y e f ok h;have dflt:(Qu n Y e).map QB=some f->(∀whole,isTrue e X.env whole=(do let v ← whole;standAt e.pos;holding [v] (truthy v)))->ST X e f:=λh he=>by
  refine mapR h λfa h1=>?_;exact QzJ (ih.E X Y e fa ok h1) he
 cases e with
 | UnaryOp op a pos=>
  cases op with
  | Not=>
   change(Qa1 n Y a).map Qcv=some f at h;refine mapR h λfa h1=>?_;exact QzY (ih.T X Y a fa ok h1)
  | _=>exact dflt h λ_=>rfl
 | BoolOp op es pos=>
  cases op with
  | And=>
   match es,h with
   | [],h=>exact nn h
   | [a],h=>exact(Qxl (ih.T X Y a f ok h)).st
   | a::b::r,h=>
    change((Qa1 n Y a).bind λfa=>(Qa1 n Y (.BoolOp .And (b::r) pos)).map λfb=>QhX fa fb)=some f at h;refine bindR h λfa fb h1 h2=>?_;have hb:=ih.T X Y _ fb ok h2;exact(QAf (ih.T X Y a fa ok h1) (λH0 A0 wh pins s σ H Q I q=>by have:=hb H0 A0 pins s σ H Q I q;exact this)).st
  | Or=>
   match es,h with
   | [],h=>exact nn h
   | [a],h=>exact(Qzz (ih.T X Y a f ok h)).st
   | a::b::r,h=>
    change((Qa1 n Y a).bind λfa=>(Qa1 n Y (.BoolOp .Or (b::r) pos)).map λfb=>bOr fa fb)=some f at h;refine bindR h λfa fb h1 h2=>?_;have hb:=ih.T X Y _ fb ok h2;exact(QA7 (ih.T X Y a fa ok h1) (λH0 A0 wh pins s σ H Q I q=>by have:=hb H0 A0 pins s σ H Q I q;exact this)).st
 | Compare a ops bs pos=>
  match ops,bs,h with
  | [op],[b],h=>
   change((Qu n Y a).bind λfa=>(Qu n Y b).bind λfb=>(QrS op).map λg=>QB (dOp g fa fb))=some f at h;refine Qf h λfa h1 h=>?_;refine bindR h λfb g h2 h3=>?_;obtain⟨r,o1,o2,o3⟩:=Qs0 ok h3;exact QAj o1 o2 o3 (ih.E X Y a fa ok h1) (ih.E X Y b fb ok h2) (Qtc h2 op)
  | [],_,h=>exact nn h
  | [_],[],h=>exact nn h
  | [_],_::_::_,h=>exact nn h
  | _::_::_,_,h=>exact nn h
 | IfExp c a b pos=>exact nn h
 | _=>exact dflt h λ_=>rfl
theorem QAV(ih:QlD n):∀X Y tg e f,Qab X Y->Qig (n+1) Y tg e=some f->SI X tg e f/\∀x,foldedSetIterable e X.env x=pure x:=by
 intro X Y tg e f ok h;have dflt:(Qu n Y e).map QX=some f->SI X tg e f/\∀x,foldedSetIterable e X.env x=pure x:=λh=>by
  obtain⟨fa,h1,rfl⟩:=Zh.mp h;exact⟨QyL (ih.E X Y e fa ok h1),QyT h1 X.env⟩
 cases e with
 | Call fn args kws pos=>
  cases fn with
  | Name x p=>
   cases kws with
   | cons k ks=>exact dflt h
   | nil=>
    change @ite _ _ _ _ _=_ at h;split at h
    ·rename_i hg;simp only[Zm]at hg;obtain⟨g1,g2,g3⟩:=Qd9 ok.toCtxB hg.1
     match args,h with
     | [],h=>exact dflt h
     | [a],h=>
      dsimp only at h;by_cases er:x= "range"
      ·rw[if_pos er]at h;obtain⟨fa,h1,rfl⟩:=Zh.mp h;subst er;exact⟨QsN g1 (ok.mg _ (by decide+kernel)) (ih.E X Y a fa ok h1) (QaM h1 [] X.env),λ_=>rfl⟩
      rw[if_neg er]at h;by_cases ez:x= "enumerate"
      ·rw[if_pos ez]at h;split at h
       ·rename_i ht;obtain⟨fa,h1,rfl⟩:=Zh.mp h;subst ez;cases tg with
        | Tuple es k tp=>exact⟨QxF g1 (ok.mg _ (by decide+kernel)) (ih.E X Y a fa ok h1) (QaM h1 [] X.env),λ_=>rfl⟩
        | _=>exact nomatch (show false=true from ht)
       ·cases h
      rw[if_neg ez]at h;exact dflt h
     | [a,b],h=>
      dsimp only at h;by_cases er:x= "range"
      ·rw[if_pos er]at h;obtain⟨fa,fb,h1,h2,rfl⟩:=Qa2 h;subst er;exact⟨Qss g1 (ok.mg _ (by decide+kernel)) (ih.E X Y a fa ok h1) (ih.E X Y b fb ok h2) (by rw[QaM h1 [b] X.env,QaM h2 [] X.env];rfl) (QaM h2 [] X.env),λ_=>rfl⟩
      rw[if_neg er]at h;by_cases ez:x= "zip"
      ·rw[if_pos ez]at h;split at h
       ·rename_i ht;obtain⟨fa,fb,h1,h2,rfl⟩:=Qa2 h;subst ez;cases tg with
        | Tuple es k tp=>exact⟨Qza g1 (ok.mg _ (by decide+kernel)) (ih.E X Y a fa ok h1) (ih.E X Y b fb ok h2) (by rw[QaM h1 [b] X.env,QaM h2 [] X.env];rfl) (QaM h2 [] X.env),λ_=>rfl⟩
        | _=>exact nomatch (show false=true from ht)
       ·cases h
      rw[if_neg ez]at h;exact dflt h
     | [a,b,c],h=>
      dsimp only at h;by_cases er:x= "range"
      ·rw[if_pos er]at h;refine Qf h λfa h1 h=>?_;obtain⟨fb,fc,h2,h3,rfl⟩:=Qa2 h;subst er;exact⟨Qts g1 (ok.mg _ (by decide+kernel)) (ih.E X Y a fa ok h1) (ih.E X Y b fb ok h2) (ih.E X Y c fc ok h3) (QaM h1 [b,c] X.env) (QaM h2 [c] X.env) (QaM h3 [] X.env),λ_=>rfl⟩
      rw[if_neg er]at h;by_cases ez:x= "zip"
      ·rw[if_pos ez]at h;split at h
       ·rename_i ht;refine Qf h λfa h1 h=>?_;obtain⟨fb,fc,h2,h3,rfl⟩:=Qa2 h;subst ez;cases tg with
        | Tuple es k tp=>exact⟨QxG g1 (ok.mg _ (by decide+kernel)) (ih.E X Y a fa ok h1) (ih.E X Y b fb ok h2) (ih.E X Y c fc ok h3) (QaM h1 [b,c] X.env) (QaM h2 [c] X.env) (QaM h3 [] X.env),λ_=>rfl⟩
        | _=>exact nomatch (show false=true from ht)
       ·cases h
      rw[if_neg ez]at h;exact dflt h
     | _::_::_::_::_,h=>exact dflt h
    ·exact dflt h
  | _=>exact dflt h
 | _=>exact dflt h
theorem QbC:∀n,QlD n
 | 0=>⟨λ_ _ _ _ _ h=>(nn h),λ_ _ _ _ _ _ _ _ _ h=>(nn h),λ_ _ _ _ _ h=>(nn h),λ_ _ _ _ _ h=>(nn h),λ_ _ _ _ _ h=>(nn h),λ_ _ _ _ _ h=>(nn h),λ_ _ _ _ _ _ h=>(nn h)⟩
 | n+1=>by
  have ih:=QbC n;refine⟨QBA ih,QBI ih,QAS ih,λX Y e f ok h=>?_,λX Y e f ok h=>?_,λX Y e f ok h=>?_,QAV ih⟩
  ·match e,h with
   | [],h=>simp only[Qhe]at h;cases h;exact QuK
   | [c],h=>simp only[Qhe]at h;exact QuU (ih.T X Y c f ok h)
   | _::_::_,h=>simp only[Qhe]at h;cases h
  ·match e,h with
   | [],h=>simp only[QbI]at h;cases h;exact Qlj
   | e::es,h=>
    simp only[QbI]at h;refine bindR h λfa fs h1 h2=>?_;exact Qhs (ih.E X Y e fa ok h1) (ih.A X Y es fs ok h2) (QaM h1 es X.env)
  ·match e,h with
   | none,h=>simp only[QlB]at h;cases h;exact Qxr
   | some e,h=>
    simp only[QlB]at h;refine mapR h λfa h1=>?_;exact Qx9 (ih.E X Y e fa ok h1)
section
noncomputable def Qw:DS:=λ_=>none
theorem Qvl:S1 X st Qw:=λH0 A0=>Qu7.mono λE σ H ⟨U,hs,F,o,rel,e,q⟩=>by cases e
theorem Qih:∀{n:Nat}{U:En}{o:Out},Qbc g fb n U=some o->Qbc g fb (n+1) U=some o
 | 0,_,_,h=>by cases h
 | n+1,U,o,h=>by
  unfold Qbc at h ⊢;refine Qf h λb hb h=>?_;rw[hb];cases b with
  | false=>exact h
  | true=>
   rw[if_pos rfl]at h;refine Qf h λo1 ho h=>?_;rw[Za,if_pos rfl,ho];cases o1 with
   | nx U2=>exact Qih h
   | ct U2=>exact Qih h
   | bk U2=>exact h
   | rt d fr=>exact h
theorem Qp0(h:Qbc g fb n U=some o)(hm:n<=m):Qbc g fb m U=some o:=by
 induction hm with
 | refl=>exact h
 | step _ ih=>exact Qih ih
open Classical in
noncomputable def QbS(g:DT)(fb:DS):DS:=λU=>if h:∃n,(Qbc g fb n U).isSome=true then Qbc g fb h.choose U else none
theorem Qc9:QbS g fb U=some o↔∃n,Qbc g fb n U=some o:=by
 unfold QbS;constructor
 ·intro h;split at h
  ·exact⟨_,h⟩
  ·cases h
 ·rintro⟨n,h⟩;have hx:∃n,(Qbc g fb n U).isSome=true:=⟨n,by rw[h];rfl⟩;rw[dif_pos hx];obtain⟨o',ho'⟩:=ZbU.mp hx.choose_spec;have h1:=Qp0 h (Nat.le_max_left n hx.choose);have h2:=Qp0 ho' (Nat.le_max_right n hx.choose);rw[h1]at h2;rw[ho',← h2]
theorem QtW(hp:PassesOwn (model X.prog X.w) X.A X.env X.xe)(hc:ST X c gc)(hb:SS X body f):S1 X (.While c body [] pos) (QbS gc f):=λH0 A0 pins s σ H D I h=>by
 obtain⟨U,hs,F,o,rel,e,q⟩:=h;obtain⟨n,hn⟩:=Qc9.mp e;exact QvU (n:=n) hp hc hb H0 A0 pins s σ H D I ⟨U,hs,F,o,rel,hn,q⟩
theorem Qtv(g:DT)(fb:DS)(U:En):QbS g fb U=(g U).bind λb=>if b=true then(fb U).bind λo=>match o with
  | .nx U2=>QbS g fb U2
  | .ct U2=>QbS g fb U2
  | .bk U2=>some (.nx U2)
  | .rt d fr=>some (.rt d fr)
  else some (.nx U):=by
 apply Option.ext;intro o;rw[Qc9];constructor
 ·rintro⟨n,h⟩;cases n with
  | zero=>cases h
  | succ n=>
   unfold Qbc at h;refine Qf h λb hb h=>?_;rw[hb];cases b with
   | false=>exact h
   | true=>
    rw[if_pos rfl]at h;refine Qf h λo1 ho h=>?_;rw[Za,if_pos rfl,ho];cases o1 with
    | nx U2=>exact Qc9.mpr ⟨n,h⟩
    | ct U2=>exact Qc9.mpr ⟨n,h⟩
    | bk U2=>exact h
    | rt d fr=>exact h
 ·intro h;refine Qf h λb hb h=>?_;cases b with
  | false=>exact⟨1,by unfold Qbc;rw[hb];exact h⟩
  | true=>
   rw[if_pos rfl]at h;refine Qf h λo1 ho h=>?_;cases o1 with
   | nx U2=>
    obtain⟨n,hn⟩:=Qc9.mp h;exact⟨n+1,by unfold Qbc;rw[hb];rw[Za,if_pos rfl,ho];exact hn⟩
   | ct U2=>
    obtain⟨n,hn⟩:=Qc9.mp h;exact⟨n+1,by unfold Qbc;rw[hb];rw[Za,if_pos rfl,ho];exact hn⟩
   | bk U2=>exact⟨1,by unfold Qbc;rw[hb];rw[Za,if_pos rfl,ho];exact h⟩
   | rt d fr=>exact⟨1,by unfold Qbc;rw[hb];rw[Za,if_pos rfl,ho];exact h⟩
theorem Qyk(hN:X.N.Nodup)(hx1:X.N[i]? =some x)(hx:Loc X.env.scope x)(hf:X.fn x=true∨X.env.scope.names.lookup x=some .local)
  (hcalm:X.calm=true) (S:Qe0 X N' scope) (hi:SI X tg iter fi) (hcap:Qoi X N' scope cap t.slots)
  (hin:∀cl C fp s3 H3,SG (cxc X N' scope cl C fp s3 H3) tg t/\QoA (cxc X N' scope cl C fp s3 H3) ifs ft/\SE (cxc X N' scope cl C fp s3 H3) elt fe) (hs:∀x,foldedSetIterable iter X.env x=pure x):
  S1 X (.Assign [.Name x pos'] (.ListComp elt [⟨tg,iter,ifs,0⟩] scope pos) spos) (Qo i (QF fi t cap ft fe)):=
 Qla λH0 A0=>(Qx6 hN hx1 hx hf hcalm S (hi H0 A0) (λcl C fp s3 H3=>⟨(hin cl C fp s3 H3).1 _ _,(hin cl C fp s3 H3).2.1 _ _,(hin cl C fp s3 H3).2.2 _ _⟩) hs).mono λE σ H h=>QnQ hcap h
end
end HS
namespace HS
open PySem PySem.Spec L2 PyProof.Rows
section
variable {X:Cx}{a b e:Expr}{fa fb:DE}{pf:DP}{x:Nat}{pos apos:Pos}
theorem Qaa.unit{K:Fgg}{U:En}{F:Nat->List Addr}{H:Hp}:Qaa K U F H H ⟨.non,true,[]⟩ .non []:= .flat (QQ.refl _) .Qle
end
noncomputable def Qjt:Expr->Bool
 | .ListComp .. =>false
 | .SetComp .. =>false
 | .DictComp .. =>false
 | _=>true
theorem QdA(h:Qjt e=true):swapsWith e t l env=pure false:=by
 cases e<;>first | rfl | cases h
noncomputable def QeO(n:Nat)(Y:Th)(e:Expr):Option (Nat×DP):=match n with
 | 0=>none
 | n+1=>match e with
  | .Name x _=>(Y.slot x).map λi=>(i,Qap)
  | .Subscript a b _=>(QeO n Y a).bind λq=>(Qu n Y b).map λfb=>(q.1,Qb3 q.2 fb)
  | _=>none
theorem QhU:∀(n:Nat) (X:Cx) (Y:Th) (e:Expr) (q:Nat×DP),Qab X Y->QeO n Y e=some q->SPa X e q.1 q.2/\attributeBase e=λ_ env w=>w
 | 0,_,_,_,_,_,h=>(nn h)
 | n+1,X,Y,e,q,ok,h=>by
  cases e with
  | Name x pos=>
   change Option.map _ _=_ at h;obtain⟨i,hi,rfl⟩:=Zh.mp h;exact⟨QfM (Qav ok.toCtxB hi),by funext a b c;rfl⟩
  | Subscript a b pos=>
   change Option.bind _ _=_ at h;obtain⟨q',fb,h1,h2,rfl⟩:=Qa2 h;exact⟨Qhn (QhU n X Y a q' ok h1).1 ((QbC n).E X Y b fb ok h2) (Qq2 h2),by funext a b c;rfl⟩
  | _=>exact nn h
noncomputable def QjD:Expr->Bool
 | .Name .. =>true
 | .Subscript _ (.Slice ..) _=>false
 | .Subscript (.Call ..) _ _=>false
 | .Subscript .. =>true
 | _=>false
noncomputable def Qwg:Operator->Option (D->D->Option D)
 | .Add=>some (gI λi j=>some (.int (i+j)))
 | .Sub=>some Qax
 | _=>none
theorem QAt(h:Qwg op=some g):∃r,OpR X (inplaceOp op) r/\QcE X.K g r:=by
 cases op<;>cases h
 ·exact⟨_,Qxb,Qg3 (λi j d e=>by cases e;rfl) λi j d e H Q q=>by cases e;exact⟨i,j,rfl,rfl,q _ λ_=> .int_mk⟩⟩
 ·exact⟨_,Qxj,QtB⟩
noncomputable def QxS:Expr->Bool
 | .Slice .. =>true
 | _=>false
noncomputable def QlM(n:Nat)(Y:Th)(o:Expr)(m:Str)(args:List Expr):Option DS:=match args with
  | []=>(QeO n Y o).bind λq=>
    none
  | [e]=>if m= "append" then
     ((QeO n Y o).bind λq=>(Qu n Y e).map λfa=>QgD q.1 q.2 fa)
    else
    none
  | _=>none
theorem QvH(ok:Qab X Y)(h:QlM n Y o m args=some f)(hl:(apos.endLine == cpos.line)=true):
  S1 X (.Expr (.Call (.Attribute o m apos) args [] cpos) pos) f:=by
 have base:∀{q:Nat×DP},QeO n Y o=some q->SPa X o q.1 q.2/\attributeBase o m X.env (eval o X.env)=eval o X.env:=λ{q} h1=>by
  obtain⟨sp,ab⟩:=QhU n X Y o _ ok h1;exact⟨sp,by rw[ab]⟩
 have app:∀{e:Expr}{f:DS},m= "append" ->((QeO n Y o).bind λq=>(Qu n Y e).map λfa=>QgD q.1 q.2 fa)=some f->S1 X (.Expr (.Call (.Attribute o m apos) [e] [] cpos) pos) f:=λ{e f} em h=>by
  obtain⟨q,fa,h1,h2,rfl⟩:=Qa2 h;obtain⟨sp,hb⟩:=base h1;subst em;have he:=(QbC n).E X Y e fa ok h2;have st:=QaM h2 [] X.env;have sa:∀H0 A0,PA X [e] (Qia (tV X.K H0 A0 fa) Qpk):=λH0 A0=>Qar (he H0 A0) QcQ st;exact λH0 A0=>(Qmx (QBk PySem.F.plainAttrs_list PySem.F.slot_list_append PySem.F.type_list_append Qnq (sp H0 A0) (sa H0 A0) hb (by rw[st];rfl) hl st rfl) rfl).mono λE σ H q=>Qv7 q
 match args,h with
 | [],h=>
  unfold QlM at h;dsimp only at h;obtain⟨⟨x,pf⟩,h1,h⟩:=bind1 h;obtain⟨sp,hb⟩:=base h1;cases h
 | [e],h=>
  unfold QlM at h;dsimp only at h;by_cases em:m= "append"
  ·rw[if_pos em]at h;exact app em h
  rw[if_neg em]at h;clear em;clear app;cases h
 | _::_::_,h=>exact nn h
noncomputable def Qr5(x:Nat)(fy f1 g1 f2 g2:DE)(U:En):Option Out:=if x<U.length then(fy U).bind λry=>match ry.d with
 | .lst ds=>(g1 U).bind λr1=>(f1 U).bind λk1=>(g2 U).bind λr2=>(f2 U).bind λk2=>match k1.d,k2.d with
  | .int i1,.int i2=>(ixN ds.length i1).bind λj1=>(ixN ds.length i2).bind λj2=>some (.nx ((QaX (ry.M++(r1.M++r2.M)) U).set x (some (.lst ((ds.set j1 r1.d).set j2 r2.d),false))))
  | _,_=>none
 | _=>none else none
noncomputable def QkK(x:Nat)(fy f1 g1 f2 g2:DE):DS:=λU=>Qr5 x fy f1 g1 f2 g2 (U.set x none)
section
variable {K:Fgg}{H0 H H':Hp}{A0:LAd}{hs:List (V×D×List Addr)}{U:En}{F:Nat->List Addr}{σ:L2.St}
theorem Rel.Qjv(rel:Rel K H0 A0 hs U F σ H){a:Addr}{zs ys:List V}(ha:H a=some (.lst zs))(h0:H0 a=none)(hn:∀(i:Nat) d b,U[i]? =some (some (d,b))->a∉F i)(hh:∀t∈hs,a∉t.2.2):Rel K H0 A0 hs U F σ (upd H a (.lst ys)) where
 len:=rel.len
 val:=λi d b e=>by
  obtain⟨v,h1,h2⟩:=rel.val i d b e;exact⟨v,h1,h2.upd ha (hn i d b e)⟩
 own:=rel.own
 src:=rel.src
 held:=λt ht=>⟨(rel.held t ht).1.upd ha (hh t ht),(rel.held t ht).2⟩
 same:=λb o hb=>by
  have:b≠a:=λz=>by rw[z,h0]at hb;cases hb
  rw[QP this];exact rel.same b o hb
theorem Rel.put(rel:Rel K H0 A0 hs U F σ H){i:Nat}{v:V}(hi:∀d b,U[i]? ≠some (some (d,b))):Rel K H0 A0 hs U F (σ.set i (some v)) H:=
 ⟨by simpa using rel.len,λj d b e=>by
  obtain⟨w,h1,h2⟩:=rel.val j d b e;have hj:i≠j:=λz=>hi d b (z▸e);exact⟨w,by rw[Zd hj];exact h1,h2⟩,rel.own,rel.src,rel.held,rel.same⟩
theorem Src.more(s:Src U F H M G)(h:∀i∈M,i∈M'):Src U F H M' G:=λa ha=>by
 rcases s a ha with z | ⟨i,d,b,e,m,w⟩
 ·exact .inl z
 ·exact .inr ⟨i,d,b,e,m,λhb=>h i (w hb)⟩
end
section
variable {X:Cx}{st1 st2 st3:Stmt}{sts:List Stmt}{x:Nat}{fy f1 g1 f2 g2:DE}{g:DS}
theorem QyY(p1:∀H0 A0,PS X st1 (Qej (λσ H Q=>tVA X.K H0 A0 (Qa fy Qe) σ H λxs H1=>∃p ys,xs=[.ref p]/\(SqL X.K H1 p ys∨SqT X.K H1 p ys)/\∀l,H1 l=none->Q (.ref l) (upd H1 l (.lst ys))) (Qgl x)))
  (p2:∀H0 A0,PS X st2 (Qej (tV X.K H0 A0 g1) (L2.Qax (QgW x) (tV X.K H0 A0 f1) Qgt))) (p3:∀H0 A0,PS X st3 (Qej (tV X.K H0 A0 g2) (L2.Qax (QgW x) (tV X.K H0 A0 f2) Qgt))) (h:SS X sts g):
  SS X (st1::st2::st3::sts) (Qd (QkK x fy f1 g1 f2 g2) g):=λH0 A0=>
 (QbY (p1 H0 A0) (QbY (p2 H0 A0) (QbY (p3 H0 A0) (h H0 A0)))).mono λE σ H=>exK λU hs F o rel e q=>by
 refine Qf e λo1 e1 e=>?_;unfold QkK Qr5 at e1;split at e1
 case isFalse=>cases e1
 rename_i hx;have hr0:∀d b,(U.set x none)[x]? ≠some (some (d,b)):=λd b z=>by
  rw[Zo (by simpa using hx)]at z;cases z
 have rel0:=rel.weak (QcN (U:=U) x);generalize U.set x none=U0 at *;refine Qf e1 λry ey e1=>?_;split at e1
 case h_2=>cases e1
 rename_i ds hds;refine Qf e1 λr1 eg1 e1=>?_;refine Qf e1 λk1 ef1 e1=>?_;refine Qf e1 λr2 eg2 e1=>?_;refine Qf e1 λk2 ef2 e1=>?_;split at e1
 case h_2=>cases e1
 rename_i i1 i2 hk1 hk2;refine Qf e1 λj1 ej1 e1=>?_;refine Qf e1 λj2 ej2 e1=>?_;cases e1;refine⟨U0,hs,F,⟨[ry.d],ry.fr && true,ry.M++[]⟩,rel0,by simp[Qa,Qe,ey],λvs H1 G q1=>?_⟩;have rp:=q1.rp;dsimp only at rp;rw[hds]at rp;obtain⟨v,rfl,rq⟩:=rp.one;obtain⟨l,ws,L,rfl,hl,rl,zl,el⟩:=rq.lst_inv;have memL:∀a∈L,a∈G:=λa ha=>by
  rcases el with rfl | rfl
  ·exact Zc _ ha
  ·exact ha
 refine⟨l,ws,rfl,.inl (Q1 hl),λc hc=>?_⟩;have relx:=rel0.ext q1.same;have nfr:∀(i:Nat) d b,U0[i]? =some (some (d,b))->c∉F i:=λi d b ei hci=>by
  obtain⟨zs,z⟩:=relx.mem ei hci;rw[hc]at z;cases z
 have nhs:∀t∈hs,c∉t.2.2:=λt ht hct=>by
  obtain⟨zs,z⟩:=(relx.held t ht).1.mem c hct;rw[hc]at z;cases z
 have h0c:H0 c=none:=relx.same.free hc;have nL:c∉L:=λz=>by
  obtain⟨zs,y⟩:=rl.mem c z;rw[hc]at y;cases y
 have sU:QQ H1 (upd H1 c (.lst ws)):=λb o eb=>by
  have:b≠c:=λz=>by rw[z,hc]at eb;cases eb
  rw[QP this];exact eb
 have relA:=(relx.ext sU).put (i:=x) (v:= .ref c) hr0;have hσ:(σ.set x (some (.ref c)))[x]? =some (some (.ref c)):=Zo (by rw[← rel0.len];exact hx);generalize hσ':σ.set x (some (V.ref c))=σ1 at relA hσ;show Qvg _ _ E (σ.set x (some (.ref c))) _;rw[hσ'];have hc2:upd H1 c (.lst ws) c=some (.lst ws):=Qac;have rl2:=rl.same sU;generalize upd H1 c (.lst ws)=H2 at relA hc2 rl2;refine⟨U0,hs,F,r1,relA,eg1,λv1 H3 G1 q2=>⟨.ref c,hσ,U0,hs,F,k1,relA.ext q2.same,ef1,λu1 H4 Gi q3=>?_⟩⟩;have hc4:=q3.same _ _ (q2.same _ _ hc2);have ru:=q3.rp;rw[hk1]at ru;refine⟨c,ws,i1,j1,rfl,ru.int_inv,hc4,by rw[← rl.length];exact ej1,?_⟩;have nG1:c∉G1:=λz=>by
  rcases q2.src c z with y | ⟨i,d,b,ei,m,_⟩
  ·rw[hc2]at y;cases y
  ·exact nfr i d b ei m
 have hj1:=(Qcc ej1).2.1;obtain⟨G',m1,m2⟩:=Qmf hc4 ((rl2.same q2.same).same q3.same) nL nG1 (q2.rp.same q3.same) hj1;have relB:=((relA.ext q2.same).ext q3.same).Qjv (ys:=ws.set j1 v1) hc4 h0c nfr nhs;have hc5:upd H4 c (.lst (ws.set j1 v1)) c=some (.lst (ws.set j1 v1)):=Qac;generalize upd H4 c (.lst (ws.set j1 v1))=H5 at relB hc5 m1;refine⟨U0,hs,F,r2,relB,eg2,λv2 H6 G2 q4=>⟨.ref c,hσ,U0,hs,F,k2,relB.ext q4.same,ef2,λu2 H7 Gj q5=>?_⟩⟩;have hc7:=q5.same _ _ (q4.same _ _ hc5);have rw2:=q5.rp;rw[hk2]at rw2;refine⟨c,ws.set j1 v1,i2,j2,rfl,rw2.int_inv,hc7,by rw[ZZ,← rl.length];exact ej2,?_⟩;have nG2:c∉G2:=λz=>by
  rcases q4.src c z with y | ⟨i,d,b,ei,m,_⟩
  ·rw[hc5]at y;cases y
  ·exact nfr i d b ei m
 have nG':c∉G':=λz=>(m2 c z).elim nL nG1;have hj2:=(Qcc ej2).2.1;obtain⟨G'',n1,n2⟩:=Qmf hc7 ((m1.same q4.same).same q5.same) nG' nG2 (q4.rp.same q5.same) (by rw[ZZ];exact hj2);have relC:=((relB.ext q4.same).ext q5.same).Qjv (ys:=(ws.set j1 v1).set j2 v2) hc7 h0c nfr nhs;have hc8:upd H7 c (.lst ((ws.set j1 v1).set j2 v2)) c=some (.lst ((ws.set j1 v1).set j2 v2)):=Qac;generalize upd H7 c (.lst ((ws.set j1 v1).set j2 v2))=H8 at relC hc8 n1;have sh0:=Shr.of rel0 (q1.src.more (M':=ry.M++(r1.M++r2.M)) λi hi=>by
  have hi:i∈ry.M++[]:=hi;rw[ZaQ]at hi;exact Zg _ hi)
 have sh1:=Shr.of relA (q2.src.more (M':=ry.M++(r1.M++r2.M)) λi hi=>Ze _ (Zg _ hi));have sh2:=Shr.of relB (q4.src.more (M':=ry.M++(r1.M++r2.M)) λi hi=>Ze _ (Ze _ hi));have sh:Shr H0 A0 (QaX (ry.M++(r1.M++r2.M)) U0) F (c::G''):=λa ha=>by
  rcases Zj.mp ha with rfl | ha
  ·refine⟨.inl h0c,λi d ei hm=>?_⟩;obtain⟨b',e',_⟩:=(Qbd _ U0).2 i d true ei;exact nfr i d b' e' hm
  ·rcases n2 a ha with z | z
   ·rcases m2 a z with y | y
    ·exact sh0 a (memL a y)
    ·exact sh1 a y
   ·exact sh2 a z
 have relD:=(relC.weak (Qbd (ry.M++(r1.M++r2.M)) U0)).QmB (i:=x) (d:= .lst ((ds.set j1 r1.d).set j2 r2.d)) (v:= .ref c) (Rp.Qeb hc8 n1 (by rw[ZZ,ZZ];exact zl)) sh;have hs1:σ1.set x (some (.ref c))=σ1:=by rw[← hσ',List.set_set]
 rw[hs1]at relD;exact⟨_,hs,_,o,relD,e,q⟩
end
structure Swp where
 x:Str
 y:Expr
 i1:Expr
 e1:Expr
 i2:Expr
 e2:Expr
 r:List Stmt
noncomputable def QrZ:Stmt->Option (Expr×Expr)
 | .Assign [t] e _=>some (t,e)
 | _=>none
noncomputable def QrT:Expr->Option (Expr×Expr)
 | .Subscript a i _=>some (a,i)
 | _=>none
noncomputable def aName(st:Stmt):Option (Str×Expr):=(QrZ st).bind λz=>(QbB z.1).bind λx=>some (x,z.2)
noncomputable def Qva(st:Stmt):Option (Str×Expr×Expr):=(QrZ st).bind λz=>(QrT z.1).bind λy=>(QbB y.1).bind λx=>some (x,y.2,z.2)
noncomputable def Qso:Expr->Option (Str×Expr)
 | .Call (.Name f _) [y] [] _=>some (f,y)
 | _=>none
theorem Qoy{st:Stmt}(h:QrZ st=some z):∃p,st= .Assign [z.1] z.2 p:=by
 unfold QrZ at h;split at h
 ·cases h;exact⟨_,rfl⟩
 ·cases h
theorem Qpm(h:QrT e=some z):∃p,e= .Subscript z.1 z.2 p:=by
 unfold QrT at h;split at h
 ·cases h;exact⟨_,rfl⟩
 ·cases h
theorem Qgg(h:QbB e=some x):∃p,e= .Name x p:=by
 unfold QbB at h;split at h
 ·cases h;exact⟨_,rfl⟩
 ·cases h
theorem QnB{st:Stmt}(h:aName st=some (x,e)):∃p q,st= .Assign [.Name x p] e q:=by
 refine Qf h λz h1 h=>?_;refine Qf h λy h2 h=>?_;cases h;obtain⟨p,e1⟩:=Qoy h1;obtain⟨q,e2⟩:=Qgg h2;exact⟨q,p,by rw[e1,e2]⟩
theorem QpT{st:Stmt}(h:Qva st=some (x,i,e)):∃a b c,st= .Assign [.Subscript (.Name x a) i b] e c:=by
 refine Qf h λz h1 h=>?_;refine Qf h λy h2 h=>?_;refine Qf h λw h3 h=>?_;cases h;obtain⟨p,e1⟩:=Qoy h1;obtain⟨q,e2⟩:=Qpm h2;obtain⟨r,e3⟩:=Qgg h3;exact⟨r,q,p,by rw[e1,e2,e3]⟩
theorem QsZ(h:Qso e=some (f,y)):∃p q,e= .Call (.Name f p) [y] [] q:=by
 unfold Qso at h;split at h
 ·cases h;exact⟨_,_,rfl⟩
 ·cases h
noncomputable def Qrr:List Stmt->Option Swp
 | a::b::c::r=>(aName a).bind λz=>(Qso z.2).bind λy=>(Qva b).bind λu=>(Qva c).bind λv=>if y.1= "list" /\u.1=z.1/\v.1=z.1 then some ⟨z.1,y.2,u.2.1,u.2.2,v.2.1,v.2.2,r⟩else none
 | _=>none
theorem Qut{sts:List Stmt}{q:Swp}(h:Qrr sts=some q):∃p1 p2 p3 p4 a1 a2 a3 b1 b2 b3,sts= .Assign [.Name q.x p1] (.Call (.Name "list" p2) [q.y] [] p3) p4:: .Assign [.Subscript (.Name q.x a1) q.i1 a2] q.e1 a3:: .Assign [.Subscript (.Name q.x b1) q.i2 b2] q.e2 b3::q.r:=by
 refine(λh:∀G:Prop,(_->G)->G=>h _ id) λGG kk=>?_;unfold Qrr at h;split at h
 ·rename_i a b c r;refine Qf h λz h1 h=>?_;refine Qf h λy h2 h=>?_;refine Qf h λu h3 h=>?_;refine Qf h λv h4 h=>?_;split at h
  ·rename_i hc;obtain⟨g1,g2,g3⟩:=hc;obtain⟨p1,p4,e1⟩:=QnB h1;obtain⟨p2,p3,e2⟩:=QsZ h2;obtain⟨a1,a2,a3,e3⟩:=QpT h3;obtain⟨b1,b2,b3,e4⟩:=QpT h4;have h:=Option.some.inj h;subst h;exact kk ⟨p1,p2,p3,p4,a1,a2,a3,b1,b2,b3,by rw[e1,e2,e3,e4,g1,g2,g3]⟩
  ·cases h
 ·cases h
noncomputable def Qff(r:R):Bool:=r.norm.fr && r.norm.M.isEmpty
noncomputable def QhD(t b ln:Nat)(U:En):En:=((U.set t none).set b none).set ln none
noncomputable def QoS(t1 t2 b1 b2:D):Option (D×Bool):=some (.tup [t1,t2,b1,b2],(D.tup [t1,t2,b1,b2]).flat)
noncomputable def Qit(t b:Nat)(ts bs:List D)(i k:Int)(j1 j2 l1 l2:Nat)(fi fk g1 g2 g3 g4:DE)(U0 U1:En):Option Out:=
 (fi U1).bind λri=>(fk U1).bind λrk=>(g1 U1).bind λr1=>(g2 U1).bind λr2=>(g3 U1).bind λr3=>(g4 U1).bind λr4=>match ri.d,rk.d with
  | .int i',.int k'=>if i'=i/\k'=k/\Qff r1=true/\Qff r2=true/\Qff r3=true/\Qff r4=true then
    some (.nx ((U0.set t (some (.lst ((ts.set j1 r1.d).set j2 r2.d),true))).set b (some (.lst ((bs.set l1 r3.d).set l2 r4.d),true))))else none
  | _,_=>none
noncomputable def QiG(t b ln:Nat)(fi fk g1 g2 g3 g4:DE):DS:=λU=>match U[t]?,U[b]? with
 | some (some (.lst ts,true)),some (some (.lst bs,true))=>if t≠b/\ln≠t/\ln≠b/\ln<U.length then
   (fi U).bind λri=>(fk U).bind λrk=>match ri.d,rk.d with
    | .int i,.int k=>(ixN ts.length i).bind λj1=>(ixN ts.length k).bind λj2=>(ixN bs.length i).bind λl1=>(ixN bs.length k).bind λl2=>
      (ts[j1]?).bind λt1=>(ts[j2]?).bind λt2=>(bs[l1]?).bind λb1=>(bs[l2]?).bind λb2=>
       Qit t b ts bs i k j1 j2 l1 l2 fi fk g1 g2 g3 g4 (QhD t b ln U) ((QhD t b ln U).set ln (QoS t1 t2 b1 b2))
    | _,_=>none
   else none
 | _,_=>none
theorem Qvu(h:Qff r=true):r.norm.fr=true/\r.norm.M=[]:=by
 unfold Qff at h;simp only[Zm,List.isEmpty_iff]at h;exact h
structure Spn (K:Fgg) (H0 H:Hp) (hs:List (V×D×List Addr)) (U:En) (F:Nat->List Addr) (a:Addr) (ds:List D) (ws:List V) (G:LAd):Prop where
 at':H a=some (.lst ws)
 rp:Rps K H ds ws G
 len:G.length=nls ds
 na:a∉G
 nd:G.Nodup
 h0:∀c,c=a∨c∈G->H0 c=none
 out:∀(i:Nat) d b,U[i]? =some (some (d,b))->∀c,c=a∨c∈G->c∉F i
 hld:∀t∈hs,∀c,c=a∨c∈G->c∉t.2.2
 sz:ds.length<=sizeLine
section
variable {K:Fgg}{H0 H H':Hp}{A0:LAd}{hs:List (V×D×List Addr)}{U:En}{F:Nat->List Addr}{σ:L2.St}{a:Addr}{ds:List D}{ws:List V}{G:LAd}
theorem Spn.mem(s:Spn K H0 H hs U F a ds ws G){c:Addr}(h:c=a∨c∈G):∃vs,H c=some (.lst vs):=by
 rcases h with rfl | h
 ·exact⟨ws,s.at'⟩
 ·exact s.rp.mem c h
theorem Spn.same(s:Spn K H0 H hs U F a ds ws G)(e:QQ H H'):Spn K H0 H' hs U F a ds ws G:=⟨e _ _ s.at',s.rp.same e,s.len,s.na,s.nd,s.h0,s.out,s.hld,s.sz⟩
theorem Spn.Qrq(s:Spn K H0 H hs U F a ds ws G){p:Addr}{zs ys:List V}(hp:H p=some (.lst zs))(hn:¬(p=a∨p∈G)):Spn K H0 (upd H p (.lst ys)) hs U F a ds ws G:=
 ⟨by rw[QP λz=>hn (.inl z.symm)];exact s.at',s.rp.upd hp λz=>hn (.inr z),s.len,s.na,s.nd,s.h0,s.out,s.hld,s.sz⟩
theorem Spn.put(s:Spn K H0 H hs U F a ds ws G){U1:En}{F1:Nat->List Addr}(rel0:Rel K H0 A0 hs U F σ H)(rel:Rel K H0 A0 hs U1 F1 σ H){r:R}{v:V}{Gn:LAd}(p:Qaa K U1 F1 H H' r v Gn)(ho:Qff r=true){j:Nat}(hj:j<ds.length)(h1:∀(i:Nat) d b,U1[i]? =some (some (d,b))->a∉F1 i):
  ∃G',Spn K H0 (upd H' a (.lst (ws.set j v))) hs U F a (ds.set j r.d) (ws.set j v) G'/\Rel K H0 A0 hs U1 F1 σ (upd H' a (.lst (ws.set j v)))/\Rel K H0 A0 hs U F σ (upd H' a (.lst (ws.set j v)))/\∀c∈G',c∈G∨H c=none:=by
 have p':=p.norm;obtain⟨f1,f2⟩:=Qvu ho;have cn:=p'.cnt f1;rw[f2]at cn;have hnl:=cn.2;rw[r.QcV]at hnl;have hrp:=p'.rp;rw[r.QcV]at hrp;have hcn:∀c,Gn.count c<=nw H c:=λc=>by have:=cn.1 c;simpa using this
 have gN:∀c∈Gn,H c=none:=λc hc=>by
  have h2:=hcn c;have h3:0<Gn.count c:=Zal.mpr hc;cases q:H c with
  | none=>rfl
  | some o=>rw[QcY q]at h2;omega
 have aN:a∉Gn:=λz=>by have:=gN a z;rw[s.at']at this;cases this
 obtain⟨G',m1,m2,m3⟩:=set_mk (p'.same _ _ s.at') (s.rp.same p'.same) s.len s.na aN hrp hnl hj;have mem:∀c∈G',c∈G∨c∈Gn:=λc hc=>by
  have h2:=m3 c;have h3:0<G'.count c:=Zal.mpr hc;by_cases z:c∈G
  ·exact .inl z
  ·rw[ZS.mpr z]at h2;exact .inr (Zal.mp ⋯)
 have relE:=rel.ext p'.same;have relE0:=rel0.ext p'.same;have a0:=s.h0 a (.inl rfl);have nfr:∀(i:Nat) d b,U[i]? =some (some (d,b))->a∉F i:=λi d b e=>s.out i d b e a (.inl rfl);refine⟨G',⟨Qac,m1,m2,λz=>(mem a z).elim s.na aN,Zas.mpr λc=>?_,λc hc=>?_,λi d b e c hc=>?_,λt ht c hc=>?_,by rw[ZZ];exact s.sz⟩,?_,?_,λc hc=>(mem c hc).imp_right (gN c)⟩
 ·have h2:=m3 c;have h3:=Zas.mp s.nd c;have h4:=hcn c;by_cases z:c∈G
  ·obtain⟨vs,q⟩:=s.mem (.inr z);rw[QcY q]at h4;omega
  ·rw[ZS.mpr z]at h2;have:nw H c<=1:=by unfold nw;split<;>decide
   omega
 ·rcases hc with rfl | hc
  ·exact a0
  ·rcases mem c hc with z | z
   ·exact s.h0 c (.inr z)
   ·exact rel.same.free (gN c z)
 ·rcases hc with rfl | hc
  ·exact nfr i d b e
  ·rcases mem c hc with z | z
   ·exact s.out i d b e c (.inr z)
   ·intro hm;obtain⟨vs,q⟩:=rel0.mem e hm;rw[gN c z]at q;cases q
 ·rcases hc with rfl | hc
  ·exact s.hld t ht _ (.inl rfl)
  ·rcases mem c hc with z | z
   ·exact s.hld t ht c (.inr z)
   ·intro hm;obtain⟨vs,q⟩:=(rel.held t ht).1.mem c hm;rw[gN c z]at q;cases q
 ·exact relE.Qjv (p'.same _ _ s.at') a0 h1 λt ht=>s.hld t ht a (.inl rfl)
 ·exact relE0.Qjv (p'.same _ _ s.at') a0 nfr λt ht=>s.hld t ht a (.inl rfl)
theorem Spn.back(s:Spn K H0 H hs U F a ds ws G)(rel:Rel K H0 A0 hs U F σ H){x:Nat}(hx:σ[x]? =some (some (.ref a)))(hn:∀d b,U[x]? ≠some (some (d,b))):Rel K H0 A0 hs (U.set x (some (.lst ds,true))) (λj=>if j=x then a::G else F j) σ H:=by
 have lt:∀{z:Option (D×Bool)}{y:D×Bool},(U.set x z)[x]? =some (some y)->x<U.length:=λ{z y} e=>by
  by_cases hl:x<U.length
  ·exact hl
  ·rw[Zv (by simp;omega)]at e;cases e
 refine⟨by simp[rel.len],λj d b e=>?_,λj d e=>?_,λj d b e c hc=>?_,rel.held,rel.same⟩
 ·by_cases hj:j=x
  ·subst hj;rw[Zo (lt e)]at e;cases e;exact⟨_,hx,by rw[if_pos rfl];exact Rp.Qeb s.at' s.rp s.sz⟩
  ·rw[Zd (Ne.symm hj)]at e;obtain⟨w,h1,h2⟩:=rel.val j d b e;exact⟨w,h1,by rw[if_neg hj];exact h2⟩
 ·by_cases hj:j=x
  ·subst hj;rw[Zo (lt e)]at e;cases e;rw[if_pos rfl];refine⟨by simp only[ZR,D.nl,s.len],ZaB.mpr ⟨s.na,s.nd⟩,λc hc=>s.h0 c (Zj.mp hc),λk d' b hk ek c hc=>?_,λt ht c hc=>s.hld t ht c (Zj.mp hc)⟩;rw[Zd (Ne.symm hk)]at ek;rw[if_neg hk];exact s.out k d' b ek c (Zj.mp hc)
  ·rw[Zd (Ne.symm hj)]at e;obtain⟨h1,h2,h3,h4,h5⟩:=rel.own j d e;rw[if_neg hj];refine⟨h1,h2,h3,λk d' b hk ek c hc=>?_,h5⟩;by_cases hkx:k=x
   ·subst hkx;rw[if_pos rfl];exact λhm=>s.out j d true e c (Zj.mp hm) hc
   ·rw[Zd (Ne.symm hkx)]at ek;rw[if_neg hkx];exact h4 k d' b hk ek c hc
 ·by_cases hj:j=x
  ·subst hj;rw[if_pos rfl]at hc;exact .inl (s.h0 c (Zj.mp hc))
  ·rw[Zd (Ne.symm hj)]at e;rw[if_neg hj]at hc;exact rel.src j d b e c hc
theorem Spn.weak(s:Spn K H0 H hs U F a ds ws G){U':En}{F':Nat->List Addr}(h:∀(i:Nat) d b,U'[i]? =some (some (d,b))->∀c,c=a∨c∈G->c∉F' i):Spn K H0 H hs U' F' a ds ws G:=⟨s.at',s.rp,s.len,s.na,s.nd,s.h0,h,s.hld,s.sz⟩
theorem Spn.of(rel:Rel K H0 A0 hs U F σ H){x:Nat}(hx:U[x]? =some (some (.lst ds,true))):∃a ws G,σ[x]? =some (some (.ref a))/\F x=a::G/\Spn K H0 H hs (U.set x none) F a ds ws G:=by
 obtain⟨v,h1,h2⟩:=rel.val x _ _ hx;obtain⟨ol,on,o0,oap,oh⟩:=rel.own x _ hx;simp only[Rp]at h2;obtain⟨hz,a,vs,rfl,⟨G,eF,q,r⟩ | ⟨q,r⟩⟩:=h2
 ·rw[eF]at ol on o0 oap oh;obtain⟨n1,n2⟩:=ZaB.mp on;refine⟨a,vs,G,h1,eF,q,r,by simp only[ZR,D.nl]at ol;omega,n1,n2,λc hc=>o0 c (Zj.mpr hc),λi d b e c hc=>?_,λt ht c hc=>oh t ht c (Zj.mpr hc),hz⟩;obtain⟨b',e',_⟩:=(QcN (U:=U) x).2 i d b e;have hi:i≠x:=λz=>by
   subst z;by_cases hl:i<U.length
   ·rw[Zo hl]at e;cases e
   ·rw[Zv (by simp;omega)]at e;cases e
  exact oap i d b' hi e' c (Zj.mpr hc)
 ·have:=r.QaJ;simp only[D.nl]at ol;omega
theorem Qfr{i:Int}{d':D}{v':V}{Gm:LAd}(f:Focus K H [i] (.lst ds) (.ref a) (a::G) d' v' Gm)(hl:G.length=nls ds):(∀c∈Gm,c∈G)/\Rp K H d' v' Gm:=by
 obtain⟨es,a',vs,j',F1,G',F2,d2,v2,e1,h2,h3,h4,h5,h6,h7,h8,h9⟩:=f;cases e1;obtain⟨rfl,rfl,rfl,h9⟩:=h9;refine⟨λc hc=>?_,h9⟩;rcases h3 with⟨e,z,⟨eF,q⟩ | ⟨eF,q⟩⟩ | ⟨e,_⟩
 ·obtain⟨_,rfl⟩:=List.cons.inj eF;exact Ze _ (Zg _ hc)
 ·exfalso;have l1:=h4.QaJ;have l2:=h9.QaJ;have l3:=h5.QaJ;have ex:=congrArg List.length eF;have e2:=congrArg nls (Zba j' es);have hj:j'<es.length:=(Zk.mp h6).1;have hd:es[j']=d':=(Zk.mp h6).2;rw[QdV,ZW hj,hd]at e2;simp only[nls]at e2;cases e;simp only[ZR,Zy]at ex;omega
 ·cases e
end
theorem get_none{U:En}{x:Nat}{p:D×Bool}(h:(U.set x none)[x]? =some (some p)):False:=by
 by_cases hl:x<U.length
 ·rw[Zo hl]at h;cases h
 ·rw[Zv (by rw[ZZ];exact Nat.le_of_not_lt hl)]at h;cases h
theorem Qgr{K:Fgg}{H0 H:Hp}{A0:LAd}{f:DE}{σ:L2.St}{Q:V->Hp->Prop}{U:En}{hs:List (V×D×List Addr)}{F:Nat->List Addr}{r:R}(rel:Rel K H0 A0 hs U F σ H)(e:f U=some r)(q:∀v H' G,Qaa K U F H H' r v G->Q v H'):tV K H0 A0 f σ H Q:=⟨U,hs,F,r,rel,e,q⟩
theorem Qod{K:Fgg}{H0 H:Hp}{A0:LAd}{x:Nat}{pf:DP}{σ:L2.St}{Q:V->Hp->Prop}{U:En}{hs:List (V×D×List Addr)}{F:Nat->List Addr}{d:D}{b:Bool}{is:List Int}{dm:D}(rel:Rel K H0 A0 hs U F σ H)(hx:U[x]? =some (some (d,b)))(hp:pf U=some is)(hd:Qbh d is=some dm)(q:∀v0 v H' Gm,QQ H H'->σ[x]? =some (some v0)->Focus K H' is d v0 (F x) dm v Gm->Q v H'):tP K H0 A0 x pf σ H Q:=⟨U,hs,F,d,b,is,dm,rel,hx,hp,hd,q⟩
section
theorem QrN{G:Prop}(e1:Qit t b ts bs i k j1 j2 l1 l2 fi fk g1 g2 g3 g4 U0 U1=some o)
  (kk:∀ri rk q1 q2 q3 q4,fi U1=some ri->fk U1=some rk->g1 U1=some q1->g2 U1=some q2->g3 U1=some q3->g4 U1=some q4->ri.d= .int i->rk.d= .int k->Qff q1=true->Qff q2=true->Qff q3=true->Qff q4=true→
   o= .nx ((U0.set t (some (.lst ((ts.set j1 q1.d).set j2 q2.d),true))).set b (some (.lst ((bs.set l1 q3.d).set l2 q4.d),true)))->G):G:=by
 unfold Qit at e1;refine Qf e1 λri ei e1=>?_;refine Qf e1 λrk ek e1=>?_;refine Qf e1 λq1 c1 e1=>?_;refine Qf e1 λq2 c2 e1=>?_;refine Qf e1 λq3 c3 e1=>?_;refine Qf e1 λq4 c4 eE=>?_;clear e1;have kk:=kk ri rk q1 q2 q3 q4 ei ek c1 c2 c3 c4;split at eE
 case h_2=>cases eE
 rename_i i' k' hi hk;split at eE
 case isFalse=>cases eE
 rename_i hc;obtain⟨rfl,rfl,w1,w2,w3,w4⟩:=hc;exact kk hi hk w1 w2 w3 w4 (Option.some.inj eE).symm
theorem Qvq{G:Prop}(e1:QiG t b ln fi fk g1 g2 g3 g4 U=some o)
  (kk:∀ts bs ri rk i k j1 j2 l1 l2 t1 t2 b1 b2,U[t]? =some (some (.lst ts,true))->U[b]? =some (some (.lst bs,true))->(t≠b/\ln≠t/\ln≠b/\ln<U.length)->fi U=some ri->fk U=some rk->ri.d= .int i->rk.d= .int k→
   ixN ts.length i=some j1->ixN ts.length k=some j2->ixN bs.length i=some l1->ixN bs.length k=some l2->ts[j1]? =some t1->ts[j2]? =some t2->bs[l1]? =some b1->bs[l2]? =some b2→
   Qit t b ts bs i k j1 j2 l1 l2 fi fk g1 g2 g3 g4 (QhD t b ln U) ((QhD t b ln U).set ln (QoS t1 t2 b1 b2))=some o->G):G:=by
 unfold QiG at e1;split at e1
 case h_2=>cases e1
 rename_i ts bs ht hb;split at e1
 case isFalse=>cases e1
 rename_i hc;refine Qf e1 λri ei e1=>?_;refine Qf e1 λrk ek eE=>?_;clear e1;have kk:=λi k j1 j2 l1 l2 t1 t2 b1 b2=>kk ts bs ri rk i k j1 j2 l1 l2 t1 t2 b1 b2 ht hb hc ei ek;split at eE
 case h_2=>cases eE
 rename_i i k hi hk;refine Qf eE λj1 x1 e1=>?_;refine Qf e1 λj2 x2 e1=>?_;refine Qf e1 λl1 x3 e1=>?_;refine Qf e1 λl2 x4 e1=>?_;refine Qf e1 λt1 y1 e1=>?_;refine Qf e1 λt2 y2 e1=>?_;refine Qf e1 λb1 y3 e1=>?_;refine Qf e1 λb2 y4 e1=>?_;exact kk i k j1 j2 l1 l2 t1 t2 b1 b2 hi hk x1 x2 x3 x4 y1 y2 y3 y4 e1
theorem Qv3{x:Nat}(e:(QhD t b ln U)[x]? =some (some p)):x≠t/\x≠b/\x≠ln/\(U.set t none)[x]? =some (some p)/\(U.set b none)[x]? =some (some p):=by
 unfold QhD at e;have h3:x≠ln:=λz=>by rw[z]at e;exact get_none e
 rw[Zd (Ne.symm h3)]at e;have h2:x≠b:=λz=>by rw[z]at e;exact get_none e
 rw[Zd (Ne.symm h2)]at e;have h1:x≠t:=λz=>by rw[z]at e;exact get_none e
 refine⟨h1,h2,h3,e,?_⟩;rw[Zd (Ne.symm h2)];rwa[Zd (Ne.symm h1)]at e
theorem QAn(p0:∀H0 A0,PS X st0 (Qej (QzR (Qia (tP X.K H0 A0 t (Qb3 Qap fi)) (Qia (tP X.K H0 A0 t (Qb3 Qap fk)) (Qia (tP X.K H0 A0 b (Qb3 Qap fi)) (Qia (tP X.K H0 A0 b (Qb3 Qap fk)) Qpk))))) (Qgl ln)))
  (p1:∀H0 A0,PS X st1 (Qej (tV X.K H0 A0 g1) (L2.Qax (QgW t) (tV X.K H0 A0 fi) Qgt))) (p2:∀H0 A0,PS X st2 (Qej (tV X.K H0 A0 g2) (L2.Qax (QgW t) (tV X.K H0 A0 fk) Qgt)))
  (p3:∀H0 A0,PS X st3 (Qej (tV X.K H0 A0 g3) (L2.Qax (QgW b) (tV X.K H0 A0 fi) Qgt))) (p4:∀H0 A0,PS X st4 (Qej (tV X.K H0 A0 g4) (L2.Qax (QgW b) (tV X.K H0 A0 fk) Qgt))) (h:SS X sts g):
  SS X (st0::st1::st2::st3::st4::sts) (Qd (QiG t b ln fi fk g1 g2 g3 g4) g):=λH0 A0=>
 (QbY (p0 H0 A0) (QbY (p1 H0 A0) (QbY (p2 H0 A0) (QbY (p3 H0 A0) (QbY (p4 H0 A0) (h H0 A0)))))).mono λE σ H=>exK λU hs F o rel e q=>by
 refine Qf e λo1 e1 e=>?_;refine Qvq e1 λts bs ri rk i k j1 j2 l1 l2 t1 t2 b1 b2 ht hb hc ei ek hi hk x1 x2 x3 x4 y1 y2 y3 y4 e1=>?_;have wA:QcB U (QhD t b ln U):=((QcN t).trans (QcN b)).trans (QcN ln);have c3:=λx p=>Qv3 (t:=t) (b:=b) (ln:=ln) (x:=x) (U:=U) (p:=p);obtain⟨htb,hlt,hlb,hll⟩:=hc;generalize hU0:QhD t b ln U=U0 at e1 wA c3;generalize hU1:U0.set ln (QoS t1 t2 b1 b2)=U1 at e1;refine QrN e1 λri' rk' q1 q2 q3 q4 ei' ek' d1 d2 d3 d4 hi' hk' w1' w2' w3' w4' eE=>?_;subst eE;clear e1 hU0;obtain⟨a,ws,Gt,st,Ft,sp⟩:=Spn.of rel ht;obtain⟨a',ws',Gb,sb,Fb,sp'⟩:=Spn.of rel hb;have pf:∀{f:DE}{r:HS.R}{z:Int},f U=some r->r.d= .int z->Qb3 Qap f U=some [z]:=λ{f r z} h1 h2=>by
  unfold Qb3 Qap;rw[Za,h1,Za,h2];rfl
 have dp:∀{zs:List D}{z:Int}{j:Nat}{d:D},ixN zs.length z=some j->zs[j]? =some d->Qbh (.lst zs) [z]=some d:=λ{zs z j d} h1 h2=>by
  unfold Qbh;simp only[D.items,Za];unfold atI;rw[h1,Za,h2];rfl
 refine Qod (rel) ht (pf ei hi) (dp x1 y1) λv0 v1 H1 M1 s1 hv0 f1=>?_;rw[Option.some.inj (Option.some.inj (hv0.symm.trans st))]at f1;refine Qod (rel.ext s1) ht (pf ek hk) (dp x2 y2) λv0 v2 H2 M2 s2 hv0 f2=>?_;rw[Option.some.inj (Option.some.inj (hv0.symm.trans st))]at f2;refine Qod ((rel.ext s1).ext s2) hb (pf ei hi) (dp x3 y3) λv0 v3 H3 M3 s3 hv0 f3=>?_;rw[Option.some.inj (Option.some.inj (hv0.symm.trans sb))]at f3;refine Qod (((rel.ext s1).ext s2).ext s3) hb (pf ek hk) (dp x4 y4) λv0 v4 H4 M4 s4 hv0 f4=>?_;rw[Option.some.inj (Option.some.inj (hv0.symm.trans sb))]at f4;refine⟨Qfo (by simp),λc hcn=>?_⟩;have sU:QQ H4 (upd H4 c (.tup [v1,v2,v3,v4])):=Qbj hcn;have hct:upd H4 c (.tup [v1,v2,v3,v4]) c=some (.tup [v1,v2,v3,v4]):=Qac;have s14:QQ H H4:=((s1.trans s2).trans s3).trans s4;have f1':=f1.same (((s2.trans s3).trans s4).trans sU);have f2':=f2.same ((s3.trans s4).trans sU);have f3':=f3.same (s4.trans sU);have f4':=f4.same sU;have relx:=rel.ext (s14.trans sU);have sp:=sp.same (s14.trans sU);have sp':=sp'.same (s14.trans sU);generalize upd H4 c (.tup [v1,v2,v3,v4])=H5 at f1' f2' f3' f4' relx sp sp' hct;rw[Ft]at f1' f2';rw[Fb]at f3' f4';refine(λh:∀G:Prop,(_->G)->G=>h _ id) λGG kk=>?_;obtain⟨m1,r1⟩:=Qfr f1' sp.len;obtain⟨m2,r2⟩:=Qfr f2' sp.len;obtain⟨m3,r3⟩:=Qfr f3' sp'.len;obtain⟨m4,r4⟩:=Qfr f4' sp'.len;refine kk ?_;have rT:Rp X.K H5 (.tup [t1,t2,b1,b2]) (.ref c) (M1++(M2++(M3++(M4++[])))):=by
  refine Rp.Qhl hct ?_;simp only[Rps];exact⟨v1,_,M1,_,rfl,rfl,r1,v2,_,M2,_,rfl,rfl,r2,v3,_,M3,_,rfl,rfl,r3,v4,_,M4,_,rfl,rfl,r4,rfl,rfl⟩
 have hM:∀z∈M1++(M2++(M3++(M4++[]))),z∈Gt∨z∈Gb:=λz hz=>by
  simp only[ZG,ZbY,or_false]at hz;rcases hz with h | h | h | h
  ·exact .inl (m1 z h)
  ·exact .inl (m2 z h)
  ·exact .inr (m3 z h)
  ·exact .inr (m4 z h)
 generalize M1++(M2++(M3++(M4++[])))=M at rT hM;have rel0:=relx.weak wA;have apart:∀z,z=a∨z∈Gt->¬(z=a'∨z∈Gb):=λz hz hz'=>by
  have h1:=(rel.own t _ ht).2.2.2.1 b _ _ (λe=>htb e.symm) hb;rw[Ft,Fb]at h1;exact h1 z (Zj.mpr hz) (Zj.mpr hz')
 have sh:Shr H0 A0 U0 F M:=λz hz=>by
  rcases hM z hz with h | h
  ·exact⟨.inl (sp.h0 z (.inr h)),λx d ex=>sp.out x d true (c3 x _ ex).2.2.2.1 z (.inr h)⟩
  ·exact⟨.inl (sp'.h0 z (.inr h)),λx d ex=>sp'.out x d true (c3 x _ ex).2.2.2.2 z (.inr h)⟩
 have relL:=rel0.QmB (i:=ln) rT sh;have sp0:Spn X.K H0 H5 hs U0 F a ts ws Gt:=sp.weak λx d bb ex=>sp.out x d bb (c3 x _ ex).2.2.2.1;have sp0':Spn X.K H0 H5 hs U0 F a' bs ws' Gb:=sp'.weak λx d bb ex=>sp'.out x d bb (c3 x _ ex).2.2.2.2;have rel0:=rel0.put (i:=ln) (v:= .ref c) λd bb ex=>(c3 _ _ ex).2.2.1 rfl;have st1':(σ.set ln (some (.ref c)))[t]? =some (some (.ref a)):=by rw[Zd hlt];exact st
 have sb1':(σ.set ln (some (.ref c)))[b]? =some (some (.ref a')):=by rw[Zd hlb];exact sb
 show Qvg _ _ E (σ.set ln (some (.ref c))) _;generalize hσ:σ.set ln (some (V.ref c))=σ1 at relL rel0 st1' sb1';change Rel _ _ _ _ (U0.set ln (QoS t1 t2 b1 b2)) _ _ _ at relL;rw[hU1]at relL;generalize hF1:(λj=>if j=ln then M else F j)=F1 at relL;have out1:∀z,(z=a∨z=a')->∀(x:Nat) d bb,U1[x]? =some (some (d,bb))->z∉F1 x:=λz hz x d bb ex=>by
  subst hF1;dsimp only;by_cases hx:x=ln
  ·rw[if_pos hx];intro hm;rcases hz with rfl | rfl
   ·rcases hM z hm with h | h
    ·exact sp.na h
    ·exact apart z (.inl rfl) (.inr h)
   ·rcases hM z hm with h | h
    ·exact apart z (.inr h) (.inl rfl)
    ·exact sp'.na h
  ·rw[if_neg hx];subst hU1;rw[Zd (Ne.symm hx)]at ex;rcases hz with rfl | rfl
   ·exact sp0.out x d bb ex z (.inl rfl)
   ·exact sp0'.out x d bb ex z (.inl rfl)
 have jl1:=(Qcc x1).2.1;have jl2:=(Qcc x2).2.1;have ll1:=(Qcc x3).2.1;have ll2:=(Qcc x4).2.1;refine Qgr relL d1 λu1 H6 N1 z1=>⟨.ref a,st1',Qgr (relL.ext z1.same) ei' λy1' H7 N1' z1'=>?_⟩;have ru:=z1'.rp;rw[hi']at ru;refine⟨a,ws,i,j1,rfl,ru.int_inv,z1'.same _ _ (z1.same _ _ sp0.at'),by rw[← sp0.rp.length];exact x1,?_⟩;refine(λh:∀G:Prop,(_->G)->G=>h _ id) λGG kk=>?_;obtain⟨G1,spA,relA,rel0A,mA⟩:=sp0.put rel0 relL (z1.Qgj z1'.same) w1' jl1 λx d bb ex=>out1 a (.inl rfl) x d bb ex;refine kk ?_;have apA:¬(a=a'∨a∈Gb):=apart a (.inl rfl);have spA':Spn X.K H0 (upd H7 a (.lst (ws.set j1 u1))) hs U0 F a' bs ws' Gb:=(sp0'.same (z1.same.trans z1'.same)).Qrq (z1'.same _ _ (z1.same _ _ sp0.at')) apA;generalize upd H7 a (.lst (ws.set j1 u1))=H8 at spA relA rel0A spA';have apartA:∀z,z∈G1->¬(z=a'∨z∈Gb):=λz hz hz'=>by
  rcases mA z hz with h | h
  ·exact apart z (.inr h) hz'
  ·obtain⟨vs,w⟩:=sp0'.mem hz';rw[h]at w;cases w
 refine Qgr relA d2 λu2 H9 N2 z2=>⟨.ref a,st1',Qgr (relA.ext z2.same) ek' λy2' H10 N2' z2'=>?_⟩;have ru2:=z2'.rp;rw[hk']at ru2;refine⟨a,ws.set j1 u1,k,j2,rfl,ru2.int_inv,z2'.same _ _ (z2.same _ _ spA.at'),by rw[← spA.rp.length,ZZ];exact x2,?_⟩;refine(λh:∀G:Prop,(_->G)->G=>h _ id) λGG kk=>?_;obtain⟨G2,spB,relB,rel0B,mB⟩:=spA.put rel0A relA (z2.Qgj z2'.same) w2' (by rw[ZZ];exact jl2) λx d bb ex=>out1 a (.inl rfl) x d bb ex;refine kk ?_;have spB':Spn X.K H0 (upd H10 a (.lst ((ws.set j1 u1).set j2 u2))) hs U0 F a' bs ws' Gb:=(spA'.same (z2.same.trans z2'.same)).Qrq (z2'.same _ _ (z2.same _ _ spA.at')) apA;generalize upd H10 a (.lst ((ws.set j1 u1).set j2 u2))=H11 at spB relB rel0B spB';have apartB:∀z,z=a∨z∈G2->¬(z=a'∨z∈Gb):=λz hz hz'=>by
  rcases hz with rfl | hz
  ·exact apA hz'
  ·rcases mB z hz with h | h
   ·exact apartA z h hz'
   ·obtain⟨vs,w⟩:=spA'.mem hz';rw[h]at w;cases w
 refine Qgr relB d3 λu3 H12 N3 z3=>⟨.ref a',sb1',Qgr (relB.ext z3.same) ei' λy3' H13 N3' z3'=>?_⟩;have ru3:=z3'.rp;rw[hi']at ru3;refine⟨a',ws',i,l1,rfl,ru3.int_inv,z3'.same _ _ (z3.same _ _ spB'.at'),by rw[← spB'.rp.length];exact x3,?_⟩;refine(λh:∀G:Prop,(_->G)->G=>h _ id) λGG kk=>?_;obtain⟨G3,spC',relC,rel0C,mC⟩:=spB'.put rel0B relB (z3.Qgj z3'.same) w3' ll1 λx d bb ex=>out1 a' (.inr rfl) x d bb ex;refine kk ?_;have apB:¬(a'=a∨a'∈G2):=λh=>apartB a' h (.inl rfl);have spC:Spn X.K H0 (upd H13 a' (.lst (ws'.set l1 u3))) hs U0 F a _ _ G2:=(spB.same (z3.same.trans z3'.same)).Qrq (z3'.same _ _ (z3.same _ _ spB'.at')) apB;generalize upd H13 a' (.lst (ws'.set l1 u3))=H14 at spC relC rel0C spC';have apartC:∀z,z∈G3->¬(z=a∨z∈G2):=λz hz hz'=>by
  rcases mC z hz with h | h
  ·exact apartB z hz' (.inr h)
  ·obtain⟨vs,w⟩:=spB.mem hz';rw[h]at w;cases w
 refine Qgr relC d4 λu4 H15 N4 z4=>⟨.ref a',sb1',Qgr (relC.ext z4.same) ek' λy4' H16 N4' z4'=>?_⟩;have ru4:=z4'.rp;rw[hk']at ru4;refine⟨a',ws'.set l1 u3,k,l2,rfl,ru4.int_inv,z4'.same _ _ (z4.same _ _ spC'.at'),by rw[← spC'.rp.length,ZZ];exact x4,?_⟩;refine(λh:∀G:Prop,(_->G)->G=>h _ id) λGG kk=>?_;obtain⟨G4,spD',relD,rel0D,mD⟩:=spC'.put rel0C relC (z4.Qgj z4'.same) w4' (by rw[ZZ];exact ll2) λx d bb ex=>out1 a' (.inr rfl) x d bb ex;refine kk ?_;have spD:Spn X.K H0 (upd H16 a' (.lst ((ws'.set l1 u3).set l2 u4))) hs U0 F a _ _ G2:=(spC.same (z4.same.trans z4'.same)).Qrq (z4'.same _ _ (z4.same _ _ spC'.at')) apB;generalize upd H16 a' (.lst ((ws'.set l1 u3).set l2 u4))=H17 at spD relD rel0D spD';have apartD:∀z,z=a'∨z∈G4->¬(z=a∨z∈G2):=λz hz hz'=>by
  rcases hz with rfl | hz
  ·exact apB hz'
  ·rcases mD z hz with h | h
   ·exact apartC z h hz'
   ·obtain⟨vs,w⟩:=spC.mem hz';rw[h]at w;cases w
 have nt:∀d bb,U0[t]? ≠some (some (d,bb)):=λd bb ex=>(c3 _ _ ex).1 rfl;have nb:∀d bb,U0[b]? ≠some (some (d,bb)):=λd bb ex=>(c3 _ _ ex).2.1 rfl;have relE:=spD.back rel0D st1' nt;have spE:=spD'.weak (U':=U0.set t (some (.lst ((ts.set j1 q1.d).set j2 q2.d),true))) (F':=λj=>if j=t then a::G2 else F j) λx d bb ex z hz=>by
  by_cases hx:x=t
  ·rw[if_pos hx];exact λhm=>apartD z hz (Zj.mp hm)
  ·rw[if_neg hx];rw[Zd (Ne.symm hx)]at ex;exact spD'.out x d bb ex z hz
 have relF:=spE.back relE sb1' (by rw[Zd htb];exact nb);exact⟨_,hs,_,o,relF,e,q⟩
end
noncomputable def QbE(e:Expr):Option (Str×Str):=(QrT e).bind λz=>(QbB z.1).bind λx=>(QbB z.2).bind λy=>some (x,y)
theorem QcP(h:QbE e=some (x,y)):∃p1 p2 p3,e= .Subscript (.Name x p1) (.Name y p2) p3:=by
 refine Qf h λz h1 h=>?_;refine Qf h λu h2 h=>?_;refine Qf h λw h3 h=>?_;cases h;obtain⟨p,e1⟩:=Qpm h1;obtain⟨q,e2⟩:=Qgg h2;obtain⟨r,e3⟩:=Qgg h3;exact⟨q,r,p,by rw[e1,e2,e3]⟩
noncomputable def Qv1:Expr->Option (List Expr)
 | .Tuple l _ _=>some l
 | _=>none
theorem Qwq(h:Qv1 e=some l):∃k p,e= .Tuple l k p:=by
 unfold Qv1 at h;split at h
 ·cases h;exact⟨_,_,rfl⟩
 ·cases h
noncomputable def four(l:List Expr):Option ((Str×Str)×(Str×Str)×(Str×Str)×(Str×Str)):=match l with
 | [a,b,c,d]=>(QbE a).bind λa=>(QbE b).bind λb=>(QbE c).bind λc=>(QbE d).map λd=>(a,b,c,d)
 | _=>none
theorem Quq(h:four l=some (a,b,c,d)):∃ea eb ec ed,l=[ea,eb,ec,ed]/\QbE ea=some a/\QbE eb=some b/\QbE ec=some c/\QbE ed=some d:=by
 unfold four at h;split at h
 ·refine Qf h λa' h1 h=>?_;refine Qf h λb' h2 h=>?_;obtain⟨c',d',h3,h4,h5⟩:=Qa2 h;cases h5;exact⟨_,_,_,_,rfl,h1,h2,h3,h4⟩
 ·cases h
noncomputable def QrF(st:Stmt):Option (Str×(Str×Str)×(Str×Str)×(Str×Str)×(Str×Str)):=(aName st).bind λz=>(Qv1 z.2).bind λl=>(four l).map λq=>(z.1,q)
theorem QtL{st:Stmt}{x:Str}{a b c d:Str×Str}(h:QrF st=some (x,a,b,c,d)):∃p ea eb ec ed k p1 p2,st= .Assign [.Name x p] (.Tuple [ea,eb,ec,ed] k p1) p2/\QbE ea=some a/\QbE eb=some b/\QbE ec=some c/\QbE ed=some d:=by
 unfold QrF at h;obtain⟨⟨x',e⟩,h1,h⟩:=bind1 h;obtain⟨l,q,h2,h3,h⟩:=Qa2 h;cases h;obtain⟨p,p2,e1⟩:=QnB h1;obtain⟨k,p1,e2⟩:=Qwq h2;have e2:e= .Tuple l k p1:=e2;obtain⟨ea,eb,ec,ed,e3,n⟩:=Quq h3;exact⟨p,ea,eb,ec,ed,k,p1,p2,by rw[e1,e2,e3],n⟩
noncomputable def Qg9:Stmt->Option ((Str×Str)×Expr)
 | .Assign [t] e _=>(QbE t).map λs=>(s,e)
 | _=>none
theorem Qfs{st:Stmt}{s:Str×Str}{e:Expr}(h:Qg9 st=some (s,e)):∃t p,st= .Assign [t] e p/\QbE t=some s:=by
 unfold Qg9 at h;split at h
 ·obtain⟨s',h1,h2⟩:=Zh.mp h;cases h2;exact⟨_,_,rfl,h1⟩
 ·cases h
structure Col where
 ln:Str
 t:Str
 b:Str
 i:Str
 k:Str
 e1:Expr
 e2:Expr
 e3:Expr
 e4:Expr
 r:List Stmt
noncomputable def Qrl:List Stmt->Option Col
 | s0::s1::s2::s3::s4::r=>(QrF s0).bind λz=>(Qg9 s1).bind λz1=>(Qg9 s2).bind λz2=>(Qg9 s3).bind λz3=>(Qg9 s4).bind λz4=>
  if z.2.2.1=(z.2.1.1,z.2.2.1.2)/\z.2.2.2.1=(z.2.2.2.1.1,z.2.1.2)/\z.2.2.2.2=(z.2.2.2.1.1,z.2.2.1.2)/\z1.1=z.2.1/\z2.1=z.2.2.1/\z3.1=z.2.2.2.1/\z4.1=z.2.2.2.2 then some ⟨z.1,z.2.1.1,z.2.2.2.1.1,z.2.1.2,z.2.2.1.2,z1.2,z2.2,z3.2,z4.2,r⟩else none
 | _=>none
theorem QvR{sts:List Stmt}{q:Col}(h:Qrl sts=some q):∃p ea eb ec ed k p1 p2 t1 t2 t3 t4 p3 p4 p5 p6,sts= .Assign [.Name q.ln p] (.Tuple [ea,eb,ec,ed] k p1) p2:: .Assign [t1] q.e1 p3:: .Assign [t2] q.e2 p4:: .Assign [t3] q.e3 p5:: .Assign [t4] q.e4 p6::q.r∧
  QbE ea=some (q.t,q.i)/\QbE eb=some (q.t,q.k)/\QbE ec=some (q.b,q.i)/\QbE ed=some (q.b,q.k)/\QbE t1=some (q.t,q.i)/\QbE t2=some (q.t,q.k)/\QbE t3=some (q.b,q.i)/\QbE t4=some (q.b,q.k):=by
 refine(λh:∀G:Prop,(_->G)->G=>h _ id) λGG kk=>?_;unfold Qrl at h;split at h
 ·rename_i s0 s1 s2 s3 s4 r;refine Qf h λz h0 h=>?_;refine Qf h λz1 h1 h=>?_;refine Qf h λz2 h2 h=>?_;refine Qf h λz3 h3 h=>?_;refine Qf h λz4 h4 h=>?_;split at h
  ·rename_i hc;obtain⟨g1,g2,g3,g4,g5,g6,g7⟩:=hc;obtain⟨p,ea,eb,ec,ed,k,p1,p2,e0,n1,n2,n3,n4⟩:=QtL h0;obtain⟨t1,p3,e1,m1⟩:=Qfs h1;obtain⟨t2,p4,e2,m2⟩:=Qfs h2;obtain⟨t3,p5,e3,m3⟩:=Qfs h3;obtain⟨t4,p6,e4,m4⟩:=Qfs h4;have h:=Option.some.inj h;subst h;exact kk ⟨p,ea,eb,ec,ed,k,p1,p2,t1,t2,t3,t4,p3,p4,p5,p6,by rw[e0,e1,e2,e3,e4],n1,n2.trans (congrArg some g1),n3.trans (congrArg some g2),n4.trans (congrArg some g3),m1.trans (congrArg some g4),m2.trans (congrArg some (g5.trans g1)),m3.trans (congrArg some (g6.trans g2)),m4.trans (congrArg some (g7.trans g3))⟩
  ·cases h
 ·cases h
section
variable {K:Fgg}{H0 H H':Hp}{A0:LAd}{hs:List (V×D×List Addr)}{U:En}{F:Nat->List Addr}{σ:L2.St}{x i j:Nat}{ds es:List D}{a:Addr}{vs:List V}{v vn:V}{dn:D}
end
mutual
noncomputable def Qjy(n:Nat)(Y:Th)(st:Stmt):Option DS:=match n with
 | 0=>none
 | n+1=>match st with
  | .Pass _=>some Qm
  | .Break _=>some Qr1
  | .Continue _=>some Qsb
  | .Raise _ _ _=>some Qw
  | .Return (some e) _=>(Qu n Y e).map QM
  | .Expr (.Constant (.str _) _ _) _=>some Qm
  | .Expr (.Call (.Attribute o m apos) args [] cpos) _=>if(apos.endLine == cpos.line)=true then QlM n Y o m args else none
  | .Expr (.Call (.Name x p) args [] cpos) _=>(Qu n Y (.Call (.Name x p) args [] cpos)).map Qbs
  | .Assign [.Name x _] e _=>(Y.QbH x).bind λi=>(Qu n Y e).map λfa=>Qo i (if QjD e=true then QaB fa else fa)
  | .Assign [.Subscript a i _] e _=>(QeO n Y a).bind λq=>(Qu n Y i).bind λfi=>(Qu n Y e).map λfa=>QbL q.1 q.2 fi fa
  | .AugAssign (.Subscript a i _) op e _=>(QeO n Y a).bind λq=>(Qu n Y i).bind λfi=>(Qwg op).bind λg=>(Qu n Y e).map λfa=>QdY g q.1 q.2 fi fa
  | .If c a b _=>(Qa1 n Y c).bind λg=>(QaD n Y a).bind λf1=>(QaD n Y b).map λf2=>sIf g f1 f2
  | .For tg iter body [] _=>(Qkv Y tg).bind λt=>(Qig n Y tg iter).bind λfi=>(QaD n Y body).map λfb=>QaV fi t fb
  | .While c body [] _=>(Qa1 n Y c).bind λg=>(QaD n Y body).map λfb=>QbS g fb
  | .Try a b c d p=>Y.tr (.Try a b c d p)
  | _=>none
noncomputable def QaD(n:Nat)(Y:Th)(sts:List Stmt):Option DS:=match n with
  | 0=>none
  | n+1=>match sts with
    | []=>some Qm
    | st::r=>
     match Qrl (st::r)with
     | some q=>(Y.QbH q.ln).bind λln=>(Y.slot q.t).bind λt=>(Y.slot q.b).bind λb=>(Y.slot q.i).bind λi=>(Y.slot q.k).bind λk=>(Qu n Y q.e1).bind λg1=>(Qu n Y q.e2).bind λg2=>(Qu n Y q.e3).bind λg3=>(Qu n Y q.e4).bind λg4=>(QaD n Y q.r).map λg=>Qd (QiG t b ln (Qg i) (Qg k) g1 g2 g3 g4) g
     | none=>
      match Qrr (st::r)with
      | some q=>if Y.gl "list" =true then(Y.QbH q.x).bind λx=>(Y.slot q.x).bind λx'=>if x'=x then(Qu n Y q.y).bind λfy=>(Qu n Y q.i1).bind λf1=>(Qu n Y q.e1).bind λg1=>(Qu n Y q.i2).bind λf2=>(Qu n Y q.e2).bind λg2=>(QaD n Y q.r).map λg=>Qd (QkK x fy f1 g1 f2 g2) g else none else none
      | none=>(Qjy n Y st).bind λf=>(QaD n Y r).map λg=>Qd f g
end
theorem Qjr(h:Qu n Y e=some f):QxS e=false:=by
 cases n with
 | zero=>exact nn h
 | succ n=>cases e<;>first | rfl | (exact nn h)
theorem Qyn(h:Qu n Y (.ListComp elt gens scope pos)=some f):∃m tg iter ifs t fi ft fe,n=m+1/\gens=[⟨tg,iter,ifs,0⟩]/\Qkv (inner Y scope) tg=some t/\Qlf Y scope t=true∧
  Qig m Y tg iter=some fi/\Qhe m (inner Y scope) ifs=some ft/\Qu m (inner Y scope) elt=some fe/\f=QF fi t (Qjw Y scope) ft fe:=by
 cases n with
 | zero=>exact nn h
 | succ n=>
  match gens,h with
  | [⟨tg,iter,ifs,k⟩],h=>
   by_cases hk:k=0
   ·subst hk
    (conv at h=>lhs;whnf)
    refine Qf h λt ht h=>?_;split at h
    ·rename_i hc;simp only[Zm]at hc;refine Qf h λfi h1 h=>?_;obtain⟨ft,fe,h2,h3,rfl⟩:=Qa2 h;exact⟨n,tg,iter,ifs,t,fi,ft,fe,rfl,rfl,ht,hc.1,h1,h2,h3,rfl⟩
    ·cases h
   ·exfalso;cases k with
    | ofNat k=>
     cases k with
     | zero=>exact hk rfl
     | succ k=>exact nn h
    | negSucc k=>exact nn h
  | [],h=>exact nn h
  | ⟨_,_,_,.ofNat 0⟩::_::_,h=>exact nn h
  | ⟨_,_,_,.ofNat (k+1)⟩::_::_,h=>exact nn h
  | ⟨_,_,_,.negSucc k⟩::_::_,h=>exact nn h
theorem Qx2(ok:Qab X Y)(hx:Y.QbH x=some i)(h:Qu n Y e=some fa):S1 X (.Assign [.Name x p] e pos) (Qo i fa):=by
 have hN:X.N.Nodup:=by rw[ok.N];exact ok.nd
 obtain⟨h1,h2,h3⟩:=Qcq ok.toCtxB hx;by_cases hc:Qjt e=true
 ·have he:=(QbC n).E X Y e fa ok h;exact Qla λH0 A0=>Qf3 hN h1 h2 (he H0 A0) (QdA hc) h3
 ·cases e with
  | ListComp elt gens scope cpos=>
   obtain⟨m,tg,iter,ifs,t,fi,ft,fe,rfl,rfl,ht,hco,g1,g2,g3,rfl⟩:=Qyn h;obtain⟨S,cap,inn⟩:=QpQ ok hco;obtain⟨i1,i2⟩:=(QbC m).I X Y tg iter fi ok g1;exact Qyk hN h1 h2 h3 ok.calm S i1 cap (λcl C fp s3 H3=>⟨Qor (inn cl C fp s3 H3) ht,(QbC m).Ts _ _ ifs ft (inn cl C fp s3 H3) g2,(QbC m).E _ _ elt fe (inn cl C fp s3 H3) g3⟩) i2
  | SetComp _ _ _ _=>cases n<;>exact nn h
  | DictComp _ _ _ _ _=>cases n<;>exact nn h
  | _=>exact absurd rfl hc
theorem QuX(ok:Qab X Y)(hx:Y.QbH x=some i)(h:Qu n Y e=some fa)(ha:QjD e=true):S1 X (.Assign [.Name x p] e pos) (Qo i (QaB fa)):=by
 have hN:X.N.Nodup:=by rw[ok.N];exact ok.nd
 obtain⟨h1,h2,h3⟩:=Qcq ok.toCtxB hx;have hc:Qjt e=true:=by cases e<;>first | rfl | cases ha
 have he:=Qv0 ((QbC n).E X Y e fa ok h);exact Qla λH0 A0=>Qf3 hN h1 h2 (he H0 A0) (QdA hc) h3
theorem QcT:swapsWithSole [.Subscript a i p] e l env=pure false:=by
 cases e<;>rfl
structure QAh (n:Nat):Prop where
 S:∀X Y st f,Qab X Y->Qjy n Y st=some f->S1 X st f
 Ss:∀X Y sts f,Qab X Y->QaD n Y sts=some f->SS X sts f
theorem QAC(ih:QAh n):∀X Y st f,Qab X Y->Qjy (n+1) Y st=some f->S1 X st f:=by
 intro X Y st f ok h;have hN:X.N.Nodup:=by rw[ok.N];exact ok.nd
 have E:=QbC n;cases st with
 | Pass pos=>change some Qm=some f at h;cases h;exact Qxt
 | Break pos=>change some Qr1=some f at h;cases h;exact QuM
 | Continue pos=>change some Qsb=some f at h;cases h;exact Qyb
 | Raise a b pos=>change some Qw=some f at h;cases h;exact Qvl
 | Return e pos=>
  cases e with
  | none=>exact nn h
  | some e=>
   change(Qu n Y e).map QM=some f at h;obtain⟨fa,h1,rfl⟩:=Zh.mp h;exact QAl (E.E X Y e fa ok h1)
 | Expr e pos=>
  cases e with
  | Constant c k p=>
   cases c with
   | str x=>
    change some Qm=some f at h;cases h;exact λH0 A0=>QAA.mono λE σ H ⟨U,hs,F,o,rel,e,q⟩=>by cases e;exact q σ H F rel
   | _=>exact nn h
  | Call fn args kws cpos=>
   cases fn with
   | Attribute o m apos=>
    cases kws with
    | nil=>
     change(if(apos.endLine == cpos.line)=true then QlM n Y o m args else none)=some f at h;split at h
     ·rename_i hl;exact QvH ok h hl
     ·cases h
    | cons _ _=>exact nn h
   | Name x p=>
    cases kws with
    | nil=>
     change(Qu n Y (.Call (.Name x p) args [] cpos)).map Qbs=some f at h;obtain⟨fa,h1,rfl⟩:=Zh.mp h;exact λH0 A0=>Qyc (Qmx (E.E X Y _ fa ok h1 H0 A0) rfl)
    | cons _ _=>exact nn h
   | _=>exact nn h
  | _=>exact nn h
 | Assign ts e pos=>
  match ts,h with
  | [t],h=>
   cases t with
   | Name x p=>
    change((Y.QbH x).bind λi=>(Qu n Y e).map λfa=>Qo i (if QjD e=true then QaB fa else fa))=some f at h;obtain⟨i,fa,h1,h2,rfl⟩:=Qa2 h;split
    ·rename_i ha;exact QuX ok h1 h2 ha
    ·exact Qx2 ok h1 h2
   | Subscript a i p=>
    change((QeO n Y a).bind λq=>(Qu n Y i).bind λfi=>(Qu n Y e).map λfa=>QbL q.1 q.2 fi fa)=some f at h;refine Qf h λq h1 h=>?_;obtain⟨fi,fa,h2,h3,rfl⟩:=Qa2 h;obtain⟨sp,_⟩:=QhU n X Y a q ok h1;have ns:=Qjr h2;refine QzS (E.E X Y e fa ok h3) sp (E.E X Y i fi ok h2) λte to ti he ho hi=>QfW he (QfX ho hi set_list ?_) QcT ?_ rfl
    ·intro v;cases i<;>first | rfl | (cases ns)
    ·cases e<;>rfl
   | _=>exact nn h
  | [],h=>exact nn h
  | t::_::_,h=>cases t<;>exact nn h
 | AugAssign t op e pos=>
  cases t with
  | Subscript a i p=>
   change((QeO n Y a).bind λq=>(Qu n Y i).bind λfi=>(Qwg op).bind λg=>(Qu n Y e).map λfa=>QdY g q.1 q.2 fi fa)=some f at h;refine Qf h λq h1 h=>?_;refine Qf h λfi h2 h=>?_;obtain⟨g,fa,h3,h4,rfl⟩:=Qa2 h;obtain⟨r,o1,o2⟩:=QAt (X:=X) h3;obtain⟨sp,_⟩:=QhU n X Y a q ok h1;have ns:=Qjr h2;exact QxL o1 o2 (E.E X Y e fa ok h4) sp (E.E X Y i fi ok h2) λov iv new=>by cases i<;>first | rfl | (cases ns)
  | _=>exact nn h
 | If c a b pos=>
  change((Qa1 n Y c).bind λg=>(QaD n Y a).bind λf1=>(QaD n Y b).map λf2=>sIf g f1 f2)=some f at h;refine Qf h λg h1 h=>?_;obtain⟨f1,f2,h2,h3,rfl⟩:=Qa2 h;exact QA4 (E.T X Y c g ok h1) (ih.Ss X Y a f1 ok h2) (ih.Ss X Y b f2 ok h3)
 | For tg iter body els pos=>
  cases els with
  | nil=>
   change((Qkv Y tg).bind λt=>(Qig n Y tg iter).bind λfi=>(QaD n Y body).map λfb=>QaV fi t fb)=some f at h;refine Qf h λt h1 h=>?_;obtain⟨fi,fb,h2,h3,rfl⟩:=Qa2 h;obtain⟨i1,i2⟩:=E.I X Y tg iter fi ok h2;exact Qzk ok.pass ok.calm i1 (Qor ok h1) (ih.Ss X Y body fb ok h3) i2
  | cons _ _=>exact nn h
 | While c body els pos=>
  cases els with
  | nil=>
   change((Qa1 n Y c).bind λg=>(QaD n Y body).map λfb=>QbS g fb)=some f at h;obtain⟨g,fb,h1,h2,rfl⟩:=Qa2 h;exact QtW ok.pass (E.T X Y c g ok h1) (ih.Ss X Y body fb ok h2)
  | cons _ _=>exact nn h
 | Try a b c d pos=>exact ok.tr _ _ h
 | _=>exact nn h
theorem Qjx:∀n,QAh n
 | 0=>⟨λ_ _ _ _ _ h=>(nn h),λ_ _ _ _ _ h=>(nn h)⟩
 | n+1=>by
  have ih:=Qjx n;refine⟨QAC ih,λX Y sts f ok h=>?_⟩
  match sts,h with
  | [],h=>change some Qm=some f at h;cases h;exact QsU
  | st::r,h=>
   change(match Qrl (st::r)with
    | some q=>(Y.QbH q.ln).bind λln=>(Y.slot q.t).bind λt=>(Y.slot q.b).bind λb=>(Y.slot q.i).bind λi=>(Y.slot q.k).bind λk=>(Qu n Y q.e1).bind λg1=>(Qu n Y q.e2).bind λg2=>(Qu n Y q.e3).bind λg3=>(Qu n Y q.e4).bind λg4=>(QaD n Y q.r).map λg=>Qd (QiG t b ln (Qg i) (Qg k) g1 g2 g3 g4) g
    | none=>_)=some f at h
   split at h
   ·rename_i q hq;refine Qf h λln hln h=>?_;refine Qf h λt ht h=>?_;refine Qf h λb hb h=>?_;refine Qf h λi hi h=>?_;refine Qf h λk hk h=>?_;refine Qf h λg1 h1 h=>?_;refine Qf h λg2 h2 h=>?_;refine Qf h λg3 h3 h=>?_;obtain⟨g4,g,h4,h5,rfl⟩:=Qa2 h;obtain⟨p,ea,eb,ec,ed,kk,p1,p2,t1,t2,t3,t4,p3,p4,p5,p6,hs,n1,n2,n3,n4,m1,m2,m3,m4⟩:=QvR hq;rw[hs];obtain⟨_,_,_,rfl⟩:=QcP n1;obtain⟨_,_,_,rfl⟩:=QcP n2;obtain⟨_,_,_,rfl⟩:=QcP n3;obtain⟨_,_,_,rfl⟩:=QcP n4;obtain⟨_,_,_,rfl⟩:=QcP m1;obtain⟨_,_,_,rfl⟩:=QcP m2;obtain⟨_,_,_,rfl⟩:=QcP m3;obtain⟨_,_,_,rfl⟩:=QcP m4;have E:=QbC n;have hN:X.N.Nodup:=by rw[ok.N];exact ok.nd
    obtain⟨l1,l2,l3⟩:=Qcq ok.toCtxB hln;have B:=ok.toCtxB;refine QAn (λH0 A0=>Qf3 hN l1 l2 (Qt6 (Qar (Qhn (QfM (Qav B ht)) (Qdg (Qav B hi)) (λ_ _=>rfl) H0 A0) (Qar (Qhn (QfM (Qav B ht)) (Qdg (Qav B hk)) (λ_ _=>rfl) H0 A0) (Qar (Qhn (QfM (Qav B hb)) (Qdg (Qav B hi)) (λ_ _=>rfl) H0 A0) (Qar (Qhn (QfM (Qav B hb)) (Qdg (Qav B hk)) (λ_ _=>rfl) H0 A0) QcQ))))) (QdA rfl) l3) (λH0 A0=>QfW (E.E X Y q.e1 g1 ok h1 H0 A0) (QfX (Qav B ht) (Qdg (Qav B hi) H0 A0) set_list λv=>rfl) QcT ?_ rfl) (λH0 A0=>QfW (E.E X Y q.e2 g2 ok h2 H0 A0) (QfX (Qav B ht) (Qdg (Qav B hk) H0 A0) set_list λv=>rfl) QcT ?_ rfl) (λH0 A0=>QfW (E.E X Y q.e3 g3 ok h3 H0 A0) (QfX (Qav B hb) (Qdg (Qav B hi) H0 A0) set_list λv=>rfl) QcT ?_ rfl) (λH0 A0=>QfW (E.E X Y q.e4 g4 ok h4 H0 A0) (QfX (Qav B hb) (Qdg (Qav B hk) H0 A0) set_list λv=>rfl) QcT ?_ rfl) (ih.Ss X Y q.r g ok h5)
    ·cases q.e1<;>rfl
    ·cases q.e2<;>rfl
    ·cases q.e3<;>rfl
    ·cases q.e4<;>rfl
   change(match Qrr (st::r)with
    | some q=>if Y.gl "list" =true then(Y.QbH q.x).bind λx=>(Y.slot q.x).bind λx'=>if x'=x then(Qu n Y q.y).bind λfy=>(Qu n Y q.i1).bind λf1=>(Qu n Y q.e1).bind λg1=>(Qu n Y q.i2).bind λf2=>(Qu n Y q.e2).bind λg2=>(QaD n Y q.r).map λg=>Qd (QkK x fy f1 g1 f2 g2) g else none else none
    | none=>(Qjy n Y st).bind λf=>(QaD n Y r).map λg=>Qd f g)=some f at h
   split at h
   ·rename_i q hq;split at h
    case isFalse=>cases h
    rename_i hg;refine Qf h λx hx h=>?_;refine Qf h λx' hx' h=>?_;split at h
    case isFalse=>cases h
    rename_i hxx;subst hxx;refine Qf h λfy h1 h=>?_;refine Qf h λf1 h2 h=>?_;refine Qf h λg1 h3 h=>?_;refine Qf h λf2 h4 h=>?_;obtain⟨g2,g,h5,h6,rfl⟩:=Qa2 h;obtain⟨p1,p2,p3,p4,a1,a2,a3,b1,b2,b3,hs⟩:=Qut hq;rw[hs];have E:=QbC n;have hN:X.N.Nodup:=by rw[ok.N];exact ok.nd
    obtain⟨g1',g2',g3'⟩:=Qd9 ok.toCtxB hg;obtain⟨l1,l2,l3⟩:=Qcq ok.toCtxB hx;have n1:=Qjr h2;have n2:=Qjr h4;refine QyY (λH0 A0=>Qf3 hN l1 l2 (QiC Qjb g1' (ok.mg _ (by decide+kernel)) Zbw (Qhs (E.E X Y q.y fy ok h1) Qlj (QaM h1 _ _) H0 A0) (by decide) (by decide) (QaM h1 _ _) rfl) (QdA rfl) l3) (λH0 A0=>QfW (E.E X Y q.e1 g1 ok h3 H0 A0) (QfX (Qav ok.toCtxB hx') (E.E X Y q.i1 f1 ok h2 H0 A0) set_list ?_) QcT ?_ rfl) (λH0 A0=>QfW (E.E X Y q.e2 g2 ok h5 H0 A0) (QfX (Qav ok.toCtxB hx') (E.E X Y q.i2 f2 ok h4 H0 A0) set_list ?_) QcT ?_ rfl) (ih.Ss X Y q.r g ok h6)
    ·intro v;cases hi:q.i1<;>first | rfl | (rw[hi]at n1;cases n1)
    ·cases q.e1<;>rfl
    ·intro v;cases hi:q.i2<;>first | rfl | (rw[hi]at n2;cases n2)
    ·cases q.e2<;>rfl
   ·obtain⟨fs,fr,h1,h2,rfl⟩:=Qa2 h;exact Qqx (ih.S X Y st fs ok h1) (ih.Ss X Y r fr ok h2)
noncomputable def Qau(k:Nat)(ds:List D):En:=ds.map (λd=>some (d,d.flat))++List.replicate (k-ds.length) none
noncomputable def outD:Out->Option (D×Bool)
 | .rt d fr=>some (d,fr)
 | .nx _=>some (.non,true)
 | _=>none
noncomputable def Qx(k:Nat)(f:DS):Den:=λds=>(f (Qau k ds)).bind outD
theorem Rps.parts{K:Fgg}{H:Hp}:∀{ds:List D}{vs:List V}{F:LAd},Rps K H ds vs F→
  ∃Fs:List (List Addr),(∀L∈Fs,∀a∈L,a∈F)/\∀(i:Nat) (d:D),ds[i]? =some d->∃v,vs[i]? =some v/\Rp K H d v (Fs.getD i [])
 | [],_,_,h=>⟨[],λL hL=>by simp at hL,λi d e=>by simp at e⟩
 | d::ds,_,_,h=>by
  simp only[Rps]at h;obtain⟨v,ws,F1,F2,rfl,rfl,r,q⟩:=h;obtain⟨Fs,h1,h2⟩:=Rps.parts q;refine⟨F1::Fs,λL hL a ha=>?_,λi d' e=>?_⟩
  ·rcases Zj.mp hL with rfl | hL
   ·exact Zg _ ha
   ·exact Ze _ (h1 L hL a ha)
  ·cases i with
   | zero=>simp at e;subst e;exact⟨v,by simp,by simpa using r⟩
   | succ i=>obtain⟨w,hw,hr⟩:=h2 i d' (by simpa using e);exact⟨w,by simpa using hw,by simpa using hr⟩
theorem QjQ{k:Nat}{ds:List D}{i:Nat}{d:D}{b:Bool}(h:(Qau k ds)[i]? =some (some (d,b))):ds[i]? =some d/\b=d.flat:=by
 unfold Qau at h;by_cases hi:i<ds.length
 ·rw[Zbj (by simpa using hi),Zr]at h;cases e:ds[i]? with
  | none=>rw[e]at h;cases h
  | some a=>rw[e]at h;cases h;exact⟨rfl,rfl⟩
 ·rw[ZbS (by simpa using hi),ZbX]at h;split at h<;>cases h
theorem Qi6{K:Fgg}{H:Hp}{ds:List D}{vs:List V}{F:LAd}{N:List Str}(r:Rps K H ds vs F):∃F0,Rel K H F [] (Qau N.length ds) F0 (start N vs) H:=by
 obtain⟨Fs,h1,h2⟩:=r.parts;have hl:=r.length;have src:∀i a,a∈Fs.getD i []->a∈F:=λi a ha=>by
  by_cases hi:i<Fs.length
  ·have:Fs.getD i []∈Fs:=by rw[ZaA,ZaW hi];exact List.getElem_mem hi
   exact h1 _ this a ha
  ·rw[ZaA,Zv ⋯]at ha;simp at ha
 refine⟨λi=>Fs.getD i [],?_,λi d b e=>?_,λi d e=>?_,λi d b e a ha=> .inr (src i a ha),λt ht=>absurd ht (by simp),QQ.refl _⟩
 ·unfold Qau L2.start;simp[hl]
 ·obtain⟨e1,_⟩:=QjQ e;obtain⟨v,hv,hr⟩:=h2 i d e1;refine⟨v,?_,hr⟩;have hi:i<vs.length:=(Zk.mp hv).1;unfold L2.start;rw[Zbj (by simpa using hi),Zr,hv];rfl
 ·obtain⟨e1,e2⟩:=QjQ e;obtain⟨v,hv,hr⟩:=h2 i d e1;have z:Fs.getD i []=[]:=hr.Qco e2.symm;simp only[z];exact⟨(Qeo d e2.symm).symm,ZaX,λa ha=>by simp at ha,λ_ _ _ _ _ a ha=>by simp at ha,λ_ _ a ha=>by simp at ha⟩
section
variable (P:Program) (w:World) (K:Fgg) (mg:Str->Option Value) (base:Heap)
def Known(k:Nat)(x:Str)(r:FnR):Prop:=∃f fd ps,Qcs P w K mg base CX0 k f fd ps (spV K r.n r.den)/\mg x=some (.ref f)/\PySem.W.keepIn K (.ref f)=true∧
 ∀m,m<=r.dfl.length->∃ds dvs,Binds K fd ps ds/\QK dvs ds/\∀H,Rps K H (r.dfl.drop (r.dfl.length-m)) dvs []
def Qb6(k:Nat)(Γ:List (Str×FnR)):Prop:=∀x r,look x Γ=some r->Known P w K mg base k x r
structure QeG (cs:List (Str×Int)):Prop where
 bn:∀x∈Qpz,mg x=none
 cs:∀x i,look x cs=some i->∃t,mg x=some (.int i t)
end
section
variable {P:Program}{w:World}{K:Fgg}{mg:Str->Option Value}{base:Heap}
theorem Qb6.nil{k:Nat}:Qb6 P w K mg base k []:=λx r h=>by cases h
theorem Known.mono{j k:Nat}{x:Str}{r:FnR}(h:Known P w K mg base j x r)(hk:j<=k):Known P w K mg base k x r:=by
 obtain⟨f,fd,ps,h1,h2⟩:=h;exact⟨f,fd,ps,h1.mono hk,h2⟩
theorem Qb6.cons{k:Nat}{Γ:List (Str×FnR)}{x:Str}{r:FnR}(t:Qb6 P w K mg base k Γ)(h:Known P w K mg base (k+1) x r):Qb6 P w K mg base (k+1) ((x,r)::Γ):=λy q e=>by
 unfold look at e;split at e
 ·rename_i z;cases e;subst z;exact h
 ·exact(t y q e).mono (ZbG _)
noncomputable def namesOf(sc:Scope):List Str:=(sc.names.filter λy=>QwD y.2).map (·.1)
noncomputable def QfY(st:Stmt)(Γ:List (Str×FnR))(cs:List (Str×Int)):Th:=⟨namesOf (Qv st),(Qv st).names,Γ,cs,λ_=>none⟩
theorem QqW{CX:CXT}{xe:Value->Shared->Prop}{st:Stmt}{ps:List Str}{qual:Str}{f:Addr}{cdv:Value}{A:Around}{outer:List Env}{s:Shared}{H:Hp}{E:XK}{k:Nat}{Γ:List (Str×FnR)}{cs:List (Str×Int)}(S:Qb8 (namesOf (Qv st)) ps (Qv st))(M:QeG mg cs)(tab:Qb6 P w K mg base k Γ)
  (hr:Qbf k (A.deeper (envOfC qual (Qv st) s.heap.objs.size f cdv))) (hp:PassesOwn (model P w) (A.deeper (envOfC qual (Qv st) s.heap.objs.size f cdv)) (envOfC qual (Qv st) s.heap.objs.size f cdv) xe):
  Qab ((Qfg CX P w K mg base (namesOf (Qv st)) qual (Qv st) f cdv A outer s H E).QfP xe) (QfY st Γ cs) where
 N:=rfl
 nd:=S.nd
 lc:=λx h=>by rw[QbM]at h;exact h
 ce:=λx h=>by rw[QbM]at h;exact⟨h,rfl⟩
 fe:=λx h=>by rw[QbM]at h;exact absurd rfl (S.nofree _ (Zap h))
 gl:=λx h=>by rw[QbM]at h;exact h
 calm:=decide_eq_true hr.hd
 pass:=hp
 tr:=λ_ _ h=>by cases h
 units:=hr.units
 mg:=M.bn
 fns:=λx r h=>by
  obtain⟨f',fd,ps',h1,h2,h3,h4⟩:=tab x r h;exact⟨k,f',fd,ps',h1,hr,h2,h3,h4⟩
 cs:=M.cs
theorem Qt7{st:Stmt}{ps:List Str}{qual:Str}{f:Addr}{cdv:Value}{A:Around}{outer:List Env}{s:Shared}{H:Hp}{E:XK}{k:Nat}{Γ:List (Str×FnR)}{cs:List (Str×Int)}(S:Qb8 (namesOf (Qv st)) ps (Qv st))(M:QeG mg cs)(tab:Qb6 P w K mg base k Γ)
  (hr:Qbf k (A.deeper (envOfC qual (Qv st) s.heap.objs.size f cdv))):Qab (Qfg CX0 P w K mg base (namesOf (Qv st)) qual (Qv st) f cdv A outer s H E).nox (QfY st Γ cs):=QqW S M tab hr PassesOwn.never
theorem Qs7{x qual:Str}{st:Stmt}{f:Addr}{fd:FuncData}{ps:List Str}{k n:Nat}{Γ:List (Str×FnR)}{cs:List (Str×Int)}{g:DS}(F:Fun K x qual st f fd)(S:Qb8 (namesOf (Qv st)) ps (Qv st))(M:QeG mg cs)(tab:Qb6 P w K mg base k Γ)
  (hc:QaD n (QfY st Γ cs) (Qa5 st)=some g):Qcs P w K mg base CX0 (k+1) f fd ps (spV K ps.length (Qx (namesOf (Qv st)).length g)):=by
 refine F.ok S (QqC rfl) λcdv A outer s H vs Q E hr h=>?_;obtain⟨ds,L,d,fr,rps,hl,hd,q⟩:=h;refine⟨_,(Qjx n).Ss _ _ _ g (Qt7 S M tab hr) hc H L,?_⟩;obtain⟨F0,rel⟩:=Qi6 (N:=namesOf (Qv st)) rps;unfold Qx at hd;refine Qf hd λo ho hd=>?_;refine⟨_,[],F0,o,rel,ho,?_⟩;cases o with
 | nx U=>
  cases hd;exact λσ H' F' rel'=>q .non H' [] ⟨rel'.same,.Qle,λa ha=>by simp at ha,λ_=>⟨ZaX,rfl,λa ha=>by simp at ha⟩⟩
 | bk U=>cases hd
 | ct U=>cases hd
 | rt d' fr'=>
  cases hd;exact λv H' G r=>q v H' G r
structure Fact (K:Fgg) (x:Str) (st:Stmt):Prop where
 ex:∃f fd,Fun K x x st f fd/\PySem.W.nsIn K mainGlobals x=some (some (.ref f))
theorem fact_mk{x:Str}{st:Stmt}{f:Addr}{oc:Value}{od an:Option Addr}{osl:Array (Option Value)}{kV doc pm cdv ct:Value}(a:PySem.W.nsIn K mainGlobals x=some (some (.ref f)))(l:K.lookup f=some ⟨oc,od,.func (PySem.W.fnOf x x (Qfy st) (Qa5 st) (Qv st) .none kV doc pm an cdv ct),osl⟩)
  (c:PySem.W.codeIn K cdv x=true) (k:PySem.W.keepIn K (.ref f)=true):Fact K x st:=⟨f,_,QAe l c k,a⟩
theorem l0{α:Type}{P:List α->Prop}(h:P []):∀l:List α,l.length=0->P l:=λl e=>(List.length_eq_zero_iff.mp e).symm▸h
theorem lc{α:Type}{n:Nat}{P:List α->Prop}(h:∀a,∀l:List α,l.length=n->P (a::l)):∀l:List α,l.length=n+1->P l
 | a::l,e=>h a l (Nat.succ.inj e)
def QbZ(x:Str)(st:Stmt)(ps:List Str):Prop:=∀(kV doc pm:Value) (an:Option Addr) (cdv ct:Value) (us:List Value),us.length=ps.length->bindArgs (PySem.W.fnOf x x (Qfy st) (Qa5 st) (Qv st) .none kV doc pm an cdv ct) ⟨us,[]⟩=pure (ps.zip us)
theorem Qkk{h:Heap}{x:Str}{st:Stmt}{ps:List Str}{k n:Nat}{Γ:List (Str×FnR)}{cs:List (Str×Int)}{g:DS}(X:K.In h)(G:h.Ns mainGlobals mg)(F:Fact K x st)(S:Qb8 (namesOf (Qv st)) ps (Qv st))(B:QbZ x st ps)(M:QeG mg cs)(tab:Qb6 P w K mg base k Γ)
  (hc:QaD n (QfY st Γ cs) (Qa5 st)=some g):Known P w K mg base (k+1) x ⟨ps.length,[],Qx (namesOf (Qv st)).length g⟩:=by
 obtain⟨f,fd,Fn,a⟩:=F.ex;refine⟨f,fd,ps,Qs7 Fn S M tab hc,Zbm X G a,Fn.kp,λm hm=>⟨[],[],Fn.binds (B ·),.nil,λH=>by simp[Rps]⟩⟩
end
end HS
namespace HS
open PySem PySem.Spec L2 PyProof.Rows
theorem Qk6:∀(ns:List Int) (n:Int),n∈ns->Builtin.Int.intBits n<=PySem.W.WData.weightAll (ns.map PySem.W.WData.int)
 | a::r,n,h=>by
  have e:PySem.W.WData.weight (.int a)=Builtin.Int.intBits a:=by simp only[PySem.W.WData.weight,Builtin.Int.intBits]
  simp only[ZJ,PySem.W.WData.weightAll,e];rcases Zj.mp h with rfl | h
  ·omega
  ·have:=Qk6 r n h;omega
theorem Qt0{ns:List Int}(h:PySem.W.WData.layableAll [.list (ns.map .int)]=true)(k:Nat):Builtin.Int.intBits (ns.getD k 0)<=2^20:=by
 have h1:=(PySem.W.layW_cons h).1;simp only[PySem.W.WData.layable,Zm,decide_eq_true_eq,PySem.W.WData.weight]at h1;rw[ZaA];cases e:ns[k]? with
 | none=>show Builtin.Int.intBits 0<=2^20;decide
 | some n=>exact Zt (Qk6 ns n (Zax e)) (of_decide_eq_true h1.2)
open PySem.W Att PySem.Calls in
theorem QoJ{l:OpenLaw}{n:Nat}{q:Program}{loose:List Str}{XP:(Str->Option Value)->Heap->Prop}{YP:World->Heap->Prop}{d:DefRec}
  (hn:l.most=some n) (hdf:d.params.defaults=[])
  (call:∀(w:World) (s₀ s₁:Shared) (mg mb:Str->Option Value) (fa:Addr) (o:Obj) (pm cd doc:Value) (a:Addr) (vs:List Value) (ns:List Int),
   Ground q loose [] XP w s₀ mg mb s₁.heap->YP w s₁.heap→
   s₁.heap.get? fa=some o->o.data= .func (docDef d.name d.params d.body d.scope pm cd doc)->s₁.heap.CodeRec cd d.name->mg d.name=some (.ref fa)→
   s₁.heap.get? a=some {cls:= .type "list",data:= .seq vs.toArray}->IntsAre vs ns->ns.length<=n->WData.layableAll [.list (ns.map .int)]=true->s₁.gens= #[]→
   codeAny (model l.prog w) callerA (.call (.ref fa) ⟨[.ref a],[]⟩) (λr s'=>r= .ok (.ret (.bool true))/\OldK s₁.heap s'.heap/\s'.os=s₁.os/\AllBare s'.gens) s₁):
  WalkO q loose XP YP l.row.toRowW d [] (λf vs=>PySem.call f vs):=by
 intro w s₀ s₁ mg mb G Y fa o pm cd doc dV kV ho hd hcd hD hmg hg args vals as hpre hlay hrd hwl hlo;obtain rfl:dV= .none:=Dflts.none hD hdf;obtain rfl:kV= .none:=Dflts.noKw hD;obtain⟨a,vs,ns,rfl,rfl,hobj,hints,hlen⟩:=QtV hn hpre hwl;refine enter_call (codeAny_mono (call w s₀ s₁ mg mb fa o pm cd doc a vs ns G Y ho (fd_plain hd) hcd hmg hobj hints hlen hlay hg) λr s' hq=>?_);obtain⟨rfl,h2,h3,h4⟩:=hq;exact⟨.inl ⟨.bool true,.bool true,[],rfl,λ_=>rfl,.bool true,Qtz l _,λ_=>⟨List.Pairwise.nil,λ_ hm=>(nomatch hm)⟩⟩,h2,h3,h4⟩
theorem Qsu{l:PySem.W.OpenLaw}{k:Nat}{q:Program}{loose:List Str}{XP:(Str->Option Value)->Heap->Prop}{YP:World->Heap->Prop}{d:DefRec}{K:Params->PySem.W.Frag}{den:Den}{x:Str}
  (hn:l.most=some 63) (hdf:d.params.defaults=[]) (hr:Qbf k callerA) (hY:∀(w:World) (h:Heap),YP w h->(K w.params).In h)
  (hden:∀ns:List Int,ns.length<=63->(∀k:Nat,Builtin.Int.intBits (ns.getD k 0)<=2^20)->∃fr,den [.lst (ns.map .int)]=some (.bl true,fr))
  (F:∀(w:World) (mg:Str->Option Value) (fa:Addr) (h:Heap),(K w.params).In h->h.Ns mainGlobals mg->mg d.name=some (.ref fa)→
   ∃fd:FuncData,(∀(s:Shared) (u:Value),BindsTo s fd ⟨[u],[]⟩ [(x,u)])∧
    ∀base:Heap,(K w.params).In base->base.Ns mainGlobals mg->Qcs l.prog w (K w.params) mg base CX0 k fa fd [x] (spV (K w.params) 1 den)):
  PySem.W.WalkO q loose XP YP l.row.toRowW d [] (λf vs=>PySem.call f vs):=by
 refine QoJ hn hdf λw s₀ s₁ mg mb fa o pm cd doc a vs ns G Y ho hd hcd hmg hobj hints hlen hlay hg=>?_;have KX:=hY w _ Y;obtain⟨fd,hb,hF⟩:=F w mg fa _ KX G.T.g hmg;have h63:(63:Nat)<=sizeLine:=by decide
 refine QvS KX G.T.g G.T.b G.T.builtins G.T.nolimit hg hobj hints (Zt hlen h63) hr hF hb (λH hO hS=>?_) λH e s' z=>z;have fx:Fix (K w.params) H a (ns.map V.int):=by
  rcases hS with(h | ⟨o,h⟩) | ⟨o,its,n,hk,hc,hdn,hda,hz,rv⟩
  ·rcases hO a with z | ⟨o,xs,z⟩<;>rw[h]at z<;>cases z
  ·exact .inl ⟨o,h⟩
  ·have e:=KX a o hk;rw[hobj]at e;cases e;cases hda;exact .inr ⟨vs,_,hk,by rw[Zn];exact Zt hlen h63,by simpa using rv⟩
 obtain⟨fr,hfr⟩:=hden ns hlen (Qt0 hlay);have rp:Rp (K w.params) H (.lst (ns.map .int)) (.ref a) []:=by
  simp only[Rp];refine⟨by rw[Zn];exact Zt hlen h63,a,_,rfl,.inr ⟨fx,?_⟩⟩;have gen:∀ns:List Int,Rps (K w.params) H (ns.map .int) (ns.map .int) []:=by
   intro ns
   induction ns with
   | nil=>simp[Rps]
   | cons n ns ih=>simp only[ZJ,Rps];exact⟨_,_,[],[],rfl,rfl,.int_mk,ih⟩
  exact gen ns
 refine⟨[.lst (ns.map .int)],[],.bl true,fr,?_,rfl,hfr,λv H' G r=>r.rp.QiJ⟩;simp only[Rps];exact⟨_,_,[],[],rfl,rfl,rp,rfl,rfl⟩
theorem QBi{P:Program}{w:World}{K:Fgg}{mg:Str->Option Value}{h:Heap}{x y:Str}{st:Stmt}{fa:Addr}{k n:Nat}{Γ:List (Str×FnR)}{cs:List (Str×Int)}{g:DS}(X:K.In h)(G:h.Ns mainGlobals mg)(hmg:mg x=some (.ref fa))
  (F:Fact K x st) (S:Qb8 (namesOf (Qv st)) [y] (Qv st)) (B:QbZ x st [y]) (M:QeG mg cs) (tab:∀base:Heap,Qb6 P w K mg base k Γ) (hc:QaD n (QfY st Γ cs) (Qa5 st)=some g):
  ∃fd:FuncData,(∀(s:Shared) (u:Value),BindsTo s fd ⟨[u],[]⟩ [(y,u)])∧
    ∀base:Heap,K.In base->base.Ns mainGlobals mg->Qcs P w K mg base CX0 (k+1) fa fd [y] (spV K 1 (Qx (namesOf (Qv st)).length g)):=by
 obtain⟨f,fd,Fn,a⟩:=F.ex;have e:=hmg.symm.trans (Zbm X G a);cases e;refine⟨fd,λs u=>?_,λbase _ _=>Qs7 Fn S M (tab base) hc⟩;obtain⟨oc,od,kV,doc,pm,an,cdv,ct,osl,rfl,lk,hcd⟩:=Fn.ex;exact .of_eq (B kV doc pm an cdv ct [u] rfl)
end HS
namespace HS
open PySem PySem.Spec PyProof.Rows L2
section
variable {P:Program}{w:World}{K:Fgg}{mg:Str->Option Value}{base:Heap}
end
end HS
namespace HS
open PySem PySem.Spec L2 PyProof.Rows
theorem Qvt(x:QbW P w H h a o):∃u,h.get? a=some u:=by
 cases o with
 | lst xs=>obtain⟨_,_,_,_,e⟩:=x;exact⟨_,e⟩
 | tup xs=>obtain⟨_,_,_,ob,e,_⟩:=x;exact⟨_,e⟩
 | dK kvs=>obtain⟨_,_,_,_,o,_,_,e,_⟩:=x;exact⟨_,e⟩
 | dT kvs=>obtain⟨_,_,_,_,o,_,_,e,_⟩:=x;exact⟨_,e⟩
 | set S n=>obtain⟨o,_,_,_,e,_⟩:=x;exact⟨_,e⟩
 | ins C dx fs=>obtain⟨_,_,_,e,_⟩:=x;exact⟨_,e⟩
 | own y=>exact x
 | xd fs=>obtain⟨_,⟨_,_,_,e,_⟩,_⟩:=x;exact⟨_,e⟩
 | rng lo hi=>obtain⟨_,_,_,e⟩:=x;exact⟨_,e⟩
 | frz ob u=>obtain⟨e,_⟩:=x;exact⟨_,e⟩
 | tbl ps=>exact⟨_,show h.get? a=some _ from x⟩
 | met f y=>exact⟨_,show h.get? a=some _ from x⟩
 | ext φ=>obtain⟨_,e,_⟩:=x;exact e
section
variable {P:Program}{w:World}{H H':Hp}{h0 h h' B:Heap}{fs:LAd}
def Cov(H:Hp)(B:Heap):Prop:=∀b u,H b=some u->∃o,B.get? b=some o
theorem Qm5(hok:HOk P w H h)(hB:B.StaysIn h)(hB':B.StaysIn h')(cov:Cov H B):HOk P w H h':=λa o e=>
 (hok a o e).QgV (λc v hc q=>by
  have:∃u,H c=some u:=by
   rcases hc with rfl | hc
   ·exact⟨_,e⟩
   ·exact⟨_,hc⟩
  obtain⟨u,hu⟩:=this;obtain⟨o',ho'⟩:=cov c u hu;have:=hB _ _ ho';rw[q]at this;cases this;exact hB' _ _ ho') (λ_ q=>q) λ_ _ q=>q
theorem Qpi(u:Un fs [] H H' h0 h)(hB:B.StaysIn h)(hB':B.StaysIn h')(up:h.UpToSlots h')(old:∀b o,h0.get? b=some o->b∉fs->∃o',B.get? b=some o')
  (dat:∀b o,h0.get? b=some o->b∈fs->∀vs,o.data≠ .fields vs) (frf:∀b∈fs,H b=none):Un fs [] H H' h0 h' where
 keep:=λb o e n hb hx=>by
  obtain⟨o',e1⟩:=old b o e hb;have:=hB _ _ e1;rw[u.keep b o e n hb hx]at this;cases this;exact hB' _ _ e1
 slot:=λb o e n hb hx=>by
  obtain⟨sl,e1⟩:=u.slot b o e n hb hx;obtain⟨sl',e2⟩:=up b _ e1 (dat b o e hb);exact⟨sl',e2⟩
 free:=u.free
 there:=λb o e hx=>by
  by_cases hb:b∈fs
  ·obtain⟨sl,e1⟩:=u.slot b o e (frf b hb) hb hx;obtain⟨sl',e2⟩:=up b _ e1 (dat b o e hb);exact⟨_,e2⟩
  ·obtain⟨o',e1⟩:=old b o e hb;exact⟨_,hB' _ _ e1⟩
 tups:=u.tups
 frzs:=u.frzs
 tbls:=u.tbls
end
noncomputable def CXR(P:Program)(w:World):CXT:=λouter H s E e s'=>∃ea C H' B a0,e=Value.ref ea/\s'.os=s.os/\AllBare s'.gens/\Un (frs outer) [] H H' s.heap s'.heap/\HOk P w H' s'.heap/\Heap.FlyingW B outer ea C a0 s'.heap∧
 Cov H' B/\(∀b o,s.heap.get? b=some o->b∉frs outer->∃o',B.get? b=some o')/\E C none H'
def Qhu(X:Cx)(H0:Hp)(A0:LAd)(hs:List (V×D×List Addr))(U:En)(C:Value)(ea:Addr)(s':Shared):Prop:=∃pins σ H F,Rel X.K H0 A0 hs U F σ H∧
 ((∃sg args,Inv X pins σ H sg/\Heap.MadeExcOf sg.heap s'.heap ea C args/\s'.os=sg.os/\s'.gens=sg.gens)∨
  ∃B a0,Inv X pins σ H s'/\Heap.FlyingW B X.stack ea C a0 s'.heap/\Cov H B/\(∀b o,X.s₀.heap.get? b=some o->b∉X.fs->∃o',B.get? b=some o')/\∀p∈X.pn++pins,∃o,B.get? p.1=some o)
theorem QsQ(I:Inv X pins σ H s)(hx:X.ex=[])(e:X.s₀.heap.get? b=some o)(hb:b∉X.fs):(∃o',s.heap.get? b=some o')/\b∉frs X.stack:=by
 refine⟨I.base.there b o e (by rw[hx];simp),λz=>?_⟩;rcases Zj.mp (I.QfS b z)with q | q
 ·have h1:=Zs e;have h2:=I.ok.above;rw[q]at h1;exact absurd (Zp h1 h2) (ZY _)
 ·exact hb q
theorem Qln{X:Cx}(ok:X.Ok){b:Addr}{o:Obj}(e:X.s₀.heap.get? b=some o)(hb:b∈X.fs):∀vs,o.data≠ .fields vs:=by
 obtain⟨_,o',e',h⟩:=ok.Qec.mem hb;rw[e]at e';cases e';exact h
theorem QoX(I:Inv X pins σ H s)(hx:X.ex=[]):∃B:Heap,B.StaysIn s.heap/\s.heap.FunFrames B X.stack/\Cov H B/\(∀b o,X.s₀.heap.get? b=some o->b∉X.fs->∃o',B.get? b=some o')/\∀p∈X.pn++pins,∃o,B.get? p.1=some o:=by
 refine⟨PySem.W.hideAll s.heap (frs X.stack),λb o e=>PySem.W.of_hideAll _ e,PySem.W.funFrames_hide I.stack λenv he a ha=>ZaZ.mpr ⟨env,he,ha⟩,λb u e=>?_,λb o e hb=>?_,λp hp=>?_⟩
 ·obtain⟨o,ho⟩:=Qvt (I.hok b u e);exact⟨o,Zbk _ ho λz=>by rw[I.Qni b z]at e;cases e⟩
 ·obtain⟨⟨o',h1⟩,h2⟩:=QsQ I hx e hb;exact⟨o',Zbk _ h1 h2⟩
 ·obtain⟨e,_,ne,nf,_⟩:=I.pin p hp;exact⟨_,Zbk _ e λz=>(Zj.mp (I.QfS _ z)).elim ne nf⟩
theorem Qov{X:Cx}{P:Program}{w:World}{E:XK}{H0:Hp}{A0:LAd}{hs:List (V×D×List Addr)}{U:En}{C:Value}{ea:Addr}{s':Shared}{env:Env}{outer:List Env}{Er:Value->Shared->Prop}
  (hp:X.prog=P) (hw:X.w=w) (hx:X.ex=[]) (hst:X.stack=env::outer) (hfs:X.outer=outer) (hen:X.env=env) (hf:env.frame=some X.env.locals) (T:Qhu X H0 A0 hs U C ea s')
  (hE:∀H,QQ H0 H->E C none H):wpAny (model P w) X.A (leaving env (.ref ea)) (λ_ s''=>CXR P w outer X.H₀ X.s₀ E (.ref ea) s'') Er s':=by
 subst hp hw hfs;obtain⟨pins,σ,H,F,rel,⟨sg,args,I,hm,ho,hg⟩ | ⟨B,a0,I,fl,cov,old,_⟩⟩:=T
 ·obtain⟨B,b1,b2,cov,old,_⟩:=QoX I hx;rw[hst]at b2;have hfr:=I.ok.frames;rw[hst]at hfr;refine wpAny_leaves_madeW hfr hf b1 b2 hm λh' t fl _ _ up=>?_;have up':sg.heap.UpToSlots h':=(Heap.UpToSlots.of_keeps hm.keeps).trans up;have hb:=I.base;rw[hx]at hb;exact⟨ea,C,H,B,_,rfl,ho.trans I.os,hg▸I.bare,Qpi hb b1 fl.1 up' old (λb o e hb=>Qln I.ok e hb) I.ok.frf,Qm5 I.hok b1 fl.1 cov,fl,cov,old,hE H rel.same⟩
 ·have hfr:=I.ok.frames;rw[hst]at hfr fl;refine wpAny_leaves_onW hfr hf fl λh' fl' up=>?_;have hb:=I.base;rw[hx]at hb;exact⟨ea,C,H,B,_,rfl,I.os,I.bare,Qpi hb fl.1 fl'.1 up old (λb o e hb=>Qln I.ok e hb) I.ok.frf,Qm5 I.hok fl.1 fl'.1 cov,fl',cov,old,hE H rel.same⟩
noncomputable abbrev DX:=En->Option (Str×En)
def ClsAt(K:Fgg)(x:Str)(C:Addr):Prop:=PySem.W.nsIn K mainGlobals x=some (some (.ref C))
def cRz(X:Cx)(H0:Hp)(A0:LAd)(fx:DX)(σ:L2.St)(H:Hp):Prop:=∃U hs F x U',Rel X.K H0 A0 hs U F σ H/\fx U=some (x,U')/\∀C ea s',ClsAt X.K x C->Qhu X H0 A0 hs U' (.ref C) ea s'->X.xe (.ref ea) s'
noncomputable def tRz(X:Cx)(H0:Hp)(A0:LAd)(fx:DX):TS:=λ_ σ H=>cRz X H0 A0 fx σ H
noncomputable def eRz(X:Cx)(H0:Hp)(A0:LAd)(fx:DX):TE:=λσ H _=>cRz X H0 A0 fx σ H
def Rz(X:Cx)(st:Stmt)(fx:DX):Prop:=∀H0 A0,PS X st (tRz X H0 A0 fx)
def RzS(X:Cx)(sts:List Stmt)(fx:DX):Prop:=∀H0 A0,PSs X sts (tRz X H0 A0 fx)
def RzE(X:Cx)(e:Expr)(fx:DX):Prop:=∀H0 A0,PE X e (eRz X H0 A0 fx)
noncomputable def xNo:DX:=λ_=>none
noncomputable def QdZ(x:Str)(fs:DA):DX:=λU=>(fs U).bind λr=>if r.ds.length<=1 then some (x,U)else none
noncomputable def QcH(n:Nat)(xd:List D->Option Str)(fs:DA):DX:=λU=>(fs U).bind λr=>if r.ds.length=n then(xd r.ds).map λc=>(c,U)else none
noncomputable def xIf(g:DT)(fa fb:DX):DX:=λU=>(g U).bind λb=>if b=true then fa U else fb U
noncomputable def Qbm(f:DS)(fx fr:DX):DX:=λU=>match f U with
 | some (.nx U')=>fr U'
 | some _=>none
 | none=>fx U
noncomputable def QeL(t:Tg)(fb:DS)(fx:DX):List D->DX
 | [],_=>none
 | d::ds,U=>(Qbr t d U).bind λU1=>match fb U1 with
  | some (.nx U2)=>QeL t fb fx ds U2
  | some (.ct U2)=>QeL t fb fx ds U2
  | some _=>none
  | none=>fx U1
noncomputable def Qkp(fi:DI)(t:Tg)(fb:DS)(fx:DX):DX:=λU=>(fi U).bind λir=>QeL t fb fx ir.items (QaX ir.M U)
noncomputable def spX(K:Fgg)(n:Nat)(xd:List D->Option Str):Sp:=λvs H _ E=>∃ds L x,Rps K H ds vs L/\ds.length=n/\xd ds=some x/\∀C H',ClsAt K x C->QQ H H'->E (.ref C) none H'
theorem Qyl{K:Fgg}{n:Nat}{xd:List D->Option Str}{ps:List Str}(hn:ps.length=n):∀vs H Q E,spX K n xd vs H Q E->vs.length=ps.length:=λvs H Q E ⟨ds,L,x,r,hl,_⟩=>by rw[hn,← hl,r.length]
section
variable {X:Cx}{st:Stmt}{sts:List Stmt}{e:Expr}{es:List Expr}{fs:DA}{f:DS}{fx fr fy:DX}{g:DT}{pos p np cpos:Pos}{x:Str}{k n:Nat}{fa:Addr}{fd:FuncData}{ps:List Str}{xd:List D->Option Str}
theorem Qif:Rz X st xNo:=λH0 A0 pins s σ H Dd I ⟨U,hs,F,x,U',rel,e,q⟩=>by cases e
theorem Qxe:RzS X [] xNo:=λH0 A0 pins s σ H Dd I ⟨U,hs,F,x,U',rel,e,q⟩=>by cases e
theorem Qhu.hold(h:Qhu X H0 A0 (ts++hs) U C ea s'):Qhu X H0 A0 hs U C ea s':=by
 obtain⟨pins,σ,H,F,rel,q⟩:=h;exact⟨pins,σ,H,F,rel.QpU,q⟩
theorem Qw1(Fk:Qcs X.prog X.w X.K X.mg X.base (CXR X.prog X.w) k fa fd ps (spX X.K n xd))(hr:Qbf k X.A)(hg:Gl X x)(hm:X.mg x=some (.ref fa))(hk:PySem.W.keepIn X.K (.ref fa)=true)(hb:Binds X.K fd ps [])(hx:X.ex=[])(hn:ps.length=n)
  (ha:SA X (e::es) fs) (hdb:(x == ("__debug__" :Str))=false) (he:starEach (e::es) X.env=(false,eval e X.env)::starEach es X.env) (hpl:(backTo pos (starEach es X.env)).any (·.1)=false):
  RzE X (.Call (.Name x p) (e::es) [] pos) (QcH n xd fs):=λH0 A0 pins s σ H Q I Z=>by
 obtain⟨U,hs,F,c,U',rel,ex,q⟩:=Z;refine Qf ex λra e1 ex=>?_;split at ex
 ·rename_i hl;obtain⟨c',e2,e3⟩:=Zh.mp ex;cases e3;refine wpAny_Call_Name_kw (Qft I hg hm ?_ hdb);refine PySem.W.callWith_K (h₀:=X.base) I.ok.mod.kin hk (thn (ha H0 A0 pos pins s σ H (λvs H1=>∃G,QrX X.K U F H H1 ra vs G) I ⟨U,hs,F,ra,rel,e1,λvs H1 G p1=>⟨G,p1⟩⟩) λus s1 ⟨vs,H1,I1,rv,G,p1⟩=>⟨I1.kIn,?_⟩) he hpl;have hlen:(us++[]).length=ps.length:=by rw[ZaQ,← rv.length,← p1.rp.length,hl,hn]
  have hbb:=hb s1 us I1.kIn hlen;rw[ZaQ]at hbb;refine wpAny_call (codeAny_mono (Fk.run X.A X.stack s1 H1 ⟨us,[]⟩ us vs (λ_ _=>False) (λc' _ H'=>∃C,c'= .ref C/\ClsAt X.K c C/\QQ H1 H') hr I1.Qy4 hbb rv ⟨ra.ds,G,c,p1.rp,hl,e2,λC H' hC sm=>⟨C,rfl,hC,sm⟩⟩) λr s' hq=>?_);cases r with
  | error ev=>
   obtain⟨ea,C',H',B,a0,rfl,os,bare,un,hok,fl,cov,old,C,rfl,hC,sm⟩:=hq;exact q C ea s' hC ⟨pins,σ,H',F,(rel.ext p1.same).ext sm,.inr ⟨B,a0,I1.QwB os un hok bare (λb z=>absurd z (by simp)),fl,cov,λb o eb hbf=>by
    obtain⟨⟨o',h1⟩,h2⟩:=QsQ I1 hx eb hbf;exact old b o' h1 h2,λp hp=>by
    obtain⟨e,_,ne,nf,_⟩:=I1.pin p hp;exact old _ _ e λz=>(Zj.mp (I1.QfS _ z)).elim ne nf⟩⟩
  | ok fl=>
   cases fl with
   | ret u=>obtain⟨v,H',_,_,_,_,_,z⟩:=hq;exact z.elim
   | next=>exact False.elim hq
   | brk=>exact False.elim hq
   | cont=>exact False.elim hq
 ·cases ex
theorem QxB(h:RzE X e fx)(hs:swapsWith e none pos.line X.env=pure false):Rz X (.Expr e pos) fx:=λH0 A0=>Qmx (h H0 A0) hs
theorem QyZ{i:Nat}(hN:X.N.Nodup)(h1:X.N[i]? =some x)(h2:Loc X.env.scope x)(h3:X.fn x=true∨X.env.scope.names.lookup x=some .local)(h:RzE X e fx)(hs:swapsWith e (some (.Name x p)) pos.line X.env=pure false):Rz X (.Assign [.Name x p] e pos) fx:=λH0 A0=>Qf3 hN h1 h2 (h H0 A0) hs h3
theorem QBN(hc:ST X c g)(ha:RzS X a fx)(hb:RzS X b fy):Rz X (.If c a b pos) (xIf g fx fy):=λH0 A0=>(QwC (hc H0 A0) (ha H0 A0) (hb H0 A0)).mono λDd σ H Z=>by
 obtain⟨U,hs,F,x,U',rel,e,q⟩:=Z;refine Qf e λc e1 e=>?_;refine⟨U,hs,F,c,rel,e1,λH1 s1=>?_⟩;cases c with
 | true=>exact Qsp ⟨U,hs,F,x,U',rel.ext s1,e,q⟩
 | false=>exact QrH ⟨U,hs,F,x,U',rel.ext s1,e,q⟩
theorem QBY{t u:TS}(h1:PS X st t)(h2:PS X st u):PS X st (λDd σ H=>t Dd σ H∨u Dd σ H):=λpins s σ H Dd I q=>q.elim (h1 pins s σ H Dd I) (h2 pins s σ H Dd I)
theorem QAL(h1:PSs X sts t)(h2:PSs X sts u):PSs X sts (λDd σ H=>t Dd σ H∨u Dd σ H):=λpins s σ H Dd I q=>q.elim (h1 pins s σ H Dd I) (h2 pins s σ H Dd I)
theorem Qvz(h1:S1 X st f)(h2:Rz X st fx)(h3:RzS X sts fr):RzS X (st::sts) (Qbm f fx fr):=λH0 A0=>(QbY (QBY (h1 H0 A0) (h2 H0 A0)) (h3 H0 A0)).mono λDd σ H Z=>by
 obtain⟨U,hs,F,x,U',rel,e,q⟩:=Z;unfold Qbm at e;split at e
 ·rename_i U1 e1;exact .inl ⟨U,hs,F,_,rel,e1,λσ' H' F' rel'=>⟨U1,hs,F',x,U',rel',e,q⟩⟩
 ·cases e
 ·exact .inr ⟨U,hs,F,x,U',rel,e,q⟩
theorem Qz7(hp:PassesOwn (model X.prog X.w) X.A X.env X.xe)(hc:X.calm=true)(hi:SI X tg iter fi)(hg:SG X tg t)(hb:SS X body f)(hbx:RzS X body fx)(hs:∀x,foldedSetIterable iter X.env x=pure x):
  Rz X (.For tg iter body [] pos) (Qkp fi t f fx):=λH0 A0=>(QsM hp hc (hi H0 A0) (hg H0 A0) (QAL (hb H0 A0) (hbx H0 A0)) hs).mono λDd σ H Z=>by
 obtain⟨U,hs,F,c,U',rel,e,q⟩:=Z;refine Qf e λir e1 e=>?_;refine⟨U,hs,F,ir,rel,e1,λJ H1 ts s1 wk hts ow hz=>?_⟩;have rel1:Rel X.K H0 A0 (ts++hs) (QaX ir.M U) F σ H1:=((rel.ext s1).weak (Qbd ir.M U)).hold λt ht=>⟨(hts t ht).1,Shr.of rel (hts t ht).2⟩;refine⟨λi m σ' H'=>m=ir.items.length-i/\i<=ir.items.length/\∃Ui Fi,Rel X.K H0 A0 (ts++hs) Ui Fi σ' H'/\QeL t f fx (ir.items.drop i) Ui=some (c,U'),⟨_,rfl,Zaa _,_,F,rel1,by simpa using e⟩,?_⟩;rintro i m σ' H' ⟨rfl,hi',Ui,Fi,reli,ei⟩;have held:QkI X.K H' ts:=λt ht=>(reli.held t (Zg _ ht)).1;by_cases hlt:i<ir.items.length
 ·rw[ZW hlt]at ei;unfold QeL at ei;refine Qf ei λU1 eb ei=>?_;refine .inr ⟨wk.go i H' hlt held,λσ2 H2=>∃U2 F2,Rel X.K H0 A0 (ts++hs) U2 F2 σ2 H2/\QeL t f fx (ir.items.drop (i+1)) U2=some (c,U'),λσ2 H2 ⟨U2,F2,rel2,e2⟩=>⟨_,⋯,rfl,hlt,U2,F2,rel2,e2⟩,λx H2 hy=>?_⟩;obtain⟨s2,G0,rp0,hG0⟩:=wk.yld i ir.items[i] H' x H2 (by simp[hlt]) held hy;have shr:Shr H0 A0 Ui Fi G0:=λa ha=>by
   obtain⟨t,ht,hat⟩:=hG0 a ha;exact⟨(reli.held t (Zg _ ht)).2 a hat,λj d ej hj=>(reli.own j d ej).2.2.2.2 t (Zg _ ht) a hj hat⟩
  refine⟨Ui,ts++hs,Fi,ir.items[i],G0,U1,reli.ext s2,rp0,shr,eb,λσ3 F3 rel3 _ _=>?_⟩;split at ei
  ·rename_i U2 eo;exact .inl ⟨U1,ts++hs,F3,_,rel3,eo,λσ4 H4 F4 rel4=>⟨U2,F4,rel4,ei⟩⟩
  ·rename_i U2 eo;exact .inl ⟨U1,ts++hs,F3,_,rel3,eo,λσ4 H4 F4 rel4=>⟨U2,F4,rel4,ei⟩⟩
  ·cases ei
  ·exact .inr ⟨U1,ts++hs,F3,c,U',rel3,ei,λC ea s' hC T=>q C ea s' hC T.hold⟩
 ·have hn:i=ir.items.length:= ⋯
  subst hn;rw[Zcc]at ei;cases ei
end
noncomputable abbrev QCf:List Value:=[.type "ValueError",.type "Exception",.type "BaseException",.type "object"]
structure QiM (K:Fgg) (x:Str):Prop where
 ex:∃C,ClsAt K x C/\PySem.W.excIn K C QCf "ValueError.__new__" =true
theorem QuJ{K:Fgg}{C:Addr}{bmB:List Value}{newId:String}(q:PySem.W.excIn K C bmB newId=true){h:Heap}(X:K.In h):∃bm N nm qn bs hdct sn sub ab col dd k0 k1 k2 k3 k5 mN,
  h.get? C=some (excClassObj nm qn C N bs bm hdct sn sub ab col dd k0 k1 k2 k3 k5 newId)/\h.Ns N mN/\mN "__init__" =none/\OwnTail h bmB bm:=by
 rw[PySem.W.excIn.eq_def]at q;split at q
 case h_2=>cases q
 rename_i dd cd sl ho;split at q
 case h_2=>cases q
 rename_i C1 bm k0 k1 k2 k3 nid k5 em es;simp only[Zm,beq_iff_eq,ZaI]at q;obtain⟨⟨⟨⟨⟨z1,z2⟩,nodel⟩,tl⟩,okN⟩,noInit⟩:=q;subst z1 z2;have hget:=X _ _ ho;have hsl:sl= #[k0,k1,k2,k3,some (.builtin nid),k5]:=Array.ext' es;rw[hsl]at hget;refine⟨bm,cd.ns,cd.name,cd.qualname,cd.bases,cd.hasDict,cd.slotNames,cd.subclasses,cd.abstract,cd.collection,dd,k0,k1,k2,k3,k5,_,?_,.of_isNs (PySem.W.isNs_of_in X okN),PySem.W.nsMap_none_of_in X okN noInit,PySem.W.tail_of_in X tl⟩;rw[hget];cases cd with
 | mk c1 c2 c3 c4 c5 c6 c7 c8 c9 c10 c11=>
  dsimp only at em nodel;rw[em,nodel]
section
variable {X:Cx}{e:Expr}{fs:DA}{x:Str}{np cpos pos:Pos}
theorem Qvf(hc:X.calm=true)(hg:Gl X x)(hk:QiM X.K x)(hdb:(x == ("__debug__" :Str))=false)(ha:SA X [e] fs)(he:starEach [e] X.env=(false,eval e X.env)::starEach [] X.env):
  Rz X (.Raise (some (.Call (.Name x np) [e] [] cpos)) none pos) (QdZ x fs):=λH0 A0 pins s σ H Dd I Z=>by
 obtain⟨U,hs,F,c,U',rel,ex,q⟩:=Z;refine Qf ex λra e1 e2=>?_;split at e2
 case isFalse=>cases e2
 rename_i hl;cases e2;obtain⟨C,hC,hq⟩:=hk.ex;obtain⟨bm,N,nm,qn,bs,hdct,sn,sub,ab,col,dd,k0,k1,k2,k3,k5,mN,o1,o2,o3,o4⟩:=QuJ hq I.ok.mod.kin;have hm:X.mg x=some (.ref C):=Zbm I.ok.mod.kin I.ok.mod.glob hC
 refine wpAny_Raise_call_subT (C:=C) (nm:=nm) (q:=qn) (N:=N) (bs:=bs) (bm:=bm) (hdct:=hdct) (sn:=sn) (sub:=sub) (ab:=ab) (col:=col) (dd:=dd) (k0:=k0) (k1:=k1) (k2:=k2) (k3:=k3) (k5:=k5)
  PySem.F.excBase_ValueError (mN:=mN) (o4.hasType PySem.F.excBase_ValueError.hasBase) (I.ok.hd hc) (by rw[he];rfl) o3 (Qft I hg hm ⟨rfl,?_⟩ hdb)
 have hargs:=ha H0 A0 cpos pins s σ H (λvs H1=>∃G,QrX X.K U F H H1 ra vs G) I ⟨U,hs,F,ra,rel,e1,λvs H1 G p1=>⟨G,p1⟩⟩;rw[he]at hargs ⊢;refine Calls.evalArgs_plain (thn hargs λus s2 ⟨vs,H1,I1,rv,G,p1⟩=>⟨rfl,?_,I1.bk _ _ o1,o2.keeps I1.bk,o4.keeps I1.bk,λh' ea hm=>?_⟩)
 ·show us.length<=sizeLine;rw[← rv.length,← p1.rp.length];exact Zt hl (by decide)
 ·exact q C ea _ hC ⟨pins,σ,H1,F,rel.ext p1.same,.inl ⟨s2,us,I1,hm,rfl,rfl⟩⟩
end
structure ThX where
 Γx:List (Str×(Nat×(List D->Option Str)))
 cls:List Str
structure XOk (X:Cx) (YX:ThX):Prop where
 ex:X.ex=[]
 stk:X.stack=X.env::X.outer
 fr:X.env.frame=some X.env.locals
 fx:∀x r,look x YX.Γx=some r->∃k f fd ps,Qcs X.prog X.w X.K X.mg X.base (CXR X.prog X.w) k f fd ps (spX X.K r.1 r.2)/\Qbf k X.A/\X.mg x=some (.ref f)/\PySem.W.keepIn X.K (.ref f)=true/\Binds X.K fd ps []/\ps.length=r.1
 cl:∀x∈YX.cls,QiM X.K x
noncomputable def xcE(n:Nat)(Y:Th)(YX:ThX)(e:Expr):DX:=match e with
 | .Call (.Name x _) (a::as) [] _=>if Y.gl x then(match look x YX.Γx with
  | some r=>(match QbI n Y (a::as)with | some fs=>QcH r.1 r.2 fs | none=>xNo)
  | none=>xNo)else xNo
 | _=>xNo
noncomputable def QvY:List Expr->Option Str
 | [e]=>QbB e
 | _=>none
theorem Qoh{e:Expr}{x:Str}{G:Expr->Prop}(h:QbB e=some x)(g:∀p,G (.Name x p)):G e:=by
 cases e with
 | Name z p=>cases h;exact g p
 | _=>exact nn h
noncomputable def QBF:Expr->Option (Str×Expr)
 | .Call f as kw _=>match kw with
  | _::_=>none
  | []=>match as with
   | []=>none
   | a::as=>match as with
    | _::_=>none
    | []=>(QbB f).map λx=>(x,a)
 | _=>none
mutual
noncomputable def Qr4(n:Nat)(Y:Th)(YX:ThX)(st:Stmt):Option DX:=match n with
 | 0=>none
 | n+1=>match st with
  | .Raise v c _=>match c with
   | some _=>none
   | none=>v.bind λe=>(QBF e).bind λq=>if Y.gl q.1 && YX.cls.contains q.1 then(QbI n Y [q.2]).map λfs=>QdZ q.1 fs else none
  | .Expr e _=>some (xcE n Y YX e)
  | .Assign ts e _=>match QvY ts with
   | none=>some xNo
   | some x=>(Y.QbH x).map λ_=>xcE n Y YX e
  | .If c a b _=>(Qa1 n Y c).bind λg=>(QeV n Y YX a).bind λfa=>(QeV n Y YX b).map λfb=>xIf g fa fb
  | .For tg iter body els _=>match els with
   | _::_=>some xNo
   | []=>(Qkv Y tg).bind λt=>(Qig n Y tg iter).bind λfi=>(QaD n Y body).bind λfb=>(QeV n Y YX body).map λfx=>Qkp fi t fb fx
  | _=>some xNo
noncomputable def QeV(n:Nat)(Y:Th)(YX:ThX)(sts:List Stmt):Option DX:=match n with
 | 0=>none
 | n+1=>match sts with
  | []=>some xNo
  | st::r=>(Qjy n Y st).bind λf=>(Qr4 n Y YX st).bind λfx=>(QeV n Y YX r).map λfr=>Qbm f fx fr
end
section
variable {X:Cx}{Y:Th}{YX:ThX}
theorem QlH{e:Expr}:RzE X e xNo:=λH0 A0 pins s σ H Q I ⟨U,hs,F,x,U',rel,e,q⟩=>by cases e
theorem QsV{n:Nat}(ok:Qab X Y)(xk:XOk X YX)(e:Expr):RzE X e (xcE n Y YX e)/\(xcE n Y YX e≠xNo->∃x p a as pos,e= .Call (.Name x p) (a::as) [] pos):=by
 unfold xcE;split
 ·rename_i x p a as pos;refine⟨?_,λ_=>⟨x,p,a,as,pos,rfl⟩⟩;split
  ·rename_i hg;obtain⟨g1,g2,g3⟩:=Qd9 ok.toCtxB hg;split
   ·rename_i r hr;split
    ·rename_i fs hfs;obtain⟨k,f,fd,ps,F1,F2,F3,F4,F5,F6⟩:=xk.fx x r hr;obtain⟨s1,s2⟩:=callArgs (X:=X) hfs rfl pos;exact Qw1 F1 F2 g1 F3 F4 F5 xk.ex F6 ((QbC n).A X Y _ fs ok hfs) g2 s1 s2
    ·exact QlH
   ·exact QlH
  ·exact QlH
 ·exact⟨QlH,λh=>absurd rfl h⟩
structure QAy (n:Nat):Prop where
 X:∀X Y YX st f,Qab X Y->XOk X YX->Qr4 n Y YX st=some f->Rz X st f
 Xs:∀X Y YX sts f,Qab X Y->XOk X YX->QeV n Y YX sts=some f->RzS X sts f
theorem QAB{n:Nat}(ih:QAy n):∀X Y YX st f,Qab X Y->XOk X YX->Qr4 (n+1) Y YX st=some f->Rz X st f:=by
 intro X Y YX st f ok xk h;have hN:X.N.Nodup:=by rw[ok.N];exact ok.nd
 cases st with
 | Raise v c pos=>
  cases c with
  | some _=>exact nn h
  | none=>
   refine Qf (show v.bind _=some _ from h) λe he h=>?_;cases he;refine Qf h λq hq h'=>?_;clear h;split at h'
   ·rename_i hc;simp only[Zm]at hc;refine mapR h' λfs h1=>?_;clear h';obtain⟨g1,g2,g3⟩:=Qd9 ok.toCtxB hc.1;obtain⟨s1,s2⟩:=callArgs (X:=X) h1 rfl pos;cases e with
    | Call fn as kw cp=>
     rcases kw with _ | ⟨k1,k2⟩
     ·rcases as with _ | ⟨a,_ | ⟨a2,as⟩⟩
      ·cases hq
      ·obtain⟨x,hx,rfl⟩:=Zh.mp (show(QbB fn).map _=some q from hq);exact Qoh (G:=λt=>Rz X (.Raise (some (.Call t [a] [] cp)) none pos) (QdZ x fs)) hx λnp=>Qvf ok.calm g1 (xk.cl x (by simpa using hc.2)) g2 ((QbC n).A X Y _ fs ok h1) s1
      ·cases hq
     ·cases hq
    | _=>exact nomatch (show(none:Option (Str×Expr))=some _ from hq)
   ·cases h'
 | Expr e pos=>
  cases(show some (xcE n Y YX e)=some f from h);obtain⟨h1,h2⟩:=QsV (n:=n) ok xk e;by_cases hz:xcE n Y YX e=xNo
  ·rw[hz];exact Qif
  ·obtain⟨x,p,a,as,pos',rfl⟩:=h2 hz;exact QxB h1 rfl
 | Assign ts e pos=>
  rcases ts with _ | ⟨t,_ | ⟨t2,ts⟩⟩
  ·cases(show some xNo=some f from h);exact Qif
  ·cases t with
   | Name x p=>
    refine mapR (show(Y.QbH x).map _=some f from h) λi hi=>?_;obtain⟨g1,g2,g3⟩:=Qcq ok.toCtxB hi;obtain⟨h1,h2⟩:=QsV (n:=n) ok xk e;by_cases hz:xcE n Y YX e=xNo
    ·rw[hz];exact Qif
    ·obtain⟨x,p,a,as,pos',rfl⟩:=h2 hz;exact QyZ hN g1 g2 g3 h1 (QdA rfl)
   | _=>cases(show some xNo=some f from h);exact Qif
  ·cases(show some xNo=some f from h);exact Qif
 | If c a b pos=>
  refine Qf (show(Qa1 n Y c).bind _=some f from h) λg h1 h=>?_;exact bindR h λfa fb h2 h3=>QBN ((QbC n).T X Y c g ok h1) (ih.Xs X Y YX a fa ok xk h2) (ih.Xs X Y YX b fb ok xk h3)
 | For tg iter body els pos=>
  cases els with
  | cons _ _=>cases(show some xNo=some f from h);exact Qif
  | nil=>
   refine Qf (show(Qkv Y tg).bind _=some f from h) λt h1 h=>?_;refine Qf h λfi h2 h=>?_;refine bindR h λfb fx h3 h4=>?_;obtain⟨i1,i2⟩:=(QbC n).I X Y tg iter fi ok h2;exact Qz7 ok.pass ok.calm i1 (Qor ok h1) ((Qjx n).Ss X Y body fb ok h3) (ih.Xs X Y YX body fx ok xk h4) i2
 | _=>cases(show some xNo=some f from h);exact Qif
theorem QrC:∀n,QAy n
 | 0=>⟨λ_ _ _ _ _ _ _ h=>(nn h),λ_ _ _ _ _ _ _ h=>(nn h)⟩
 | n+1=>by
  have ih:=QrC n;refine⟨QAB ih,λX Y YX sts f ok xk h=>?_⟩;cases sts with
  | nil=>cases(show some xNo=some f from h);exact Qxe
  | cons st r=>
   refine Qf (show(Qjy n Y st).bind _=some f from h) λfs h1 h=>?_;exact bindR h λfx fr h2 h3=>Qvz ((Qjx n).S X Y st fs ok h1) (ih.X X Y YX st fx ok xk h2) (ih.Xs X Y YX r fr ok xk h3)
end
noncomputable def Qee(k:Nat)(f:DX):List D->Option Str:=λds=>(f (Qau k ds)).map (·.1)
section
variable (P:Program) (w:World) (K:Fgg) (mg:Str->Option Value) (base:Heap)
def Qhy(k:Nat)(x:Str)(r:Nat×(List D->Option Str)):Prop:=∃f fd ps,Qcs P w K mg base (CXR P w) k f fd ps (spX K r.1 r.2)/\mg x=some (.ref f)/\PySem.W.keepIn K (.ref f)=true/\Binds K fd ps []/\ps.length=r.1
def Qfi(k:Nat)(Γx:List (Str×(Nat×(List D->Option Str)))):Prop:=∀x r,look x Γx=some r->Qhy P w K mg base k x r
end
section
variable {P:Program}{w:World}{K:Fgg}{mg:Str->Option Value}{base:Heap}
theorem Qfi.nil{k:Nat}:Qfi P w K mg base k []:=λx r h=>by cases h
theorem Qhy.mono{j k:Nat}{x:Str}{r:Nat×(List D->Option Str)}(h:Qhy P w K mg base j x r)(hk:j<=k):Qhy P w K mg base k x r:=by
 obtain⟨f,fd,ps,h1,h2⟩:=h;exact⟨f,fd,ps,h1.mono hk,h2⟩
theorem Qfi.mono{j k:Nat}{Γ:List (Str×(Nat×(List D->Option Str)))}(t:Qfi P w K mg base j Γ)(hk:j<=k):Qfi P w K mg base k Γ:=λx r e=>(t x r e).mono hk
theorem Qfi.cons{k:Nat}{Γ:List (Str×(Nat×(List D->Option Str)))}{x:Str}{r:Nat×(List D->Option Str)}(t:Qfi P w K mg base k Γ)(h:Qhy P w K mg base (k+1) x r):Qfi P w K mg base (k+1) ((x,r)::Γ):=λy q e=>by
 unfold look at e;split at e
 ·rename_i z;cases e;subst z;exact h
 ·exact(t y q e).mono (ZbG _)
theorem QqL{h:Heap}{x:Str}{st:Stmt}{ps:List Str}{k n:Nat}{Γ:List (Str×FnR)}{Γx:List (Str×(Nat×(List D->Option Str)))}{cls:List Str}{cs:List (Str×Int)}{g:DX}(X:K.In h)(G:h.Ns mainGlobals mg)(F:Fact K x st)(S:Qb8 (namesOf (Qv st)) ps (Qv st))(B:QbZ x st ps)(M:QeG mg cs)(tab:Qb6 P w K mg base k Γ)(tabx:Qfi P w K mg base k Γx)
  (hcl:∀x∈cls,QiM K x) (hc:QeV n (QfY st Γ cs) ⟨Γx,cls⟩ (Qa5 st)=some g):Qhy P w K mg base (k+1) x (ps.length,Qee (namesOf (Qv st)).length g):=by
 obtain⟨f,fd,Fn,a⟩:=F.ex;refine⟨f,fd,ps,?_,Zbm X G a,Fn.kp,Fn.binds (B ·),rfl⟩;obtain⟨oc,od,kV,doc,pm,an,cdv,ct,osl,rfl,lk,hcd⟩:=Fn.ex;refine QwL lk hcd S (Qyl rfl) λA outer s H vs Q E hr hsp=>?_;obtain⟨ds,L,y,rps,hl,hd,hE⟩:=hsp;have ok:Qab (Qfg (CXR P w) P w K mg base (namesOf (Qv st)) x (Qv st) f cdv A outer s H E) (QfY st Γ cs):=QqW (CX:=CXR P w) (E:=E) S M tab hr PassesOwn.leaving;have xk:XOk (Qfg (CXR P w) P w K mg base (namesOf (Qv st)) x (Qv st) f cdv A outer s H E) ⟨Γx,cls⟩:=⟨rfl,rfl,rfl,λz r e=>by
  obtain⟨f',fd',ps',h1,h2,h3,h4,h5⟩:=tabx z r e;exact⟨k,f',fd',ps',h1,hr,h2,h3,h4,h5⟩,hcl⟩
 refine⟨_,(QrC n).Xs _ _ _ _ g ok xk hc H L,?_⟩;obtain⟨F0,rel⟩:=Qi6 (N:=namesOf (Qv st)) rps;obtain⟨⟨y',U'⟩,e1,e2⟩:=Zh.mp hd;cases e2;exact⟨_,[],F0,y',U',rel,e1,λC ea s' hC T=>Qov rfl rfl rfl rfl rfl rfl rfl T λH' sm=>hE C H' hC sm⟩
end
end HS
namespace HS
open PySem PySem.Spec L2 PyProof.Rows
section
variable {X:Cx}{pins:List (Addr×Obj)}{σ:L2.St}{H:Hp}{s s':Shared}{B:Heap}
theorem QnX{h h':Heap}{c:Addr}{v:Option Value}(up:h.UpToSlots h')(z:h.IsCell c v):h'.IsCell c v:=by
 obtain⟨o,e,d⟩:=z;obtain⟨sl,e'⟩:=up c o e λvs q=>by rw[d]at q;cases q
 exact⟨_,e',d⟩
theorem Qk4(I:Inv X pins σ H s)(ho:s'.os=s.os)(hg:AllBare s'.gens)(hx:X.ex=[])(b1:B.StaysIn s.heap)(b2:B.StaysIn s'.heap)(up:s.heap.UpToSlots s'.heap)(cov:Cov H B)
  (old:∀b o,X.s₀.heap.get? b=some o->b∉X.fs->∃o',B.get? b=some o') (pb:∀p∈X.pn++pins,∃o,B.get? p.1=some o):Inv X pins σ H s' where
 ok:=I.ok
 os:=ho.trans I.os
 bare:=hg
 base:=by
  have hb:=I.base;rw[hx]at hb ⊢;exact Qpi hb b1 b2 up old (λb o e hb=>Qln I.ok e hb) I.ok.frf
 loc:=by
  obtain⟨m,hn,hl⟩:=I.loc;refine⟨m,up.ns hn,λi x v e1 e2 e3=>?_⟩;obtain⟨u,r,q⟩:=hl i x v e1 e2 e3;refine⟨u,r,?_⟩;rcases q with q | ⟨k,c,e,z⟩
  ·exact .inl q
  ·exact .inr ⟨k,c,e,QnX up z⟩
 cell:=λx c e=>by
  obtain⟨v,z⟩:=I.cell x c e;exact⟨v,QnX up z⟩
 free:=I.free
 freeC:=I.freeC
 pin:=λp hp=>by
  obtain⟨e,n,ne,nf,d⟩:=I.pin p hp;obtain⟨o,eo⟩:=pb p hp;have:=b1 _ _ eo;rw[e]at this;cases this;exact⟨b2 _ _ eo,n,ne,nf,d⟩
 hok:=Qm5 I.hok b1 b2 cov
 len:=I.len
theorem QxO{ea C:Addr}{a0:Value}(I:Inv X pins σ H s)(hx:X.ex=[])(fl:Heap.FlyingW B X.stack ea (.ref C) a0 s.heap)(cov:Cov H B)(old:∀b o,X.s₀.heap.get? b=some o->b∉X.fs->∃o',B.get? b=some o')
  (pb:∀p∈X.pn++pins,∃o,B.get? p.1=some o):H ea=none/\Inv X pins σ (upd H ea (.ext (Qdp ea C))) s:=by
 obtain⟨oe,vs,he,hc,hd,_⟩:=fl.first
 have ne:∀{b o},B.get? b=some o->b≠ea:=λ{b o} e z=>by rw[z,fl.2.1]at e;cases e
 have hn:H ea=none:=by
  cases q:H ea with
  | none=>rfl
  | some u=>obtain⟨o,e⟩:=cov ea u q;exact absurd rfl (ne e)
 have nd:∀{b o},s.heap.get? b=some o->(∀vs,o.data≠ .fields vs)->b≠ea:=λ{b o} e h z=>by
  rw[z,he]at e;cases e;exact h vs hd
 have tr:∀b u,H b=some u->upd H ea (.ext (Qdp ea C)) b=some u:=λb u e=>by
  obtain⟨o,eo⟩:=cov b u e;rw[QP (ne eo)];exact e
 refine⟨hn,I.ok,I.os,I.bare,⟨I.base.keep,I.base.slot,λb o e n hxx=>?_,I.base.there,λb xs q=>tr _ _ (I.base.tups b xs q),λb o u q=>tr _ _ (I.base.frzs b o u q),λb ps q=>?_⟩,I.loc,I.cell,?_,λx c e=>?_,λp hp=>?_,λb u e=>?_,I.len⟩
 ·rw[QP]
  ·exact I.base.free b o e n hxx
  ·by_cases hb:b∈X.fs
   ·obtain⟨sl,e1⟩:=I.base.slot b o e n hb hxx;exact nd e1 λvs q=>Qln I.ok e hb vs q
   ·obtain⟨o',e1⟩:=old b o e hb;exact ne e1
 ·obtain⟨more,q⟩:=I.base.tbls b ps q;exact⟨more,tr _ _ q⟩
 ·rw[QP]
  ·exact I.free
  ·obtain⟨m,⟨o,es,ep,e,d,_⟩,_⟩:=I.loc;exact nd e λvs q=>by rw[d]at q;cases q
 ·rw[QP]
  ·exact I.freeC x c e
  ·obtain⟨v,o,eo,d⟩:=I.cell x c e;exact nd eo λvs q=>by rw[d]at q;cases q
 ·obtain⟨e,n,ne',nf,d⟩:=I.pin p hp;obtain⟨o,eo⟩:=pb p hp;exact⟨e,by rw[QP (ne eo)];exact n,ne',nf,d⟩
 ·by_cases hb:b=ea
  ·subst hb;rw[Qac]at e;cases e;refine⟨⟨oe,vs,he,hc,hd⟩,⟨oe,he⟩,λh1 h2 ⟨o,w,e1,e2,e3⟩ k=>⟨o,w,k _ e1,e2,e3⟩⟩
  ·rw[QP hb]at e;exact(I.hok b u e).QgV (λc v _ q=>q) (λc q=>tr _ _ q) λc xs q=>tr _ _ q
theorem QlP{M:Model}{A:Around}{E:Value->Shared->Prop}{i:Nat}{x:Str}{pos:Pos}{Q:Unit->Shared->Prop}(I:Inv X pins σ H s)(hN:X.N.Nodup)(hi:X.N[i]? =some x)(hx:X.env.scope.names.lookup x=some .local)
  (h:∀s',Inv X pins (σ.set i none) H s'->Q () s'):wpAny M A (do bindName X.env x .none;unbindBehindTheSuite X.env x pos) Q E s:=by
 refine wpAny_bind (wpAny_bindName (QhS (v:= .non) I hN hi (.inl hx) rfl (λs1 I1=>?_) (.inr hx)));have hcls:(X.env.scope.kind == .class || (X.env.scope.kind == .module && X.env.locals != X.env.globals))=false:=by rw[I.ok.kind];rfl
 have hiσ:i<σ.length:=by rw[I.len];exact(Zk.mp hi).1
 obtain⟨m,hn,hl⟩:=id I1.loc;obtain⟨u,_,q⟩:=hl i x .non hi (Zo hiσ) (.inl hx);have hm:m x=some u:=by
  rcases q with⟨_,e⟩ | ⟨k,_⟩
  ·exact e
  ·have hx':X.env.kindOf x=some .local :=hx;rcases k with k | k<;>rw[hx']at k<;>cases k
 unfold unbindBehindTheSuite;refine wpAny_onRaise (wpAny_unbindName_local hx hn hm hcls λh' u' hn' hs=>h _ ?_);have cne:=I1.cne;obtain⟨oL,_,_,hoL,_⟩:=id hn;refine⟨I1.ok,I1.os,I1.bare,⟨λb o e n hb hx=>?_,λb o e n hb hx=>?_,I1.base.free,λb o e hx=>?_,I1.base.tups,I1.base.frzs,I1.base.tbls⟩,⟨_,hn',λj y v' e1 e2 e3=>?_⟩,λy c e=>?_,I1.free,I1.freeC,λp hp=>?_,λb ob e=>?_,by simpa using I1.len⟩
 ·exact(hs.2 b (ZN (Zp (Zs e) I.ok.above))).trans (I1.base.keep b o e n hb hx)
 ·obtain⟨sl,e1⟩:=I1.base.slot b o e n hb hx;exact⟨sl,(hs.2 b (ZN (Zp (Zs e) I.ok.above))).trans e1⟩
 ·obtain⟨o',e1⟩:=I1.base.there b o e hx;exact⟨o',(hs.2 b (ZN (Zp (Zs e) I.ok.above))).trans e1⟩
 ·by_cases hj:j=i
  ·subst hj;rw[Zo hiσ]at e2;cases e2
  ·rw[Zd (Ne.symm hj)]at e2;have e2':(σ.set i (some V.non))[j]? =some (some v'):=by rw[Zd (Ne.symm hj)];exact e2
   obtain⟨u1,r1,q1⟩:=hl j y v' e1 e2' e3;refine⟨u1,r1,?_⟩;rcases q1 with⟨k,e⟩ | ⟨k,c,e,z⟩
   ·refine .inl ⟨k,?_⟩;have:y≠x:=λe=>hj (QkH hN e1 (e▸hi));simp[this,e]
   ·exact .inr ⟨k,c,e,z.sameBut hs (cne y c e)⟩
 ·obtain⟨w',z⟩:=I1.cell y c e;exact⟨w',z.sameBut hs (cne y c e)⟩
 ·obtain⟨e,n,ne,nf,d⟩:=I1.pin p hp;exact⟨(hs.2 p.1 ne).trans e,n,ne,nf,d⟩
 ·refine(I1.hok b ob e).QgV (λc w' hc q=>(hs.2 c ?_).trans q) (λ_ q=>q) λ_ _ q=>q;rintro rfl;have hfree:=I1.free;rcases hc with rfl | hc
  ·rw[hfree]at e;cases e
  ·rw[hfree]at hc;cases hc
end
noncomputable abbrev inH(X:Cx)(ea:Addr):Cx:={X with A:=X.A.mark (some (.ref ea)),calm:=false,xe:=λ_ _=>False}
def Fly(X:Cx)(pins:List (Addr×Obj))(H:Hp)(ea C:Addr)(s:Shared):Prop:=∃B a0,Heap.FlyingW B X.stack ea (.ref C) a0 s.heap/\Cov H B/\(∀b o,X.s₀.heap.get? b=some o->b∉X.fs->∃o',B.get? b=some o')/\∀p∈X.pn++pins,∃o,B.get? p.1=some o
section
variable {X:Cx}{pins:List (Addr×Obj)}{σ:L2.St}{H:Hp}{s s':Shared}{B:Heap}{ea C:Addr}
theorem _root_.L2.Inv.inH(I:Inv X pins σ H s):Inv (HS.inH X ea) pins σ H s:=
 ⟨⟨I.ok.mod,I.ok.kind,I.ok.glob,I.ok.blt,I.ok.above,I.ok.inj,I.ok.has,I.ok.cab,λz=>(by cases z),I.ok.frames,I.ok.stk,I.ok.exf,I.ok.bs,I.ok.bsz,I.ok.noex,I.ok.exfs,I.ok.Qec,I.ok.frf⟩,I.os,I.bare,I.base,I.loc,I.cell,I.free,I.freeC,I.pin,I.hok,I.len⟩
theorem _root_.L2.Inv.QgZ(ok:X.Ok)(I:Inv (HS.inH X ea) pins σ H s):Inv X pins σ H s:=⟨ok,I.os,I.bare,I.base,I.loc,I.cell,I.free,I.freeC,I.pin,I.hok,I.len⟩
theorem Qp7{E:Value->Shared->Prop}{Qk:Shared->Prop}{H0:Hp}{A0:LAd}{hs:List (V×D×List Addr)}{U:En}(T:Qhu X H0 A0 hs U (.ref C) ea s')(hx:X.ex=[])(hst:X.stack=X.env::X.outer)(hf:X.env.frame=some X.env.locals)
  (k:∀pins σ H F s'',Rel X.K H0 A0 hs U F σ H->Inv X pins σ H s''->Fly X pins H ea C s''->Qk s''):
  wpAny (model X.prog X.w) X.A (noteFrame (.ref ea) X.env) (λ_ s₂=>wpAny (model X.prog X.w) X.A (setFlight (.ref ea) none) (λ_ s₃=>Qk s₃) E s₂) E s':=by
 obtain⟨pins,σ,H,F,rel,⟨sg,args,I,hm,ho,hg⟩ | ⟨B,a0,I,fl,cov,old,pb⟩⟩:=T
 ·obtain⟨B,b1,b2,cov,old,pb⟩:=QoX I hx;have hfr:=I.ok.frames;rw[hst]at hfr b2;obtain⟨t,he,htn,ht⟩:=hm.there;have fresh:B.get? ea=none:=by
   cases q:B.get? ea with
   | none=>rfl
   | some o=>have:=b1 _ _ q;rw[hm.new]at this;cases this
  have note:∀Q:Unit->Shared->Prop,(∀h',Heap.NotedW B (X.env::X.outer) ea (.ref C) (.ref t) (rawInt X.env.locals) s'.heap h'->Q () {s' with heap:=h'})->wpAny (model X.prog X.w) X.A (noteFrame (.ref ea) X.env) Q E s':=λQ hq=>by
   unfold noteFrame;simp only[hf];refine wpAny_bind (wpAny_field (x:= .none) he rfl rfl ?_);rw[if_neg (by decide)];exact wpAny_entryW (a0:= .ref t) hfr (b2.of_keeps λb o hb _=>⟨o,hm.keeps b o hb,rfl⟩) hf he (λb o hb=>hm.keeps b o (b1 b o hb)) fresh rfl (by show 1<6;decide) rfl hq
  refine note _ λh1 Z=>?_;obtain⟨n1,n2,n3,n4⟩:=Z;refine wpAny_landsW (s:={s' with heap:=h1}) (L:=X.env.locals) ⟨n1,fresh,n2,n3⟩ λh2 fl up=>?_;have up':sg.heap.UpToSlots h2:=((Heap.UpToSlots.of_keeps hm.keeps).trans n4).trans up;refine k pins σ H F _ rel (Qk4 I ho (by show AllBare s'.gens;rw[hg];exact I.bare) hx b1 fl.1 up' cov old pb) ⟨B,_,by rw[hst];exact fl,cov,old,pb⟩
 ·have hfr:=I.ok.frames;rw[hst]at hfr fl;refine wpAny_looks_onW hfr hf fl λh1 hd up1=>?_;refine wpAny_landsW (s:={s' with heap:=h1}) hd λh2 fl2 up2=>?_;exact k pins σ H F _ rel (Qk4 I rfl I.bare hx fl.1 fl2.1 (up1.trans up2) cov old pb) ⟨B,a0,by rw[hst];exact fl2,cov,old,pb⟩
def Qr9(K:Fgg)(sub:Str->Str->Option Bool):Prop:=∀x y b,sub x y=some b->∃C c,ClsAt K x C/\PySem.W.KtsName K y c/\PySem.W.exmOne K (.ref C) c=some b
theorem QsP{E:Value->Shared->Prop}{y:Str}{c:Value}{np:Pos}{Q:Value->Shared->Prop}(I:Inv X pins σ H s)(hg:Gl X y)(hdb:(y == ("__debug__" :Str))=false)(k:PySem.W.KtsName X.K y c)(h:Q c s):wpAny (model X.prog X.w) X.A (eval (.Name y np) X.env) Q E s:=by
 rcases k with k | ⟨k1,k2,k3⟩
 ·exact Qft I hg (Zbm I.ok.mod.kin I.ok.mod.glob k) h hdb
 ·exact Qdi I hg (PySem.W.mg_none_of I.ok.mod.kin I.ok.mod.glob k1) k2 h k3 hdb
theorem QiD{K:Fgg}{x:Str}{C C':Addr}(a:ClsAt K x C)(b:ClsAt K x C'):C=C':=by
 unfold ClsAt at a b;rw[a]at b;exact Value.ref.inj (Option.some.inj (Option.some.inj b))
theorem Rel.Qmb{K:Fgg}{H0:Hp}{A0:LAd}{hs:List (V×D×List Addr)}{U:En}{F:Nat->List Addr}{i:Nat}(r:Rel K H0 A0 hs U F σ H):Rel K H0 A0 hs (U.set i none) F (σ.set i none) H:=by
 have w:=r.weak (QcN (U:=U) i);refine⟨by simpa using r.len,λj d b e=>?_,w.own,w.src,w.held,w.same⟩;obtain⟨v,h1,h2⟩:=w.val j d b e;refine⟨v,?_,h2⟩;by_cases hj:i=j
 ·subst hj;exfalso;by_cases hl:i<U.length
  ·rw[Zo hl]at e;cases e
  ·rw[Zv (by simp;omega)]at e;cases e
 ·rw[Zd hj];exact h1
noncomputable def Qy1(i:Nat):Out->Out
 | .nx U=> .nx (U.set i none)
 | .bk U=> .bk (U.set i none)
 | .ct U=> .ct (U.set i none)
 | .rt d fr=> .rt d fr
noncomputable abbrev Hd:=Str×Option Nat×DS
noncomputable def Qpy(sub:Str->Str->Option Bool)(x:Str)(U:En):List Hd->Option Out
 | []=>none
 | h::r=>(sub x h.1).bind λb=>if b=true then(match h.2.1 with
  | none=>h.2.2 U
  | some i=>(h.2.2 (U.set i (some (.exc x,true)))).map (Qy1 i))else Qpy sub x U r
noncomputable def QhE(f:DS)(fx:DX)(sub:Str->Str->Option Bool)(hl:List Hd):DS:=λU=>match f U with
 | some o=>some o
 | none=>(fx U).bind λq=>Qpy sub q.1 q.2 hl
inductive Qgz (X:Cx):List ExceptHandler->List Hd->Prop
 | nil:Qgz X [] []
 | bare {y:Str}{np pos:Pos}{b₀:Stmt}{suite:List Stmt}{r:List ExceptHandler}{hr:List Hd}{f:DS}(hg:Gl X y) (hdb:(y == ("__debug__" :Str))=false) (hS:∀ea,SS (inH X ea) (b₀::suite) f) (t:Qgz X r hr):
   Qgz X (.ExceptHandler (some (.Name y np)) none (b₀::suite) pos::r) ((y,none,f)::hr)
 | as {y n:Str}{np pos:Pos}{b₀:Stmt}{suite:List Stmt}{r:List ExceptHandler}{hr:List Hd}{f:DS}{i:Nat}(hg:Gl X y) (hdb:(y == ("__debug__" :Str))=false) (hi:X.N[i]? =some n) (hl:X.env.scope.names.lookup n=some .local) (hS:∀ea,SS (inH X ea) (b₀::suite) f) (t:Qgz X r hr):
   Qgz X (.ExceptHandler (some (.Name y np)) (some n) (b₀::suite) pos::r) ((y,some i,f)::hr)
theorem _root_.L2.SP.QgZ{Dd:Ends}{f:Flow}(ok:X.Ok)(h:SP (HS.inH X ea) pins Dd f s):SP X pins Dd f s:=by
 cases f with
 | next=>obtain⟨σ',H',I,q⟩:=h;exact⟨σ',H',I.QgZ ok,q⟩
 | brk=>obtain⟨σ',H',I,q⟩:=h;exact⟨σ',H',I.QgZ ok,q⟩
 | cont=>obtain⟨σ',H',I,q⟩:=h;exact⟨σ',H',I.QgZ ok,q⟩
 | ret u=>obtain⟨v,σ',H',I,r,q⟩:=h;exact⟨v,σ',H',I.QgZ ok,r,q⟩
theorem Qs1{sub:Str->Str->Option Bool}{x:Str}{H0:Hp}{A0:LAd}{hs:List (V×D×List Addr)}{U:En}{Dd:Ends}{o:Out}(hN:X.N.Nodup)(hx:X.ex=[])(hsub:Qr9 X.K sub)(hC:ClsAt X.K x C):
  ∀{hds:List ExceptHandler}{hl:List Hd},Qgz X hds hl->∀{F:Nat->List Addr}{σ:L2.St}{H:Hp}{s:Shared},Inv X pins σ H s->Rel X.K H0 A0 hs U F σ H->Fly X pins H ea C s->Qpy sub x U hl=some o->Fits X.K H0 A0 hs Dd o→
   wpAny (model X.prog X.w) X.A (handleBy (.ref ea) X.env hds) (SP X pins Dd) X.xe s:=by
 intro hds hl h
 have test:∀{y:Str}{np pos:Pos}{nm:Option Str}{b₀:Stmt}{suite:List Stmt}{r:List ExceptHandler}{b:Bool}{σ:L2.St}{H:Hp}{s:Shared},Gl X y->(y == ("__debug__" :Str))=false->sub x y=some b->Inv X pins σ H s->Fly X pins H ea C s→
   (b=true->codeAny (model X.prog X.w) (X.A.mark (some (.ref ea))) (.handlers (.ref ea) [.ExceptHandler none nm (b₀::suite) pos] X.env) (λr s₂=>match r with
     | .ok f=>(match nm with
      | none=>SP X pins Dd f s₂
      | some n=>wpAny (model X.prog X.w) X.A (do bindName X.env n .none;unbindBehindTheSuite X.env n pos) (λ_ s₃=>SP X pins Dd f s₃) X.xe s₂)
     | .error x=>cameBackBy (model X.prog X.w) X.A X.env X.xe x s₂) s)→
   (b=false->wpAny (model X.prog X.w) X.A (handleBy (.ref ea) X.env r) (SP X pins Dd) X.xe s)->wpAny (model X.prog X.w) X.A (handleBy (.ref ea) X.env (.ExceptHandler (some (.Name y np)) nm (b₀::suite) pos::r)) (SP X pins Dd) X.xe s:=by
  intro y np pos nm b₀ suite r b σ H s hg hdb e1 I fly ht hf;obtain⟨C',c,k1,k2,k3⟩:=hsub x y b e1;cases QiD hC k1;obtain⟨B,a0,fl,_⟩:=fly;obtain⟨ob,hob,hc⟩:=fl.there;have LT:PySem.W.Looks (model X.prog X.w) s.heap (typeOf (.ref ea)) (.ref C):=hc▸(PySem.W.Looks.ld hob).andThen .now;refine wpAny_handleBy_cons (codeAny_handlers_test (QsP (X:=HS.inH X ea) (I.inH (ea:=ea)) hg hdb k2 ((PySem.W.exm_one I.kIn LT k3).here ?_))) (by intro q;cases q);cases b with
  | true=>exact ht rfl
  | false=>exact hf rfl
 induction h with
 | nil=>intro F σ H s I rel fly e q;cases e
 | @bare y np pos b₀ suite r hr f hg hdb hS t ih=>
  intro F σ H s I rel fly e q;refine Qf e λb e1 e=>?_;refine test hg hdb e1 I fly (λhb=>?_) λhb=>?_
  ·subst hb;rw[if_pos rfl]at e;obtain⟨B,a0,fl,cov,old,pb⟩:=fly;refine codeAny_handlers_suite (lands_againW fl λh' fl' up=>?_);have I1:=Qk4 (s':={s with heap:=h'}) I rfl I.bare hx fl.1 fl'.1 up cov old pb;exact wpAny_mono (hS ea H0 A0 pins _ σ H Dd (I1.inH (ea:=ea)) ⟨U,hs,F,o,rel,e,q⟩) (λf s2 hq=>SP.QgZ I.ok hq) λ_ _ z=>z.elim
  ·subst hb;rw[if_neg Zak]at e;exact ih I rel fly e q
 | @as y n np pos b₀ suite r hr f i hg hdb hi hl hS t ih=>
  intro F σ H s I rel fly e q;refine Qf e λb e1 e=>?_;refine test hg hdb e1 I fly (λhb=>?_) λhb=>?_
  ·subst hb;rw[if_pos rfl]at e;obtain⟨o1,e2,e3⟩:=Zh.mp e;subst e3;obtain⟨B,a0,fl,cov,old,pb⟩:=fly;refine codeAny_handlers_suite_as (lands_againW fl λh' fl' up=>?_);have I1:=Qk4 (s':={s with heap:=h'}) I rfl I.bare hx fl.1 fl'.1 up cov old pb;obtain⟨hn,I2⟩:=QxO I1 hx fl' cov old pb;have sm:QQ H (upd H ea (.ext (Qdp ea C))):=λb u eb=>by rw[QP (λz=>by rw[z,hn]at eb;cases eb)];exact eb
   refine QhS (X:=HS.inH X ea) (v:= .ref ea) (I2.inH (ea:=ea)) hN hi (.inl hl) rfl (λs3 I3=>?_) (.inr hl);obtain⟨F',rel'⟩:=(rel.ext sm).QCo (i:=i) (d:= .exc x) (v:= .ref ea) (by rw[Rp];exact⟨⟨ea,rfl,C,hC,Qac⟩,rfl⟩) rfl;refine wpAny_mono (hS ea H0 A0 pins _ _ _ ⟨λσ' H'=>Dd.nx (σ'.set i none) H',Dd.rt,λσ' H'=>Dd.bk (σ'.set i none) H',λσ' H'=>Dd.ct (σ'.set i none) H'⟩ I3 ⟨_,hs,F',o1,rel',e2,?_⟩) (λf s4 hq=>?_) λ_ _ z=>z.elim
   ·cases o1 with
    | nx U1=>exact λσ' H' F' rel'=>q _ _ _ rel'.Qmb
    | bk U1=>exact λσ' H' F' rel'=>q _ _ _ rel'.Qmb
    | ct U1=>exact λσ' H' F' rel'=>q _ _ _ rel'.Qmb
    | rt d fr=>exact q
   ·cases f with
    | next=>obtain⟨σ',H',I4,q4⟩:=hq;exact QlP (I4.QgZ I.ok) hN hi hl λs5 I5=>⟨_,H',I5,q4⟩
    | brk=>obtain⟨σ',H',I4,q4⟩:=hq;exact QlP (I4.QgZ I.ok) hN hi hl λs5 I5=>⟨_,H',I5,q4⟩
    | cont=>obtain⟨σ',H',I4,q4⟩:=hq;exact QlP (I4.QgZ I.ok) hN hi hl λs5 I5=>⟨_,H',I5,q4⟩
    | ret u=>obtain⟨v,σ',H',I4,r4,q4⟩:=hq;exact QlP (I4.QgZ I.ok) hN hi hl λs5 I5=>⟨v,_,H',I5,r4,q4⟩
  ·subst hb;rw[if_neg Zak]at e;exact ih I rel fly e q
noncomputable abbrev Cx.chg(X:Cx)(xe:Value->Shared->Prop)(pn:List (Addr×Obj)):Cx:={X with xe:=xe,pn:=pn}
theorem _root_.L2.Inv.chg{xe:Value->Shared->Prop}(I:Inv X pins σ H s):Inv (Cx.chg X xe (X.pn++pins)) [] σ H s:=
 ⟨⟨I.ok.mod,I.ok.kind,I.ok.glob,I.ok.blt,I.ok.above,I.ok.inj,I.ok.has,I.ok.cab,I.ok.hd,I.ok.frames,I.ok.stk,I.ok.exf,I.ok.bs,I.ok.bsz,I.ok.noex,I.ok.exfs,I.ok.Qec,I.ok.frf⟩,I.os,I.bare,I.base,I.loc,I.cell,I.free,I.freeC,λp hp=>I.pin p (by simpa using hp),I.hok,I.len⟩
theorem _root_.L2.Inv.Qli{xe:Value->Shared->Prop}{pins':List (Addr×Obj)}(ok:X.Ok)(I:Inv (Cx.chg X xe (X.pn++pins)) pins' σ H s):Inv X pins σ H s:=
 ⟨ok,I.os,I.bare,I.base,I.loc,I.cell,I.free,I.freeC,λp hp=>I.pin p (Zg _ hp),I.hok,I.len⟩
theorem Qzb{sub:Str->Str->Option Bool}{body:List Stmt}{h₀:ExceptHandler}{hds:List ExceptHandler}{hl:List Hd}{f:DS}{fx:DX}{pos:Pos}(hN:X.N.Nodup)(hx:X.ex=[])(hst:X.stack=X.env::X.outer)(hf:X.env.frame=some X.env.locals)(hsub:Qr9 X.K sub)
  (hb:∀xe pn,PassesOwn (model X.prog X.w) X.A X.env xe->SS (Cx.chg X xe pn) body f/\RzS (Cx.chg X xe pn) body fx) (hh:Qgz X (h₀::hds) hl):S1 X (.Try body (h₀::hds) [] [] pos) (QhE f fx sub hl):=λH0 A0 pins s σ H Dd I=>exK λU hs F o rel e q=>by
 refine wpAny_Try_except ?_;have pass:PassesOwn (model X.prog X.w) X.A X.env (λe s₁=>wpAny (model X.prog X.w) X.A (noteFrame e X.env) (λ_ s₂=>wpAny (model X.prog X.w) X.A (setFlight e none) (λ_ s₃=>wpAny (model X.prog X.w) X.A (handleBy e X.env (h₀::hds)) (SP X pins Dd) X.xe s₃) X.xe s₂) X.xe s₁):=PassesOwn.looking;obtain⟨b1,b2⟩:=hb _ (X.pn++pins) pass;unfold QhE at e;split at e
 ·rename_i o' eo;cases e;refine thn (b1 H0 A0 [] s σ H Dd I.chg ⟨U,hs,F,o,rel,eo,q⟩) λfl s1 hq=>?_;cases fl with
  | next=>obtain⟨σ',H',I1,q1⟩:=hq;exact wpAny_execs_nil ⟨σ',H',I1.Qli I.ok,q1⟩
  | brk=>obtain⟨σ',H',I1,q1⟩:=hq;exact⟨σ',H',I1.Qli I.ok,q1⟩
  | cont=>obtain⟨σ',H',I1,q1⟩:=hq;exact⟨σ',H',I1.Qli I.ok,q1⟩
  | ret u=>obtain⟨v,σ',H',I1,r1,q1⟩:=hq;exact⟨v,σ',H',I1.Qli I.ok,r1,q1⟩
 ·obtain⟨⟨x,U'⟩,e1,e⟩:=bind1 e;refine thn (b2 H0 A0 [] s σ H ⟨λ_ _=>False,λ_ _=>False,λ_ _=>False,λ_ _=>False⟩ I.chg ⟨U,hs,F,x,U',rel,e1,λC ea s' hC T=>?_⟩) λfl s1 hq=>?_
  ·refine Qp7 (X:=Cx.chg X _ (X.pn++pins)) (E:=X.xe) (Qk:=λs₃=>wpAny (model X.prog X.w) X.A (handleBy (.ref ea) X.env (h₀::hds)) (SP X pins Dd) X.xe s₃) T hx hst hf λpins' σ' H' F' s'' rel' I' fly=>?_;obtain⟨B,a0,fl,cov,old,pb⟩:=fly;exact Qs1 hN hx hsub hC hh (I'.Qli I.ok) rel' ⟨B,a0,fl,cov,old,λp hp=>pb p (Zg _ hp)⟩ e q
  ·cases fl with
   | next=>obtain⟨σ',H',I1,q1⟩:=hq;exact q1.elim
   | brk=>obtain⟨σ',H',I1,q1⟩:=hq;exact q1.elim
   | cont=>obtain⟨σ',H',I1,q1⟩:=hq;exact q1.elim
   | ret u=>obtain⟨v,σ',H',I1,r1,q1⟩:=hq;exact q1.elim
end
end HS
namespace HS
open PySem PySem.Spec L2 PyProof.Rows PySem.W
structure Qh1 (K:Frag) (C:Addr):Prop where
 cl:(clsIn K C).isSome=true
 ga:findIn K (.ref C) "__getattribute__" =some (some (.builtin "BaseException.__getattribute__"))
 hk:findIn K (.ref C) "__getattr__" =some none
 ca:findIn K (.ref C) "__class__" =some (some (.builtin "object.__class__"))
 mo:mroIn K C (.type "object")=some true
 be:subIn K (.ref C) (.type "BaseException")=some true
section
variable {prog:Program}{w:World}{A:Around}{E:Value->Shared->Prop}{s:Shared}{K:Frag}{a C:Addr}
theorem Qiv{M:Model}{h:Heap}(x:Qdp a C h):Looks M h (typeOf (.ref a)) (.ref C):=by
 obtain⟨o,vs,e,c,_⟩:=x;exact c▸(Looks.ld e).andThen .now
theorem QyA{R:Result->Shared->Prop}{tp:Value}(z:Qh1 K C)(X:K.In s.heap)(x:Qdp a C s.heap)(h:R (.ok (.ret (.ref C))) s):
  codeAny (model prog w) A (.call (.builtin "getset_descriptor.__get__") ⟨[.builtin "object.__class__",.ref a,tp],[]⟩) R s:=by
 obtain⟨hh,g,dr,t,os⟩:=s;have T0:=Qiv (M:=model prog w) x;have T1:=looks_mroIn (M:=model prog w) X z.mo
 refine codeAny_call_builtin KF.slot_gs.plain KF.entry_gs
  (KF.slot_gs.check _ _ _ _ _ _ _ _ KF.type_class (KF.args_gs _ _ _) ?_)
 unfold Builtin.«getset_descriptor.__get__» Builtin.Getset_descriptor.descrGet;rw[dga_obj];refine wpAny_bind (wpAny_pure ?_)
 unfold Builtin.Getset_descriptor.descrGetter Builtin.Getset_descriptor.descrCheckInstance
  Builtin.Getset_descriptor.descrNameAndClass isInstance
 simp only[KF.owner_class]
 repeat lk
 refine⟨Code.quiet_builtin _ (by decide+kernel),
  codeAny_builtin KF.entry_class ?_⟩
 unfold Builtin.«object.__class__» shownTypeOf;repeat lk
 exact h
theorem Qub{tk:Tok}{Q:Fin->Shared->Prop}(z:Qh1 K C)(X:K.In s.heap)(x:Qdp a C s.heap)(h:Q (.done (.ret (.ref C))) s):
  wpAny (model prog w) A (Builtin.«object.__getattribute__» ⟨[.ref a,.str "__class__" tk],[]⟩) Q E s:=by
 obtain⟨hh,g,dr,t,os⟩:=s;have T0:=Qiv (M:=model prog w) x;have T1:=looks_findIn (M:=model prog w) X z.ca;have f5:=F.typeOf_object_class;have f6:=F.slot_gs_get.lookup;have f7:=F.slot_gs_set.lookup;obtain⟨o,vs,hx,hc,hd⟩:=id x;have hT5:(⟨hh,g,dr,t,os⟩:Shared).TypeIs (.builtin "object.__class__") "getset_descriptor" :=f5
 repeat (any_goals (first | assumption | (with_reducible refine wpAny_loadPart_at hx ?_;rw[hc]) | with_reducible refine T1.at ?_ | wp_step))
 refine QyA z X x ?_
 repeat (any_goals (first | assumption | wp_step))
theorem QtJ{M:Model}{nameV:Value}{Q:Unit->Shared->Prop}(z:Qh1 K C)(X:K.In s.heap)(x:Qdp a C s.heap)(h:Q () s):wpAny M A (checkBuiltinCall "BaseException.__getattribute__" ⟨[.ref a,nameV],[]⟩) Q E s:=by
 obtain⟨hh,g,dr,t,os⟩:=s;have k1:builtinKind "BaseException.__getattribute__" =some .slot:=by decide+kernel
 have k2:splitId "BaseException.__getattribute__" =some ("BaseException","__getattribute__"):=by decide+kernel
 have T0:=Qiv (M:=M) x;have T1:=looks_subIn (M:=M) X z.be;have T2:Looks M hh (isInstance (.ref a) (.type "BaseException")) true:=T0.andThen T1;have k3:=F.args_bexc_ga (.ref a) nameV;simp only[checkBuiltinCall,k1,k2];refine wpAny_bind (T2.at ?_);rw[if_neg (by decide)];have k4:Q () ⟨hh,g,dr,t,os⟩:=h
 repeat (any_goals (first | assumption | wp_step))
theorem Qzu{tk:Tok}{Q:Value->Shared->Prop}(z:Qh1 K C)(X:K.In s.heap)(x:Qdp a C s.heap)(h:Q (.ref C) s):wpAny (model prog w) A (getAttrBy (.ref a) (.str "__class__" tk) false) Q E s:=by
 obtain⟨hh,g,dr,t,os⟩:=s;have T0:=Qiv (M:=model prog w) x;have T1:=looks_findIn (M:=model prog w) X z.ga;have T2:=looks_findIn (M:=model prog w) X z.hk;have f3:=PySem.F.attr_ValueError.ga.bind (.ref a);have n2:(Value.builtin "BaseException.__getattribute__" == Value.builtin "object.__getattribute__")=false:=by decide+kernel
 have n1:(onTheHeap (Value.ref C) && Value.builtin "BaseException.__getattribute__" == Value.builtin "object.__getattribute__")=false:=by rw[n2];rfl
 obtain⟨o,vs,hx,hc,hd⟩:=id x
 repeat (any_goals (first | assumption | (with_reducible refine wpAny_loadPart_at hx ?_;rw[hc]) | with_reducible refine T1.at ?_ | with_reducible refine T2.at ?_ | wp_step))
 refine codeAny_call_builtin PySem.F.attr_ValueError.ga.plain F.entry_bexc_ga (QtJ z X x (Qub z X x ?_));have k4:Q (.ref C) ⟨hh,g,dr,t,os⟩:=h
 repeat (any_goals (first | assumption | wp_step))
theorem Qvb{Q:Option Value->Shared->Prop}(z:Qh1 K C)(X:K.In s.heap)(x:Qdp a C s.heap)(h:Q (some (.ref C)) {s with toks:=s.toks+1}):wpAny (model prog w) A (getAttr? (.ref a) "__class__") Q E s:=by
 obtain⟨hh,g,dr,t,os⟩:=s;have k4:Q (some (.ref C)) ⟨hh,g,dr,t+1,os⟩:=h;have X':K.In (⟨hh,g,dr,t+1,os⟩:Shared).heap:=X;have x':Qdp a C (⟨hh,g,dr,t+1,os⟩:Shared).heap:=x;unfold getAttr? getAttrBy?
 repeat (any_goals (first | assumption | with_reducible apply Qzu z X' x' | wp_step))
theorem Qox(z:Qh1 K C):KitX K (.ref a) (.ref C) (Qdp a C) where
 ty:=λ_ _ _ x=>Qiv x
 it:=λ_ _ X _=>by
  have h0:=z.cl;unfold clsIn at h0;split at h0
  ·rename_i ho;intro A' Q' E' s' k q;unfold isType loadHead;refine wpAny_bind ?_;exact wpAny_loadPart (k _ _ (X _ _ ho)) (wpAny_pure q)
  ·cases h0
 ne:=λh tp dd its n sl X htp=>by
  have h0:=z.cl;refine Bool.eq_false_iff.mpr λq=>?_;obtain rfl:C=tp:=Value.ref.inj (beq_iff_eq.mp q);unfold clsIn at h0;split at h0
  ·rename_i ho;have e:=X _ _ ho;rw[htp]at e;cases e
  ·cases h0
 ca:=λX x k=>Qvb z X x k
end
end HS
namespace HS
open PySem PySem.Spec L2 PyProof.Rows
def QwY(K:Fgg)(x y:Str)(b:Bool):Prop:=∃C c,ClsAt K x C/\PySem.W.KtsName K y c/\PySem.W.exmOne K (.ref C) c=some b/\PySem.W.kitOne K (.ref C) c=some b/\Qh1 K C
def Qb7(K:Fgg)(sub:Str->Str->Option Bool):Prop:=∀x y b,sub x y=some b->QwY K x y b
theorem Qb7.ok{K:Fgg}{sub:Str->Str->Option Bool}(h:Qb7 K sub):Qr9 K sub:=λx y b e=>by
 obtain⟨C,c,h1,h2,h3,_⟩:=h x y b e;exact⟨C,c,h1,h2,h3⟩
noncomputable def vC:Value->V
 | .ref a=> .ref a
 | .type n=> .ty n
 | _=> .non
theorem QsL{K:Fgg}{C:Addr}{c:Value}{b:Bool}(h:PySem.W.kitOne K (.ref C) c=some b):RelV (vC c) c:=by
 cases c with
 | ref a=>exact rfl
 | type n=>exact rfl
 | _=>
  unfold PySem.W.kitOne at h;split at h
  ·rename_i q;have:=beq_iff_eq.mp q;cases this
  ·cases h
noncomputable def anyS(sub:Str->Str->Option Bool)(x:Str):List Str->Option Bool
 | []=>some false
 | y::r=>(sub x y).bind λb=>(anyS sub x r).map λd=>b || d
noncomputable def QgA(sub:Str->Str->Option Bool)(ys:List Str)(fa:DE):DE:=λU=>(fa U).bind λr=>match r.d with
 | .exc x=>(anyS sub x ys).map λb=>⟨.bl b,true,[]⟩
 | _=>none
section
variable {X:Cx}{a:Expr}{fa:DE}{p p2 pos:Pos}{sub:Str->Str->Option Bool}
noncomputable def QCc(K:Fgg):List V->Hp->VK->Prop:=λxs H Q=>∃C a y,xs=[.ref a,y]/\H a=some (.ext (Qdp a C))/\Qh1 K C∧
 ((∃c b,y=vC c/\PySem.W.kitOne K (.ref C) c=some b/\Q (.bl b) H)∨∃tp cs b,y= .ref tp/\H tp=some (.tup (cs.map vC))/\(∀c∈cs,RelV (vC c) c)/\PySem.W.kitAny K (.ref C) cs=some b/\Q (.bl b) H)
theorem QpJ{v:V}{c c':Value}(hv:v=vC c)(h:RelV (vC c) c)(h':RelV v c'):c'=c:=by
 subst hv;cases c with
 | ref a=>exact h'
 | type n=>exact h'
 | none=>cases h';rfl
 | _=>cases h
theorem QoE:∀{cs:List Value}{us:List Value},(∀c∈cs,RelV (vC c) c)->QK (cs.map vC) us->us=cs
 | [],_,_,.nil=>rfl
 | c::cs,_,h,.cons r t=>by
  rw[QpJ rfl (h c Zl) r,QoE (λc hc=>h c (Zc _ hc)) t]
theorem QuF:QcI X (.builtin "isinstance") (QCc X.K):=by
 intro pins s σ H xs us Q I r h;obtain⟨C,a,y,rfl,hH,z,h⟩:=h;obtain⟨u,w,rfl,ru,rw'⟩:=vals2 r;cases(show u=Value.ref a from ru);have xo:Qdp a C s.heap:=(show QbW X.prog X.w H s.heap a (.ext (Qdp a C))from I.hok a _ hH).1;rcases h with⟨c,b,rfl,k,q⟩ | ⟨tp,cs,b,rfl,ht,hr,k,q⟩
 ·cases QpJ rfl (QsL k) rw';exact ZaS (Qox z) I.kIn xo k (λz=>nomatch z) λtk=>⟨.bl b,H,I.tok _,rfl,q⟩
 ·cases(show w=Value.ref tp from rw');obtain⟨_,its,rv,o,e1,e2,n,e3⟩:=(show QbW X.prog X.w H s.heap tp (.tup (cs.map vC))from I.hok tp _ ht);have hits:=QoE hr rv;subst hits;obtain⟨oc,od,odat,osl⟩:=o;dsimp only at e2 e3;subst e2 e3;exact PySem.W.kia_tup (Qox z) I.kIn xo e1 k (λz=>nomatch z) λtk=>⟨.bl b,H,I.tok _,rfl,q⟩
theorem Qzh{y:Str}{c:Value}{np:Pos}(hg:Gl X y)(hdb:(y == ("__debug__" :Str))=false)(k:PySem.W.KtsName X.K y c)(hr:RelV (vC c) c):PE X (.Name y np) (tC (vC c)):=λpins s σ H Q I h=>QsP I hg hdb k ⟨vC c,H,I,hr,h⟩
theorem Qyo{y:Str}(hsub:Qb7 X.K sub)(hg:Gl X "isinstance")(hm:X.mg "isinstance" =none)(hy:Gl X y)(hdb:(y == ("__debug__" :Str))=false)(ha:SE X a fa)(he:starEach [a,.Name y p2] X.env=(false,eval a X.env)::starEach [.Name y p2] X.env):
  SE X (.Call (.Name "isinstance" p) [a,.Name y p2] [] pos) (QgA sub [y] fa):=λH0 A0 pins s σ H Q I=>exK λU hs F r' rel e q=>by
 refine Qf e λr e1 e=>?_;split at e
 ·rename_i x hd;obtain⟨b,eb,rfl⟩:=Zh.mp e;have eb':sub x y=some b:=by
   unfold anyS at eb;refine Qf eb λb' h1 h2=>?_;cases b' with
   | true=>cases h2;exact h1
   | false=>cases h2;exact h1
  obtain⟨C,c,k1,k2,k3,k4,k5⟩:=hsub x y b eb';refine QkQ QuF hg hm ZbM (Qar (ha H0 A0) (Qar (Qzh hy hdb k2 (QsL k4)) QcQ) he) (by decide) (by decide) he (by rfl) pins s σ H Q I ?_;refine⟨U,hs,F,r,rel,e1,λv H1 G p=>?_⟩;have rp:=p.rp;rw[hd,Rp]at rp;obtain⟨⟨ea,rfl,C',hC',hH⟩,rfl⟩:=rp;cases QiD k1 hC';exact⟨C,ea,_,rfl,hH,k5,.inl ⟨c,b,rfl,k4,q _ H1 [] (.flat p.same .QdK)⟩⟩
 ·cases e
end
def QgI(X:Cx)(hΓ:List (Str×FnR)):Prop:=True
theorem QgI.inH{X:Cx}{hΓ:List (Str×FnR)}{ea:Addr}(h:QgI X hΓ):QgI (HS.inH X ea) hΓ:=h
def QmS(P:Program)(w:World)(K:Fgg)(mg:Str->Option Value)(base:Heap)(k:Nat)(Γ:List (Str×FnR)):Prop:=True
theorem QmS.nil{P:Program}{w:World}{K:Fgg}{mg:Str->Option Value}{base:Heap}{k:Nat}:QmS P w K mg base k []:=trivial
theorem QAU{X:Cx}{hΓ:List (Str×FnR)}{k:Nat}(hr:Qbf k X.A)(t:QmS X.prog X.w X.K X.mg X.base k hΓ):QgI X hΓ:=trivial
noncomputable def QzF:Const->Option DE
 | .bool b=>some (dC (.bl b))
 | _=>none
noncomputable def QB6:List Expr->Option (Expr×Expr)
 | [a,y]=>some (a,y)
 | _=>none
noncomputable def QAG(Y:Th):Expr->Option (List Str)
 | .Name y _=>if Y.gl y=true then some [y]else none
 | _=>none
mutual
noncomputable def Qfl(n:Nat)(Y:Th)(sub:Str->Str->Option Bool)(hΓ:List (Str×FnR))(e:Expr):Option DE:=match n with
 | 0=>none
 | n+1=>match e with
  | .Name x _=>(Y.slot x).map Qg
  | .Constant v _ _=>QzF v
  | .UnaryOp o a _=>match o with
   | .Not=>(Qfl n Y sub hΓ a).map QhZ
   | _=>none
  | .BoolOp o es p=>match es with
   | []=>none
   | a::r=>match r with
    | []=>Qfl n Y sub hΓ a
    | b::r=>match o with
     | .And=>(Qfl n Y sub hΓ a).bind λfa=>(Qfl n Y sub hΓ (.BoolOp .And (b::r) p)).map λfb=>Qca fa fb
     | .Or=>none
  | .Call f as kw _=>match kw with
   | _::_=>none
   | []=>(QbB f).bind λx=>if Y.gl x=true then if x= "isinstance" then(QB6 as).bind λp=>(QAG Y p.2).bind λys=>(Qfl n Y sub hΓ p.1).map λfa=>QgA sub ys fa
    else none
    else none
  | _=>none
end
theorem QBX{n:Nat}{Y:Th}{sub:Str->Str->Option Bool}{hΓ:List (Str×FnR)}{e:Expr}{f:DE}(h:Qfl n Y sub hΓ e=some f)(es:List Expr)(env:Env):starEach (e::es) env=(false,eval e env)::starEach es env:=by
 cases n with
 | zero=>exact nn h
 | succ n=>cases e<;>first | rfl | exact nn h
theorem QCF{X:Cx}{Y:Th}{sub:Str->Str->Option Bool}{a e:Expr}{fa:DE}{ys:List Str}{p pos:Pos}(ok:CtxB X Y)(hs:Qb7 X.K sub)(g1:Y.gl "isinstance" =true)(h:QAG Y e=some ys)(ha:SE X a fa)(he:starEach [a,e] X.env=(false,eval a X.env)::starEach [e] X.env):SE X (.Call (.Name "isinstance" p) [a,e] [] pos) (QgA sub ys fa):=by
 obtain⟨a1,a2,a3⟩:=Qd9 ok g1;cases e with
 | Name y p2=>
  change(if Y.gl y=true then some [y]else none)=some ys at h;split at h
  ·rename_i g2;cases h;obtain⟨b1,b2,b3⟩:=Qd9 ok g2;exact Qyo hs a1 (ok.mg _ (by decide+kernel)) b1 b2 ha he
  ·cases h
 | _=>exact nomatch (show(none:Option (List Str))=some _ from h)
structure QAE (n:Nat):Prop where
 E:∀X Y sub hΓ e f,CtxB X Y->Qb7 X.K sub->QgI X hΓ->Qfl n Y sub hΓ e=some f->SE X e f
theorem QzB{n:Nat}(ih:QAE n)(X:Cx)(Y:Th)(sub:Str->Str->Option Bool)(hΓ:List (Str×FnR))(e:Expr)(f:DE)(ok:CtxB X Y)(hs:Qb7 X.K sub)(hu:QgI X hΓ)(h:Qfl (n+1) Y sub hΓ e=some f):SE X e f:=by
 have ihE:=λe f=>ih.E X Y sub hΓ e f ok hs hu;cases e with
 | Name x p=>exact mapR (show Option.map _ _=some _ from h) λi h1=>Qdg (Qav ok h1)
 | Constant v k p=>
  change QzF v=some f at h;cases v with
  | bool b=>cases h;exact Ql8 QwK (λ_ _=> .QdK) rfl
  | _=>exact nn h
 | UnaryOp o a p=>
  cases o with
  | Not=>exact mapR (show Option.map _ _=some _ from h) λfa h1=>QtN (ihE _ fa h1)
  | _=>exact nn h
 | BoolOp o es p=>
  cases es with
  | nil=>exact nn h
  | cons a r=>
   cases r with
   | nil=>exact QpE (ihE _ f h)
   | cons b r=>
    cases o with
    | And=>exact bindR h λfa fb h1 h2=>Qs6 (ihE _ fa h1) (ihE _ fb h2)
    | Or=>exact nn h
 | Call fn as kw p=>
  cases kw with
  | cons _ _=>exact nn h
  | nil=>
   refine Qf (show(QbB fn).bind _=some _ from h) λx hx h=>Qoh (G:=λt=>SE X (.Call t as [] p) f) hx λnp=>?_;split at h
   ·rename_i hg;split at h
    ·rename_i hi;subst hi;refine Qf h λq hq h=>?_;rcases as with _ | ⟨a,_ | ⟨y,_ | ⟨z,as⟩⟩⟩
     ·cases hq
     ·cases hq
     ·cases hq;exact bindR h λys fa h1 h2=>QCF ok hs hg h1 (ihE _ fa h2) (QBX h2 _ _)
     ·cases hq
    ·cases h
   ·cases h
 | _=>exact nn h
theorem QwF:∀n,QAE n
 | 0=>⟨λ_ _ _ _ _ _ _ _ _ h=>nomatch (show(none:Option DE)=some _ from h)⟩
 | n+1=>⟨QzB (QwF n)⟩
noncomputable def Qul(Y:Th)(sub:Str->Str->Option Bool)(hΓ:List (Str×FnR))(st:Stmt):Option DS:=match st with
 | .Assign ts e _=>(QvY ts).bind λx=>(Y.QbH x).bind λi=>if QjD e=false/\Qjt e=true then(Qfl 20 Y sub hΓ e).map λfa=>Qo i fa else none
 | _=>none
theorem QtH{X:Cx}{Y:Th}{sub:Str->Str->Option Bool}{hΓ:List (Str×FnR)}{st:Stmt}{f:DS}(ok:CtxB X Y)(hs:Qb7 X.K sub)(hu:QgI X hΓ)(h:Qul Y sub hΓ st=some f):S1 X st f:=by
 cases st with
 | Assign ts e p=>
  refine Qf (show(QvY ts).bind _=some _ from h) λx hx h'=>?_;clear h;rcases ts with _ | ⟨t,_ | ⟨t2,ts⟩⟩
  ·cases hx
  ·refine Qoh (G:=λt=>S1 X (.Assign [t] e p) f) hx λq=>?_;refine Qf h' λi hi h=>?_;split at h
   ·rename_i hc;refine mapR h λfa h1=>?_;obtain⟨a1,a2,a3⟩:=Qcq ok hi;exact Qla λH0 A0=>Qf3 (by rw[ok.N];exact ok.nd) a1 a2 ((QwF 20).E X Y sub hΓ _ fa ok hs hu h1 H0 A0) (QdA hc.2) a3
   ·cases h
  ·cases hx
 | _=>exact nn h
noncomputable def Qpe(Y:Th)(sub:Str->Str->Option Bool)(hΓ:List (Str×FnR)):List Stmt->Option DS
 | []=>some Qm
 | st::r=>(Qul Y sub hΓ st).bind λf=>(Qpe Y sub hΓ r).map λg=>Qd f g
theorem QnI{X:Cx}{Y:Th}{sub:Str->Str->Option Bool}{hΓ:List (Str×FnR)}(ok:CtxB X Y)(hs:Qb7 X.K sub)(hu:QgI X hΓ):∀(sts:List Stmt) (f:DS),Qpe Y sub hΓ sts=some f->SS X sts f
 | [],f,h=>by cases(show some Qm=some f from h);exact QsU
 | st::r,f,h=>bindR h λf g h1 h2=>Qqx (QtH ok hs hu h1) (QnI ok hs hu r g h2)
noncomputable def hd1(Y:Th)(y:Str)(f:DS):Option Str->Option Hd
 | none=>some (y,none,f)
 | some nm=>if look nm Y.sc=some .local then(Y.QbH nm).map λi=>(y,some i,f)else none
noncomputable def QpH(Y:Th)(sub:Str->Str->Option Bool)(hΓ:List (Str×FnR)):List ExceptHandler->Option (List Hd)
 | []=>some []
 | .ExceptHandler t nm bs _::r=>match bs with
  | []=>none
  | b::bs=>t.bind λt=>(QbB t).bind λy=>if Y.gl y=true then(Qpe Y sub hΓ (b::bs)).bind λf=>(hd1 Y y f nm).bind λq=>(QpH Y sub hΓ r).map λl=>q::l else none
theorem QvN{X:Cx}{Y:Th}{ea:Addr}(ok:CtxB X Y):CtxB (inH X ea) Y:=⟨ok.N,ok.nd,ok.lc,ok.ce,ok.fe,ok.gl,ok.units,ok.mg,ok.cs⟩
theorem Qno{X:Cx}{Y:Th}{sub:Str->Str->Option Bool}{hΓ:List (Str×FnR)}(ok:CtxB X Y)(hs:Qb7 X.K sub)(hu:QgI X hΓ):∀(hds:List ExceptHandler) (hl:List Hd),QpH Y sub hΓ hds=some hl->Qgz X hds hl
 | [],f,h=>by cases(show some []=some f from h);exact .nil
 | .ExceptHandler t nm bs p::r,l,h=>by
  cases bs with
  | nil=>exact nomatch (show(none:Option (List Hd))=some _ from h)
  | cons b bs=>
   refine Qf (show t.bind _=some _ from h) λt ht h=>?_;cases ht;refine Qf h λy hy h=>Qoh (G:=λt=>Qgz X (.ExceptHandler (some t) nm (b::bs) p::r) l) hy λnp=>?_;split at h
   ·rename_i hc;obtain⟨g1,g2,_⟩:=Qd9 ok hc;refine Qf h λf h1 h=>?_;refine bindR h λq l hq h2=>?_;have hS:=λea=>QnI (QvN (ea:=ea) ok) hs hu.inH _ f h1;have tl:=Qno ok hs hu r l h2;cases nm with
    | none=>cases(show some (y,none,f)=some q from hq);exact .bare g1 g2 hS tl
    | some nm=>
     change(if look nm Y.sc=some .local then(Y.QbH nm).map λi=>(y,some i,f)else none)=some q at hq;split at hq
     ·rename_i hn;refine mapR (M:=λq=>Qgz X (.ExceptHandler (some (.Name y np)) (some nm) (b::bs) p::r) (q::l)) hq λi hi=>?_;obtain⟨a1,a2,a3⟩:=Qcq ok hi;exact .as g1 g2 a1 (ok.lc nm hn) hS tl
     ·cases hq
   ·cases h
noncomputable def Qu2(n:Nat)(Y:Th)(YX:ThX)(sub:Str->Str->Option Bool)(hΓ:List (Str×FnR))(st:Stmt):Option DS:=match st with
 | .Try body (h::hs) [] [] _=>(QaD n Y body).bind λf=>(QeV n Y YX body).bind λfx=>(QpH Y sub hΓ (h::hs)).map λhl=>QhE f fx sub hl
 | _=>none
theorem Qxm{X:Cx}{Y:Th}{xe:Value->Shared->Prop}{pn:List (Addr×Obj)}(ok:Qab X Y)(ht:∀st,Y.tr st=none)(hp:PassesOwn (model X.prog X.w) X.A X.env xe):Qab (Cx.chg X xe pn) Y:=
 ⟨⟨ok.N,ok.nd,ok.lc,ok.ce,ok.fe,ok.gl,ok.units,ok.mg,ok.cs⟩,ok.calm,hp,ok.fns,λst f h=>by rw[ht st]at h;cases h⟩
theorem QwW{X:Cx}{Y:Th}{YX:ThX}{sub:Str->Str->Option Bool}{hΓ:List (Str×FnR)}{n:Nat}{st:Stmt}{f:DS}(ok:Qab X Y)(ht:∀st,Y.tr st=none)(xk:XOk X YX)(hs:Qb7 X.K sub)(hu:QgI X hΓ)(h:Qu2 n Y YX sub hΓ st=some f):S1 X st f:=by
 unfold Qu2 at h;split at h
 ·rename_i body h0 hds pos;refine Qf h λfb h1 h=>?_;obtain⟨fx,hl,h2,h3,rfl⟩:=Qa2 h;have hN:X.N.Nodup:=by rw[ok.N];exact ok.nd
  refine Qzb hN xk.ex xk.stk xk.fr hs.ok (λxe pn hp=>?_) (Qno ok.toCtxB hs hu _ hl h3);have ok':=Qxm (pn:=pn) ok ht hp;have xk':XOk (Cx.chg X xe pn) YX:=⟨xk.ex,xk.stk,xk.fr,xk.fx,xk.cl⟩;exact⟨(Qjx n).Ss _ _ _ fb ok' h1,(QrC n).Xs _ _ _ _ fx ok' xk' h2⟩
 ·cases h
noncomputable def thT(n:Nat)(st:Stmt)(Γ:List (Str×FnR))(cs:List (Str×Int))(YX:ThX)(sub:Str->Str->Option Bool)(hΓ:List (Str×FnR)):Th:={QfY st Γ cs with tr:=Qu2 n (QfY st Γ cs) YX sub hΓ}
section
variable {P:Program}{w:World}{K:Fgg}{mg:Str->Option Value}{base:Heap}
theorem QqH{h:Heap}{x:Str}{st:Stmt}{ps:List Str}{k n m:Nat}{Γ:List (Str×FnR)}{Γx:List (Str×(Nat×(List D->Option Str)))}{cls:List Str}{cs:List (Str×Int)}{sub:Str->Str->Option Bool}{hΓ:List (Str×FnR)}{g:DS}(X:K.In h)(G:h.Ns mainGlobals mg)(F:Fact K x st)(S:Qb8 (namesOf (Qv st)) ps (Qv st))(B:QbZ x st ps)(M:QeG mg cs)(tab:Qb6 P w K mg base k Γ)(tabx:Qfi P w K mg base k Γx)
  (hcl:∀x∈cls,QiM K x) (hs:Qb7 K sub) (tabh:QmS P w K mg base k hΓ) (hc:QaD n (thT m st Γ cs ⟨Γx,cls⟩ sub hΓ) (Qa5 st)=some g):Known P w K mg base (k+1) x ⟨ps.length,[],Qx (namesOf (Qv st)).length g⟩:=by
 obtain⟨f,fd,Fn,a⟩:=F.ex;refine⟨f,fd,ps,?_,Zbm X G a,Fn.kp,λm hm=>⟨[],[],Fn.binds (B ·),.nil,λH=>by simp[Rps]⟩⟩;refine Fn.ok S (QqC rfl) λcdv A outer s H vs Q E hr h=>?_;obtain⟨ds,L,d,fr,rps,hl,hd,q⟩:=h;have ok:=Qt7 (P:=P) (w:=w) (K:=K) (base:=base) (qual:=x) (f:=f) (outer:=outer) (H:=H) (E:=E) S M tab hr;have xk:XOk (Qfg CX0 P w K mg base (namesOf (Qv st)) x (Qv st) f cdv A outer s H E).nox ⟨Γx,cls⟩:=⟨rfl,rfl,rfl,λz r e=>by
  obtain⟨f',fd',ps',h1,h2,h3,h4,h5⟩:=tabx z r e;exact⟨k,f',fd',ps',h1,hr,h2,h3,h4,h5⟩,hcl⟩
 have ok2:Qab (Qfg CX0 P w K mg base (namesOf (Qv st)) x (Qv st) f cdv A outer s H E).nox (thT m st Γ cs ⟨Γx,cls⟩ sub hΓ):=
  ⟨⟨ok.N,ok.nd,ok.lc,ok.ce,ok.fe,ok.gl,ok.units,ok.mg,ok.cs⟩,ok.calm,ok.pass,ok.fns,λst' f' h'=>QwW ok (λ_=>rfl) xk hs (QAU hr tabh) h'⟩
 refine⟨_,(Qjx n).Ss _ _ _ g ok2 hc H L,?_⟩;obtain⟨F0,rel⟩:=Qi6 (N:=namesOf (Qv st)) rps;unfold Qx at hd;refine Qf hd λo ho hd=>?_;refine⟨_,[],F0,o,rel,ho,?_⟩;cases o with
 | nx U=>
  cases hd;exact λσ H' F' rel'=>q .non H' [] ⟨rel'.same,.Qle,λa ha=>by simp at ha,λ_=>⟨ZaX,rfl,λa ha=>by simp at ha⟩⟩
 | bk U=>cases hd
 | ct U=>cases hd
 | rt d' fr'=>
  cases hd;exact λv H' G r=>q v H' G r
end
end HS
namespace HS
open PySem PySem.Spec L2 PyProof.Rows
section
variable {K:Fgg}{x y:Str}{C C':Addr}{v:Bool}
theorem Qya(a:PySem.W.nsIn K mainGlobals x=some (some (.ref C)))(b:PySem.W.excIn K C [.type "ValueError",.type "Exception",.type "BaseException",.type "object"] "ValueError.__new__" =true):QiM K x:=⟨⟨C,a,b⟩⟩
def XK1(K:Fgg)(x:Str):Prop:=∃C,ClsAt K x C/\Qh1 K C
theorem QBH(a:PySem.W.nsIn K mainGlobals x=some (some (.ref C)))(h1:PySem.W.isClsIn K C=true)(h2:PySem.W.findIn K (.ref C) "__getattribute__" =some (some (.builtin "BaseException.__getattribute__")))(h3:PySem.W.findIn K (.ref C) "__getattr__" =some none)
  (h4:PySem.W.findIn K (.ref C) "__class__" =some (some (.builtin "object.__class__"))) (h5:PySem.W.mroIn K C (.type "object")=some true) (h6:PySem.W.subIn K (.ref C) (.type "BaseException")=some true):XK1 K x:=⟨C,a,h1,h2,h3,h4,h5,h6⟩
def Qop(K:Fgg)(x y:Str)(b:Bool):Prop:=∃C c,ClsAt K x C/\PySem.W.KtsName K y c/\PySem.W.exmOne K (.ref C) c=some b/\PySem.W.kitOne K (.ref C) c=some b
theorem Qvw(a:PySem.W.nsIn K mainGlobals x=some (some (.ref C)))(b:PySem.W.nsIn K mainGlobals y=some (some (.ref C')))(c:PySem.W.exmOne K (.ref C) (.ref C')=some v)(d:PySem.W.kitOne K (.ref C) (.ref C')=some v):Qop K x y v:=⟨C,_,a,.inl b,c,d⟩
theorem QwS(a:PySem.W.nsIn K mainGlobals x=some (some (.ref C)))(b:PySem.W.nsIn K mainGlobals "ValueError" =some none)(c:PySem.W.exmOne K (.ref C) (.type "ValueError")=some v)(d:PySem.W.kitOne K (.ref C) (.type "ValueError")=some v):Qop K x "ValueError" v:=
 ⟨C,_,a,.inr ⟨b,PyProof.Rows.Boot.«ValueError»,by decide⟩,c,d⟩
noncomputable def Qmn(K:Fgg)(x:Str):List (Str×Bool)->Prop
 | []=>True
 | q::r=>Qop K x q.1 q.2/\Qmn K x r
noncomputable def SubL(K:Fgg):List (Str×List (Str×Bool))->Prop
 | []=>True
 | q::r=>(XK1 K q.1/\Qmn K q.1 q.2)/\SubL K r
noncomputable def QwR(tab:List (Str×List (Str×Bool))):Str->Str->Option Bool:=λx y=>(look x tab).bind λr=>look y r
theorem Qkm{α:Type}:∀{x:Str}{l:List (Str×α)}{a:α},look x l=some a->(x,a)∈l
 | x,[],a,h=>by cases h
 | x,(y,b)::r,a,h=>by
  unfold look at h;split at h
  ·rename_i e;cases h;subst e;exact Zl
  ·exact Zc _ (Qkm h)
theorem Qmn.mem:∀{r:List (Str×Bool)},Qmn K x r->∀q∈r,Qop K x q.1 q.2
 | [],_,q,h=>by simp at h
 | p::r,h,q,hq=>by
  rcases Zj.mp hq with rfl | hq
  ·exact h.1
  ·exact Qmn.mem h.2 q hq
theorem SubL.mem:∀{t:List (Str×List (Str×Bool))},SubL K t->∀q∈t,XK1 K q.1/\Qmn K q.1 q.2
 | [],_,q,h=>by simp at h
 | p::r,h,q,hq=>by
  rcases Zj.mp hq with rfl | hq
  ·exact h.1
  ·exact SubL.mem h.2 q hq
theorem Qyy{tab:List (Str×List (Str×Bool))}(h:SubL K tab):Qb7 K (QwR tab):=λx y b e=>by
 refine Qf e λr h1 h2=>?_;obtain⟨⟨C,k1,k2⟩,k3⟩:=h.mem _ (Qkm h1);obtain⟨C',c,m1,m2,m3,m4⟩:=k3.mem _ (Qkm h2);cases QiD k1 m1;exact⟨C,c,k1,m2,m3,m4,k2⟩
noncomputable def Qzl(K:Fgg):List Str->Prop
 | []=>True
 | x::r=>QiM K x/\Qzl K r
theorem Qq9:∀{l:List Str},Qzl K l->∀x∈l,QiM K x
 | [],_,x,h=>by simp at h
 | y::l,h,x,hx=>by
  rcases Zj.mp hx with rfl | hx
  ·exact h.1
  ·exact Qq9 h.2 x hx
end
end HS
namespace HS
open PySem L2
noncomputable def pairD(p:Int×Int):D:= .tup [.int p.1,.int p.2]
noncomputable def Qdd(p:Int×Int×Bool):D:= .tup [.int p.1,.int p.2.1,.bl p.2.2]
noncomputable def QeI(ns:List Int):D:= .lst (ns.map .int)
noncomputable def Q8(ps:Lpp):D:= .lst (ps.map pairD)
noncomputable def QI(m:Int)(R L:Lpp):D:= .tup [.int m,Q8 R,Q8 L]
theorem QbV{α:Type}{f:α->D}(h:∀a,(f a).flat=true):∀l:List α,Qak (l.map f)=true
 | []=>rfl
 | a::l=>by simp[Qak,h a,QbV h l]
@[simp] theorem QCz(i:Int):(D.int i).flat=true:=rfl
@[simp] theorem QCT(i:Bool):(D.bl i).flat=true:=rfl
@[simp] theorem QCg:D.non.flat=true:=rfl
@[simp] theorem QCe(x:Str):(D.str x).flat=true:=rfl
@[simp] theorem QCb(xs:List D):(D.lst xs).flat=false:=rfl
@[simp] theorem QCL(xs:List D):(D.tup xs).flat=Qak xs:=rfl
@[simp] theorem QB0:Qak []=true:=rfl
@[simp] theorem QBT(d:D)(ds:List D):Qak (d::ds)=(d.flat && Qak ds):=rfl
@[simp] theorem QB3(p:Int×Int):(pairD p).flat=true:=rfl
@[simp] theorem QB5(p:Int×Int×Bool):(Qdd p).flat=true:=rfl
@[simp] theorem QBZ(ns:List Int):(QeI ns).flat=false:=rfl
@[simp] theorem QA2(ns:Lpp):(Q8 ns).flat=false:=rfl
@[simp] theorem QAR(ps:Lpp):Qak (ps.map pairD)=true:=QbV (λ_=>rfl) _
@[simp] theorem QrG(ps:List (Int×Int×Bool)):Qak (ps.map Qdd)=true:=QbV (λ_=>rfl) _
@[simp] theorem Qro(ns:List Int):Qak (ns.map .int)=true:=QbV (λ_=>rfl) _
@[simp] theorem QB2(xs ys:List D):Qak (xs++ys)=(Qak xs && Qak ys):=QcM xs ys
def Run(f:DS)(U:En)(Q:Out->Prop):Prop:=∃o,f U=some o/\Q o
noncomputable def Nx(Q:En->Prop):Out->Prop
 | .nx U=>Q U
 | _=>False
noncomputable def Rt(Q:D->Bool->Prop):Out->Prop
 | .rt d fr=>Q d fr
 | _=>False
theorem Run.mono(h:Run f U Q)(m:∀o,Q o->Q' o):Run f U Q':=let ⟨o,h1,h2⟩:=h;⟨o,h1,m o h2⟩
theorem Qt(h:Q (.nx U)):Run Qm U Q:=⟨_,rfl,h⟩
theorem run_seq(h:Run f U (Nx λU'=>Run g U' Q)):Run (Qd f g) U Q:=by
 obtain⟨o,h1,h2⟩:=h;cases o with
 | nx U'=>
  obtain⟨o',h3,h4⟩:=h2;exact⟨o',by simp[Qd,h1,h3],h4⟩
 | _=>exact False.elim h2
theorem QC(h:Run f U λo=>match o with | .nx U'=>Run g U' Q | o=>Q o):Run (Qd f g) U Q:=by
 obtain⟨o,h1,h2⟩:=h;cases o with
 | nx U'=>
  obtain⟨o',h3,h4⟩:=h2;exact⟨o',by simp[Qd,h1,h3],h4⟩
 | bk U'=>exact⟨_,by simp[Qd,h1],h2⟩
 | ct U'=>exact⟨_,by simp[Qd,h1],h2⟩
 | rt d fr=>exact⟨_,by simp[Qd,h1],h2⟩
theorem Qz(h:fa U=some r)(q:Q (.nx (asg i r U))):Run (Qo i fa) U Q:=⟨_,by simp[Qo,h],q⟩
theorem Qbg(h:fa U=some r)(q:Q (.rt r.d (r.norm.fr && decide r.norm.M.Nodup))):Run (QM fa) U Q:=⟨_,by simp[QM,h],q⟩
theorem QU(h:g U=some b)(q1:b=true->Run f1 U Q)(q2:b=false->Run f2 U Q):Run (sIf g f1 f2) U Q:=by
 cases b with
 | true=>obtain⟨o,h1,h2⟩:=q1 rfl;exact⟨o,by simp[sIf,h,h1],h2⟩
 | false=>obtain⟨o,h1,h2⟩:=q2 rfl;exact⟨o,by simp[sIf,h,h1],h2⟩
theorem QR(h:Run f (Qau k ds) (Rt λd' fr'=>d'=d/\fr'=fr)):Qx k f ds=some (d,fr):=by
 obtain⟨o,h1,h2⟩:=h;unfold Qx;cases o with
 | rt d' fr'=>obtain⟨rfl,rfl⟩:=h2;rw[h1];rfl
 | _=>exact False.elim h2
theorem Qpo{α:Type}{t:Tg}{fb:DS}{toD:α->D}{Q:Out->Prop}(I:Nat->En->Prop):∀(xs ys:List α) (U:En),I ys.length U→
  (∀i x U,(ys++xs)[i]? =some x->ys.length<=i->I i U->∃U1,Qbr t (toD x) U=some U1/\Run fb U1 λo=>match o with | .nx U2=>I (i+1) U2 | .ct U2=>I (i+1) U2 | .bk U2=>Q (.nx U2) | .rt d fr=>Q (.rt d fr))→
  (∀U,I (ys++xs).length U->Q (.nx U))->Run (Qc8 t fb (xs.map toD)) U Q
 | [],ys,U,h0,_,fin=>⟨_,rfl,fin U (by simpa using h0)⟩
 | x::xs,ys,U,h0,turn,fin=>by
  obtain⟨U1,h1,o,h2,h3⟩:=turn ys.length x U (by simp) (Zi _) h0;have next:∀U2,I (ys.length+1) U2->Run (Qc8 t fb (xs.map toD)) U2 Q:=λU2 hi=>
   Qpo I xs (ys++[x]) U2 (by simpa using hi) (λi y U' e hl=>turn i y U' (by simpa using e) (by simp at hl;omega)) (λU' h=>fin U' (by simpa using h))
  cases o with
  | nx U2=>obtain⟨o',e1,e2⟩:=next U2 h3;exact⟨o',by simp[Qc8,h1,h2,e1],e2⟩
  | ct U2=>obtain⟨o',e1,e2⟩:=next U2 h3;exact⟨o',by simp[Qc8,h1,h2,e1],e2⟩
  | bk U2=>exact⟨_,by simp[Qc8,h1,h2],h3⟩
  | rt d fr=>exact⟨_,by simp[Qc8,h1,h2],h3⟩
theorem Qay{α:Type}{fi:DI}{t:Tg}{fb:DS}{toD:α->D}{U:En}{ir:IR}{Q:Out->Prop}(xs:List α)(I:Nat->En->Prop)(h:fi U=some ir)(hx:ir.items=xs.map toD)(h0:I 0 (QaX ir.M U))
  (turn:∀i x U,xs[i]? =some x->I i U->∃U1,Qbr t (toD x) U=some U1/\Run fb U1 λo=>match o with | .nx U2=>I (i+1) U2 | .ct U2=>I (i+1) U2 | .bk U2=>Q (.nx U2) | .rt d fr=>Q (.rt d fr))
  (fin:∀U,I xs.length U->Q (.nx U)):Run (QaV fi t fb) U Q:=by
 obtain⟨o,h1,h2⟩:=Qpo (t:=t) (fb:=fb) (toD:=toD) (Q:=Q) I xs [] (QaX ir.M U) h0 (λi x U e _=>turn i x U (by simpa using e)) (λU h=>fin U (by simpa using h));exact⟨o,by simp[QaV,h,hx,h1],h2⟩
theorem QnP{α:Type}{t:Tg}{ft:DT}{fe:DE}{Uc:En}{toD:α->D}{keep:α->Bool}{out:α->D}:∀(xs:List α) (acc:List D),
  (∀x∈xs,∃U1,Qbr t (toD x) Uc=some U1/\ft U1=some (keep x)/\(keep x=true->∃r,fe U1=some r/\r.d=out x/\r.norm.fr=true))→
  (xs.map toD).foldlM (Qgv t ft fe Uc) (acc,true)=some (acc++(xs.filter keep).map out,true)
 | [],acc,_=>by simp
 | x::xs,acc,h=>by
  obtain⟨U1,h1,h2,h3⟩:=h x Zl;have ih:=λacc=>QnP xs acc (λy hy=>h y (Zc _ hy));cases hk:keep x with
  | false=>
   have e:Qgv t ft fe Uc (acc,true) (toD x)=some (acc,true):=by simp[Qgv,h1,h2,hk]
   simp[Zcb,e,ih,hk]
  | true=>
   obtain⟨r,h4,h5,h6⟩:=h3 hk;have e:Qgv t ft fe Uc (acc,true) (toD x)=some (acc++[out x],true):=by simp[Qgv,h1,h2,hk,h4,h5,h6]
   simp[Zcb,e,ih,hk]
theorem QcC{α:Type}{fi:DI}{t:Tg}{cap:List (Option Nat)}{ft:DT}{fe:DE}{U:En}{ir:IR}{toD:α->D}{keep:α->Bool}{out:α->D}(xs:List α)(h:fi U=some ir)(hx:ir.items=xs.map toD)
  (turn:∀x∈xs,∃U1,Qbr t (toD x) (Qfn cap U)=some U1/\ft U1=some (keep x)/\(keep x=true->∃r,fe U1=some r/\r.d=out x/\r.norm.fr=true)):
  QF fi t cap ft fe U=some ⟨.lst ((xs.filter keep).map out),true,[]⟩:=by
 unfold QF;rw[h,Za,hx,QnP xs [] turn];simp
theorem QA{α:Type}{fi:DI}{t:Tg}{cap:List (Option Nat)}{fe:DE}{U:En}{ir:IR}{toD:α->D}{out:α->D}(xs:List α)(h:fi U=some ir)(hx:ir.items=xs.map toD)
  (turn:∀x∈xs,∃U1,Qbr t (toD x) (Qfn cap U)=some U1/\∃r,fe U1=some r/\r.d=out x/\r.norm.fr=true):
  QF fi t cap QN fe U=some ⟨.lst (xs.map out),true,[]⟩:=by
 have:=QcC (keep:=λ_=>true) (ft:=QN) xs h hx (cap:=cap) (t:=t) (fe:=fe) (out:=out) λx hx=>by
  obtain⟨U1,h1,h2⟩:=turn x hx;exact⟨U1,h1,rfl,λ_=>h2⟩
 rw[this,ZbP.mpr λ_ _=>rfl]
@[simp] theorem QCn(d:D):R.norm ⟨d,true,[]⟩=⟨d,true,[]⟩:=by unfold R.norm;split<;>rfl
@[simp] theorem Qae(i:Nat)(d:D)(U:En):asg i ⟨d,true,[]⟩ U=U.set i (some (d,true)):=by unfold asg;simp[kill]
theorem rsa{i:Nat}{fa:DE}{g:DS}{U:En}{d:D}{Q:Out->Prop}(h:fa U=some ⟨d,true,[]⟩)(q:Run g (U.set i (some (d,true))) Q):Run (Qd (Qo i fa) g) U Q:=run_seq (Qz h (by rw[Qae];exact q))
theorem Qdx{n k k1:Nat}(h:(List.range n)[k]? =some k1):k<n/\k=k1:=by
 obtain⟨h1,h2⟩:=Zk.mp h;simp at h1 h2;exact⟨h1,h2⟩
theorem Qdn{i:Nat}{d:D}{fr:Bool}{M:List Nat}{U:En}(h:d.flat=true):asg i ⟨d,fr,M⟩ U=U.set i (some (d,true)):=by
 unfold asg R.norm;simp[h,kill]
theorem QbD{i:Nat}{U:En}{d:D}{b:Bool}(h:U[i]? =some (some (d,b))):Qg i U=some (if d.flat then⟨d,true,[]⟩else if b then⟨d,true,[i]⟩else⟨d,false,[]⟩):=by
 unfold Qg;rw[h];dsimp only;split
 ·simp_all
 ·split<;>simp_all
theorem Qpu{i:Nat}{U:En}{n:Int}{b:Bool}(h:U[i]? =some (some (.int n,b))):Qg i U=some (reI n):=by rw[QbD h];rfl
@[simp] theorem Qbo(d:D)(U:En):dC d U=some ⟨d,true,[]⟩:=rfl
theorem Qag{g:D->D->Option D}{fa fb:DE}{U:En}{ra rb:R}{d:D}(ha:fa U=some ra)(hb:fb U=some rb)(h:g ra.d rb.d=some d):dOp g fa fb U=some ⟨d,true,[]⟩:=by simp[dOp,ha,hb,h]
theorem Qq{fa:DE}{fs:DA}{U:En}{r:R}{rs:RA}(ha:fa U=some r)(hs:fs U=some rs):Qa fa fs U=some ⟨r.d::rs.ds,r.fr && rs.fr,r.M++rs.M⟩:=by simp[Qa,ha,hs]
@[simp] theorem QL(U:En):Qe U=some ⟨[],true,[]⟩:=rfl
noncomputable def vf(d:D)(b:Bool)(i:Nat):R:=if d.flat then⟨d,true,[]⟩else if b then⟨d,true,[i]⟩else⟨d,false,[]⟩
@[simp] theorem QCV(d:D)(b:Bool)(i:Nat):(vf d b i).d=d:=by unfold vf;split;rfl;split<;>rfl
@[simp] theorem Qwn(i j:Int)(h:0<=j):Qdq i j=i % j:=by unfold Qdq;rw[if_pos h]
@[simp] theorem QkP(i j:Int)(h:0<=j):Qd3 i j=i / j:=by unfold Qd3;rw[if_pos h]
theorem QbP{i j:Int}(h:i.natAbs<2^64):QdT i j=true:=by unfold QdT;simp[h]
theorem Qcd{i j:Int}(h:j.natAbs<2^64):QdT i j=true:=by unfold QdT;simp[h]
theorem QdG{i j:Int}(h1:Builtin.Int.intBits i<=2^20)(h2:Builtin.Int.intBits j<=2^20):QdT i j=true:=by
 unfold QdT;rw[decide_eq_true h1,decide_eq_true h2,Bool.and_self,Bool.or_true]
theorem Qjz:(sizeLine:Nat)=16777216:=sizeLine_eq
noncomputable def Qb(m:Nat)(f:Mt1):D:= .lst ((List.range m).map λi=> .int (f i))
noncomputable def Qc(m n:Nat)(f:Mt2):D:= .lst ((List.range m).map λi=>Qb n (f i))
@[simp] theorem QCi(m:Nat)(f:Mt1):(Qb m f).flat=false:=rfl
@[simp] theorem QCS(m n:Nat)(f:Mt2):(Qc m n f).flat=false:=rfl
@[simp] theorem QtM(m:Nat)(f:Mt1):Qak ((List.range m).map λi=>D.int (f i))=true:=QbV (f:=λi=>D.int (f i)) (λ_=>rfl) _
noncomputable def up(f:Mt1)(i:Nat)(v:Int):Nat->Int:=λj=>if j=i then v else f j
noncomputable def up2(f:Mt2)(i j:Nat)(v:Int):Nat->Nat->Int:=λk=>if k=i then up (f k) j v else f k
theorem Qby{n:Nat}{i:Int}(h0:0<=i)(h:i<n):ixN n i=some i.toNat:=by
 unfold ixN;rw[if_pos ⋯,if_pos ⋯]
theorem Qjh{α:Type}{xs:List α}{i:Int}(h0:0<=i)(h:i<xs.length):atI xs i=xs[i.toNat]? :=by
 unfold atI;rw[Qby h0 h];rfl
theorem Qfe{α:Type}{m:Nat}{f:Nat->α}{i:Nat}{v:α}:((List.range m).map f).set i v=(List.range m).map λj=>if j=i then v else f j:=by
 apply ZaV;intro k;rw[ZbT];simp only[Zn,Zu,Zr];by_cases hk:k<m
 ·rw[ZK hk];by_cases e:i=k
  ·subst e;simp[hk]
  ·simp[e,Ne.symm e]
 ·rw[Zv (by simp;omega)];by_cases e:i=k
  ·subst e;simp[hk]
  ·simp[e]
theorem QjN{m:Nat}{f:Mt1}{i:Nat}{v:Int}:((List.range m).map λj=>D.int (f j)).set i (.int v)=(List.range m).map λj=>D.int (up f i v j):=by
 rw[Qfe];congr 1;funext j;unfold up;split<;>rfl
theorem Qrj{m:Nat}{f:Mt1}{i:Int}(h0:0<=i)(h:i<m):atI ((List.range m).map λj=>D.int (f j)) i=some (.int (f i.toNat)):=by
 rw[Qjh h0 (by simpa using h),Zr,ZK ⋯];rfl
theorem QmC{m n:Nat}{f:Mt2}{i:Int}(h0:0<=i)(h:i<m):atI ((List.range m).map λj=>Qb n (f j)) i=some (Qb n (f i.toNat)):=by
 rw[Qjh h0 (by simpa using h),Zr,ZK ⋯];rfl
theorem QkD{x m:Nat}{f:Mt1}{fi fa:DE}{U:En}{i:Int}{v:Int}{ri ra:R}{Q:Out->Prop}(hx:U[x]? =some (slT (Qb m f)))(hi:fi U=some ri)(ei:ri.d= .int i)(ha:fa U=some ra)(ea:ra.d= .int v)(h0:0<=i)(h:i<m)
  (q:Q (.nx (U.set x (slT (Qb m (up f i.toNat v)))))):Run (QbL x Qap fi fa) U Q:=by
 refine⟨_,?_,q⟩;have hn:ra.norm=(reI v):=by unfold R.norm;rw[ea];rfl
 unfold QbL;rw[ha,Za,hx];simp only[Qap,Za,hi,ei,Qbh,Qb,Zn,Zu,Qby h0 h,hn,ea,Qbk,QjN];simp[kill]
theorem Qu8{g:D->D->Option D}{x m:Nat}{f:Mt1}{fi fa:DE}{U:En}{i w:Int}{ri ra:R}{Q:Out->Prop}(hx:U[x]? =some (slT (Qb m f)))(hi:fi U=some ri)(ei:ri.d= .int i)(ha:fa U=some ra)(h0:0<=i)(h:i<m)
  (hg:g (.int (f i.toNat)) ra.d=some (.int w)) (q:Q (.nx (U.set x (slT (Qb m (up f i.toNat w)))))):Run (QdY g x Qap fi fa) U Q:=by
 refine⟨_,?_,q⟩;have hj:((List.range m).map λj=>D.int (f j))[i.toNat]? =some (.int (f i.toNat)):=by rw[Zr,ZK ⋯];rfl
 unfold QdY;rw[hx];simp only[Qap,Za,hi,ei,Qbh,Qb,Zn,Zu,Qby h0 h,hj,ha,hg,Qbk,QjN,ZV]
theorem QpS{g:D->D->Option D}{x m n:Nat}{f:Mt2}{fp fi fa:DE}{U:En}{i j w:Int}{rp ri ra:R}{Q:Out->Prop}(hx:U[x]? =some (slT (Qc m n f)))(hp:fp U=some rp)(ep:rp.d= .int i)(hi:fi U=some ri)(ei:ri.d= .int j)(ha:fa U=some ra)
  (h0:0<=i) (h:i<m) (k0:0<=j) (k:j<n) (hg:g (.int (f i.toNat j.toNat)) ra.d=some (.int w)) (q:Q (.nx (U.set x (slT (Qc m n (up2 f i.toNat j.toNat w)))))):Run (QdY g x (Qb3 Qap fp) fi fa) U Q:=by
 refine⟨_,?_,q⟩;have hj:((List.range n).map λk=>D.int (f i.toNat k))[j.toNat]? =some (.int (f i.toNat j.toNat)):=by rw[Zr,ZK ⋯];rfl
 have hd:Qbh (Qc m n f) [i]=some (Qb n (f i.toNat)):=by
  simp only[Qbh,Qc,D.items,Za,QmC h0 h]
 have hu:Qbk [i] (Qc m n f) (.lst (((List.range n).map λk=>D.int (f i.toNat k)).set j.toNat (.int w)))=Qc m n (up2 f i.toNat j.toNat w):=by
  simp only[Qbk,Qc,Zn,Zu,Qby h0 h,QjN];rw[Qfe];congr 2;funext k;unfold up2;split
  ·rename_i e;subst e;rfl
  ·rfl
 unfold QdY;rw[hx];simp only[Qb3,Qap,Za,hp,ep,ZbL,hi,ei,hd,Qb,Zn,Zu,Qby k0 k,hj,ha,hg,ZV];rw[hu]
theorem QaR{n:Nat}(h:fa U=some r)(e:r.d= .int n)(hn:n<=16777216):QaH fa U=some ⟨(List.range n).map λ(k:Nat)=> .int (k:Int),[]⟩:=by
 unfold QaH;rw[h,Za,e];dsimp only;rw[if_pos ⟨⋯,⋯⟩];simp[QiU]
theorem Qq3{α:Type}(x:α):∀n:Nat,(List.replicate n [x]).flatten=(List.range n).map λ_=>x
 | 0=>rfl
 | n+1=>by
  rw[Zaq,Zat,Qq3 x n,Zbz,ZJ,Zam];rfl
theorem QeY{n:Nat}(h:fb U=some r)(e:r.d= .int n)(hn:n<=16777216):QZ (Qad (Qa (dC (.int z)) Qe)) fb U=some (reT (Qb n (λ_=>z))):=by
 have h1:Qad (Qa (dC (.int z)) Qe) U=some (reT (.lst [.int z])):=rfl;unfold QZ;rw[h1,Za,h,Za,e];dsimp only;rw[if_pos ⟨by simp[Qjz];omega,⋯,⋯,rfl⟩];simp only[ZP,Qq3];rfl
noncomputable def QmN:DS:=(Qd (Qo 2 (QF (QX vv0) (.tp [1,2]) [none,none,none] QN (QaO (Qa vv1 (Qa vv2 Qe))))) (Qd (Qo 3 (QF (QX vv0) (.tp [1,2]) [none,none,none] QN (QaO (Qa vv2 (Qa vv1 Qe))))) (Qd (QM (QE (QE vv2 vv3) (dList (Qa vv1 Qe)))) Qm)))
theorem QjK(ha:fa U=some ra)(ea:ra.d=Q8 A)(hb:fb U=some rb)(eb:rb.d=Q8 B)(hl:A.length+B.length<=16777216):QE fa fb U=some (reT (Q8 (A++B))):=by
 unfold QE;rw[ha,Za,hb,Za,ea,eb];simp only[Q8,Zn,Qjz,if_pos hl,Qa0];simp
theorem Qkh(h:fs U=some rs)(e:rs.ds=[Q8 A])(_:True=True):dList fs U=some (reT (Q8 A)):=by
 unfold dList;rw[h,Za,e];simp[Q8,Qa0]
theorem Qy(h:fa U=some r)(q:Q r.d (r.norm.fr && decide r.norm.M.Nodup)):Run (Qd (QM fa) g) U (Rt Q):=QC (Qbg h q)
theorem QtC{R L:Lpp}(hl:R.length+R.length+L.length<=16777216):Qx 4 QmN [Q8 R,Q8 L]=slT (Q8 (R++R.map Prod.swap++L)):=by
 refine QR ?_;refine run_seq (Qz (QA R rfl rfl λx _=>⟨[none,slI x.1,slI x.2],rfl,⟨pairD x,true,[]⟩,rfl,rfl,rfl⟩) ?_);refine run_seq (Qz (QA R rfl rfl λx _=>⟨[none,slI x.1,slI x.2],rfl,⟨pairD x.swap,true,[]⟩,rfl,rfl,rfl⟩) ?_);have e1:(R.map λx=>pairD x.swap)=(R.map Prod.swap).map pairD:=by simp[Zam,Function.comp_def]
 rw[e1];exact Qy (QjK (QjK rfl rfl rfl rfl (by simpa using(by omega:R.length+R.length<=16777216))) rfl (Qkh rfl rfl rfl) rfl (by simpa using hl)) ⟨rfl,rfl⟩
theorem Ql(h:fs U=some r)(hd:den (r.ds++dfl)=some (d,true))(hl:r.ds.length+dfl.length=n):Qh n den dfl fs U=some ⟨d,true,[]⟩:=by
 unfold Qh;rw[h,Za,if_pos hl,hd];simp
theorem QW(h:fa U=some r)(e:r.d= .lst xs):QX fa U=some ⟨xs,r.M⟩:=by
 unfold QX;rw[h,Za,e]
noncomputable def stepT(m:Nat)(f:Mt2)(s:Int×Int):Nat->Nat->Int:=
 let f1:=if s.1<m then up2 f s.1.toNat s.1.toNat (f s.1.toNat s.1.toNat-1)else f
 if s.1<m/\s.2<m then up2 f1 s.1.toNat s.2.toNat (f1 s.1.toNat s.2.toNat+1)else f1
noncomputable def Qs(m:Nat)(S:Lpp):Nat->Nat->Int:=S.foldl (stepT m) λ_ _=>0
noncomputable def Qgf(QdB:Den):DS:=(Qd (Qo 1 (QaB (Qr vv0 kk0))) (Qd (Qo 2 (QF (QaH vv1) (.nm 1) [none,none,some 1] QN (QZ (Qad (Qa kk0 Qe)) vv2))) (Qd (QaV (QX (Qh 2 QdB [] (Qa (Qr vv0 kk1) (Qa (Qr vv0 kk2) Qe)))) (.tp [3,4]) (Qd (sIf (QB (dOp gLt vv3 vv1)) (Qd (QdY Qax 2 (Qb3 Qap vv3) vv3 kk1) Qm) Qm) (Qd (sIf (QhX (QB (dOp gLt vv3 vv1)) (QB (dOp gLt vv4 vv1))) (Qd (QdY (gI λi j=>some (.int (i+j))) 2 (Qb3 Qap vv3) vv4 kk1) Qm) Qm) Qm))) (Qd (QM vv2) Qm))))
theorem QuO{QdB:Den}{m:Nat}{R L S:Lpp}(hm:m<=16777216)(hs:QdB [Q8 R,Q8 L]=slT (Q8 S))(hS:∀s∈S,0<=s.1/\0<=s.2):Qx 5 (Qgf QdB) [QI m R L]=slT (Qc m m (Qs m S)):=by
 refine QR ?_;refine run_seq (Qz rfl ?_);refine run_seq (Qz (QA (List.range m) (QaR rfl rfl hm) rfl λx _=>⟨[none,slI x,slI m],rfl,_,QeY rfl rfl hm,rfl,rfl⟩) ?_);refine run_seq (Qay S (λi U=>∃j1 j2,U=[slF (QI m R L),slI m,slT (Qc m m (Qs m (S.take i))),j1,j2]) (ir:=⟨S.map pairD,[]⟩) ?_ rfl ⟨none,none,rfl⟩ ?_ ?_)
 ·exact QW (Ql (r:=⟨[Q8 R,Q8 L],false,[]⟩) rfl hs rfl) rfl
 ·rintro i s U hi ⟨j1,j2,rfl⟩;refine⟨_,rfl,?_⟩;obtain⟨s1,s2⟩:=hS s (Zax hi);refine run_seq (Run.mono (Q:=Nx λU=>U=[slF (QI m R L),slI m,slT (Qc m m (if s.1<m then up2 (Qs m (S.take i)) s.1.toNat s.1.toNat (Qs m (S.take i) s.1.toNat s.1.toNat-1)else Qs m (S.take i))),slI s.1,slI s.2]) ?_ ?_)
  ·refine QU rfl (λh=>?_) (λh=>?_)
   ·have h:=of_decide_eq_true h;rw[if_pos h];exact run_seq (QpS rfl rfl rfl rfl rfl rfl s1 h s1 h rfl (Qt rfl))
   ·have h:=of_decide_eq_false h;rw[if_neg h];exact Qt rfl
  ·intro o ho;cases o with
   | nx U=>
    subst ho;have fin:Qs m (S.take (i+1))=stepT m (Qs m (S.take i)) s:=by
     unfold Qs;rw[List.take_add_one,hi,List.foldl_append];rfl
    refine run_seq (Run.mono (Q:=Nx λU=>U=[slF (QI m R L),slI m,slT (Qc m m (stepT m (Qs m (S.take i)) s)),slI s.1,slI s.2]) ?_ ?_)
    ·refine QU (b:=decide (s.1<m/\s.2<m)) ?_ (λh=>?_) (λh=>?_)
     ·by_cases h:s.1<(m:Int)
      ·simp[QhX,QB,dOp,Qg,gLt,gI,D.tru,h]
      ·simp[QhX,QB,dOp,Qg,gLt,gI,D.tru,h]
     ·have h:=of_decide_eq_true h;refine run_seq (QpS rfl rfl rfl rfl rfl rfl s1 h.1 s2 h.2 rfl (Qt ?_));unfold stepT;rw[if_pos h];rfl
     ·have h:=of_decide_eq_false h;refine Qt ?_;unfold stepT;rw[if_neg h];rfl
    ·intro o ho;cases o with
     | nx U=>
      subst ho;exact Qt ⟨_,_,by rw[fin]⟩
     | _=>exact False.elim ho
   | _=>exact False.elim ho
 ·rintro U ⟨j1,j2,rfl⟩;rw[Zce];exact Qy rfl ⟨rfl,rfl⟩
noncomputable def hit(i j:Nat)(s:Int×Int):Int:=(if s.1=i/\s.2=j then 1 else 0)-(if s.1=i/\i=j then 1 else 0)
theorem Qq4:up2 f a b v i j=if i=a/\j=b then v else f i j:=by
 unfold up2 up;by_cases h1:i=a
 ·by_cases h2:j=b
  ·simp[h1,h2]
  ·simp[h1,h2]
 ·simp[h1]
theorem QsR(hi:i<m)(hj:j<m)(h1:0<=s.1)(h2:0<=s.2):stepT m f s i j=f i j+hit i j s:=by
 unfold stepT hit;have e1:(s.1=(i:Int))↔(i=s.1.toNat):= ⋯
 have e2:(s.2=(j:Int))↔(j=s.2.toNat):= ⋯
 simp only[e1,e2];by_cases c1:s.1<(m:Int)
 ·by_cases c2:s.2<(m:Int)
  ·simp only[c1,c2,and_self,if_true,Qq4];generalize s.1.toNat=a;generalize s.2.toNat=b;by_cases d1:i=a
   ·subst d1;by_cases d2:j=b
    ·subst d2;by_cases d3:i=j
     ·subst d3;simp
     ·have d4:¬j=i:=λz=>d3 z.symm;simp[d3,d4]
    ·by_cases d3:i=j
     ·subst d3;simp[d2];omega
     ·have d4:¬j=i:=λz=>d3 z.symm;simp[d2,d3,d4]
   ·simp[d1]
  ·have d2:¬(j=s.2.toNat):= ⋯
   simp only[c1,c2,and_false,if_false,if_true,Qq4,d2];generalize s.1.toNat=a;by_cases d1:i=a
   ·subst d1;by_cases d3:i=j
    ·subst d3;simp;omega
    ·have d4:¬j=i:=λz=>d3 z.symm;simp[d3,d4]
   ·simp[d1]
 ·have d1:¬(i=s.1.toNat):= ⋯
  simp[c1,d1]
theorem Qnz(hi:i<m)(hj:j<m):∀(S:Lpp) (f:Mt2),(∀s∈S,0<=s.1/\0<=s.2)->S.foldl (stepT m) f i j=f i j+(S.map (hit i j)).sum
 | [],f,_=>by simp
 | s::S,f,h=>by
  obtain⟨h1,h2⟩:=h s Zl;rw[List.foldl_cons,Qnz hi hj S _ (λt ht=>h t (Zc _ ht)),QsR hi hj h1 h2,ZJ,ZaH];omega
theorem Qcp(hi:i<m)(hj:j<m)(h:∀s∈S,0<=s.1/\0<=s.2):Qs m S i j=(S.map (hit i j)).sum:=by
 unfold Qs;rw[Qnz hi hj S _ h];simp
noncomputable def isI(i:Nat)(a:Int):Int:=if a=i then 1 else 0
noncomputable def Qct(R L:Lpp)(i:Nat):Int:=(R.map λr=>isI i r.1+isI i r.2).sum+(L.map λl=>isI i l.1).sum
theorem sum_neg(S:Lpp)(i:Nat)(h:∀s∈S,s.1≠s.2):(S.map (hit i i)).sum= -(S.map λs=>isI i s.1).sum:=by
 induction S with
 | nil=>rfl
 | cons s S ih=>
  rw[ZJ,ZaH,ih λt ht=>h t (Zc _ ht),ZJ,ZaH];have hn:=h s Zl;unfold hit isI;by_cases e:s.1=(i:Int)
  ·have:¬(s.2=(i:Int)):=λz=>hn (e.trans z.symm);simp[e,this];omega
  ·simp[e]
noncomputable def Qp(R L:Lpp):List (Int×Int):=R++R.map Prod.swap++L
theorem Qnx(R L:Lpp)(i:Nat):((Qp R L).map λs=>isI i s.1).sum=Qct R L i:=by
 unfold Qp Qct;rw[ZaC,ZaC,ZbQ,ZbQ];have:(R.map λr=>isI i r.1+isI i r.2).sum=(R.map λs=>isI i s.1).sum+((R.map Prod.swap).map λs=>isI i s.1).sum:=by
  induction R with
  | nil=>rfl
  | cons r R ih=>simp only[ZJ,ZaH,ih,Prod.fst_swap];omega
 omega
def Good(m:Nat)(s:Int×Int):Prop:=0<=s.1/\0<=s.2/\s.1<=m/\s.2<=m/\s.1≠s.2
theorem Qcl{m:Nat}{R L:Lpp}(hR:∀s∈R,Good m s)(hL:∀s∈L,Good m s):∀s∈Qp R L,Good m s:=λs hs=>by
 unfold Qp at hs;rcases ZG.mp hs with hs | hs
 ·rcases ZG.mp hs with hs | hs
  ·exact hR s hs
  ·obtain⟨t,ht,rfl⟩:=ZL.mp hs;obtain⟨h1,h2,h3,h4,h5⟩:=hR t ht;exact⟨h2,h1,h4,h3,λz=>h5 z.symm⟩
 ·exact hL s hs
def Qf0(d:Den):Prop:=∀(m:Nat) (R L:Lpp),m<=1000->R.length+R.length+L.length<=1000000->(∀s∈R,Good m s)->(∀s∈L,Good m s)->d [QI m R L]=some (Qc m m (Qs m (Qp R L)),true)
theorem Qxp:Qf0 (Qx 5 (Qgf (Qx 4 QmN))):=λm R L hm hl hR hL=>by
 refine QuO ⋯ (QtC ⋯) λs hs=>?_;obtain⟨h1,h2,_⟩:=Qcl hR hL s hs;exact⟨h1,h2⟩
noncomputable def Qj7(QaE:Den):DS:=(Qd (QM (QF (QdX (Qh 1 QaE [] (Qa vv0 Qe))) (.tp [1,2]) [none,none,none] QN (dOp Qax kk0 (Qr vv2 vv1)))) Qm)
theorem QlY{α:Type}(m:Nat)(f:Nat->D):Qdm ((List.range m).map f)=(List.range m).map λi=> .tup [.int i,f i]:=by
 apply ZaV;intro k;unfold Qdm;simp only[Zr,List.getElem?_zipIdx,Nat.zero_add];by_cases hk:k<m
 ·rw[ZK hk];rfl
 ·rw[Zv (by simp;omega)];rfl
theorem QvO{d:Den}(hd:Qf0 d){m:Nat}{R L:Lpp}(hm:m<=1000)(hl:R.length+R.length+L.length<=1000000)(hR:∀s∈R,Good m s)(hL:∀s∈L,Good m s):Qx 1 (Qj7 d) [QI m R L]=slT (Qb m (Qct R L)):=by
 refine QR ?_;refine Qy (QA (toD:=λ(i:Nat)=> .tup [.int i,Qb m (Qs m (Qp R L) i)]) (out:=λ(i:Nat)=> .int (Qct R L i)) (ir:=⟨Qdm ((List.range m).map λi=>Qb m (Qs m (Qp R L) i)),[]⟩) (List.range m) ?_ ?_ λi hi=>?_) ⟨rfl,rfl⟩
 ·unfold QdX;rw[Ql (n:=1) (fs:=Qa (Qg 0) Qe) (U:=Qau 1 [QI m R L]) (dfl:=[]) (r:=⟨[QI m R L],false,[]⟩) rfl (hd m R L hm hl hR hL) rfl];rfl
 ·exact QlY (α:=Nat) m _
 ·have hi:=Zf.mp hi;refine⟨[none,slI i,slF (Qb m (Qs m (Qp R L) i))],rfl,reI (0-Qs m (Qp R L) i i),?_,?_,rfl⟩
  ·have e:Qr (Qg 2) (Qg 1) [none,slI (i:Int),slF (Qb m (Qs m (Qp R L) i))]=some (reI (Qs m (Qp R L) i i)):=by
    show((D.items (Qb m (Qs m (Qp R L) i))).bind λxs=>(atI xs (i:Int)).map λd=>(HS.R.norm ⟨d,false,[]⟩))=_;unfold Qb;rw[show D.items (.lst ((List.range m).map λj=>D.int (Qs m (Qp R L) i j)))=some ((List.range m).map λj=>D.int (Qs m (Qp R L) i j))from rfl,Za,Qrj ⋯ ⋯];rfl
   exact Qag (rfl) e rfl
  ·have g:=Qcl hR hL;rw[Qcp hi hi λs hs=>⟨(g s hs).1,(g s hs).2.1⟩,sum_neg _ i λs hs=>(g s hs).2.2.2.2,Qnx];show D.int (0- -(Qct R L i))=_;rw[show(0:Int)- -(Qct R L i)=Qct R L i by omega]
theorem Qrc(a b:Int):deq (.int a) (.int b)=decide (a=b):=by
 show PyData.eqv (.int a) (.int b)=_;unfold PyData.eqv;exact Bool.beq_eq_decide_eq a b
theorem QaY(ha:fa U=some ra)(ea:ra.d= .int a)(hb:fb U=some rb)(eb:rb.d= .int b):dOp gEq fa fb U=some (reT (.bl (decide (a=b)))):=by
 refine Qag ha hb ?_;rw[ea,eb];show some (D.bl (deq (.int a) (.int b)))=_;rw[Qrc]
theorem Qcy(ha:fa U=some ra)(ea:ra.d= .int a)(hb:fb U=some rb)(eb:rb.d= .int b):dOp gNe fa fb U=some (reT (.bl (!decide (a=b)))):=by
 refine Qag ha hb ?_;rw[ea,eb];show some (D.bl (!deq (.int a) (.int b)))=_;rw[Qrc]
theorem Qwy(ha:fa U=some (reT (.bl a)))(hb:fb U=some (reT (.bl b))):dOr fa fb U=some (reT (.bl (a || b))):=by
 unfold dOr;rw[ha];cases a<;>simp[D.tru,hb]
theorem QlI(ha:fa U=some (reT (.bl a)))(hb:fb U=some (reT (.bl b))):Qca fa fb U=some (reT (.bl (a && b))):=by
 unfold Qca;rw[ha];cases a<;>simp[D.tru,hb]
theorem QH(ha:fa U=some r)(e:r.d= .bl b):QB fa U=some b:=by
 unfold QB;rw[ha,Za,e];rfl
theorem QbQ(h:g U=some b):Qcv g U=some (!b):=by unfold Qcv;rw[h];rfl
theorem QbA(ha:g1 U=some a)(hb:g2 U=some b):bOr g1 g2 U=some (a || b):=by
 unfold bOr;rw[ha];cases a<;>simp[hb]
theorem QyE(ha:g1 U=some a)(hb:g2 U=some b):QhX g1 g2 U=some (a && b):=by
 unfold QhX;rw[ha];cases a<;>simp[hb]
theorem Q5(ha:fa U=some ra)(ea:ra.d= .int a)(hb:fb U=some rb)(eb:rb.d= .int b)(h:QdT a b=true):QZ fa fb U=some (reI (a*b)):=by
 unfold QZ;rw[ha,Za,hb,Za,ea,eb];simp[h]
theorem QY(ha:fa U=some ra)(ea:ra.d= .int a)(hb:fb U=some rb)(eb:rb.d= .int b):QE fa fb U=some (reI (a+b)):=by
 unfold QE;rw[ha,Za,hb,Za,ea,eb]
theorem Q7(ha:fa U=some ra)(ea:ra.d= .int a)(hb:fb U=some rb)(eb:rb.d= .int b)(h:0<b):dOp Q9 fa fb U=some (reI (a % b)):=by
 refine Qag ha hb ?_;rw[ea,eb];show(if b≠0 then some (D.int (Qdq a b))else none)=_;rw[if_pos ⋯,Qwn _ _ ⋯]
theorem Qhf(ha:fa U=some ra)(ea:ra.d= .int a)(hb:fb U=some rb)(eb:rb.d= .int b)(h:0<b)(h2:b<2^64):dOp Qa4 fa fb U=some (reI (a / b)):=by
 refine Qag ha hb ?_;rw[ea,eb];have:Qb5 b=true:=by
  unfold Qb5;have h3:b.natAbs<2^8000:=Zp (by omega:b.natAbs<2^64) (Zq (by decide) (by decide));simp only[Zm,decide_eq_true_eq];exact⟨⋯,h3⟩
 show(if Qb5 b=true then some (D.int (Qd3 a b))else none)=_;rw[if_pos this,QkP _ _ ⋯]
theorem Qa3(h:fa U=some r):QaB fa U=some ⟨r.d,false,r.M⟩:=by unfold QaB;rw[h];rfl
theorem Qji{fa fb:DE}{U:En}{ra rb:R}{m:Nat}{f:Mt1}{i:Int}(ha:fa U=some ra)(ea:ra.d=Qb m f)(hb:fb U=some rb)(eb:rb.d= .int i)(h0:0<=i)(h:i<m):Qr fa fb U=some (reI (f i.toNat)):=by
 unfold Qr;rw[ha,Za,hb,Za,ea,eb];simp only[Qb,D.items,Za,Qrj h0 h,ZV];rfl
theorem Qmj{fa fb:DE}{U:En}{ra rb:R}{ns:List Int}{i:Int}{v:Int}(ha:fa U=some ra)(ea:ra.d= .lst (ns.map .int))(hb:fb U=some rb)(eb:rb.d= .int i)(h0:0<=i)(h:ns[i.toNat]? =some v):Qr fa fb U=some (reI v):=by
 have hl:i<ns.length:=by have:=(Zk.mp h).1;omega
 unfold Qr;rw[ha,Za,hb,Za,ea,eb];simp only[D.items,Za];rw[Qjh h0 (by simpa using hl),Zr,h];rfl
theorem QtE{m n:Nat}{f:Mt1}(h:n<=m):cutD ((List.range m).map λi=>D.int (f i)) none (some (n:Int))=(List.range n).map λi=>D.int (f i):=by
 unfold cutD;simp only[Zn,Zu,HT.Qkd,HT.QmO,List.drop_zero,Zci,Zbo h];rw[← Zcq,List.take_range,Zbo h]
theorem Qjm{fa fb:DE}{U:En}{ra rb:R}{m n:Nat}{f:Mt1}(ha:fa U=some ra)(ea:ra.d=Qb m f)(hb:fb U=some rb)(eb:rb.d= .int n)(h:n<=m):QbX fa Qa9 (Qba fb) U=some (reT (Qb n f)):=by
 unfold QbX Qa9 Qba;rw[ha,Za,hb,ea];simp only[Za,eb,Qb,QtE h,Qa0,QtM,if_true]
theorem QhW(h:fs U=some r)(hd:den (r.ds++dfl)=some (d,fr))(hl:r.ds.length+dfl.length=n):Qh n den dfl fs U=some (if fr=true then⟨d,true,[]⟩else HS.R.norm ⟨d,false,r.M⟩):=by
 unfold Qh;rw[h,Za,if_pos hl,hd];rfl
noncomputable def Qp6:DS:=(Qd (QM (Qca (QmX "int" vv0) (QhZ (QmX "bool" vv0)))) Qm)
def Ql2(d:Den):Prop:=∀i:Int,d [.int i]=some (.bl true,true)
theorem QvJ:Ql2 (Qx 1 Qp6):=λi=>rfl
noncomputable def QbF(t k:Int):Int:=(t+17)*(k*k+7*k+11)*69621 % 2147483647
noncomputable def QfF(m t k:Int):Int:=if QbF t k % (k+1)<k then(QbF t k % (k+1)+t) % m else m
noncomputable def Qfj(m t kind:Int)(k:Int):Int×Int×Bool:=((k+t) % m,QfF m t k,decide (kind=2) || (decide (kind=3) && decide (QbF t k / 64 % 2=1)))
noncomputable def Qcm(m:Nat)(t kind:Int):List (Int×Int×Bool):=(List.range m).map λ(k:Nat)=>Qfj m t kind k
def GoodW(m:Nat)(w:Int×Int×Bool):Prop:=Good m (w.1,w.2.1)/\(w.2.2=true->w.1<m)
noncomputable def Qaf(W:List (Int×Int×Bool)):D:= .lst (W.map Qdd)
@[simp] theorem QBJ(W:List (Int×Int×Bool)):(Qaf W).flat=false:=rfl
theorem Qtj{a x n:Int}(h1:0<x)(h2:x<n):(a+x) % n≠a % n:=λh=>by
 have h3:(a+x-a) % n=0:=Zbi.mp h;rw[show a+x-a=x by omega,Zbd ⋯ h2]at h3;omega
theorem Qtt{m:Nat}{t kind:Int}{k:Nat}(hk:k<m):GoodW m (Qfj m t kind k):=by
 have hm:(0:Int)<m:= ⋯
 have h1:=ZA ((k:Int)+t) (by omega:(m:Int)≠0);have h2:=Zz ((k:Int)+t) hm;unfold Qfj QfF;split
 ·rename_i hlt;have h3:=ZA (QbF t k) (by omega:((k:Int)+1)≠0);have h4:=ZA (QbF t k % (k+1)+t) (by omega:(m:Int)≠0);have h5:=Zz (QbF t k % (k+1)+t) hm;refine⟨⟨h1,h4,by dsimp only;omega,by dsimp only;omega,?_⟩,λ_=>by dsimp only;omega⟩;dsimp only;have h6:=Qtj (a:=QbF t k % (k+1)+t) (x:=k-QbF t k % (k+1)) (n:=m) ⋯ ⋯;rw[show QbF t k % (k+1)+t+(k-QbF t k % (k+1))=k+t by omega]at h6;exact h6
 ·exact⟨⟨h1,by dsimp only;omega,by dsimp only;omega,by dsimp only;omega,by dsimp only;omega⟩,λ_=>by dsimp only;omega⟩
noncomputable def Qqv:DS:=(Qd (Qo 3 (Qad Qe)) (Qd (QaV (QaH vv0) (.nm 4) (Qd (Qo 5 (dOp Q9 (QZ (QZ (QE vv1 QzG) (QE (QE (QZ vv4 vv4) (QZ kk7 vv4)) QCj)) QxJ) QfO)) (Qd (Qo 6 (QaB vv0)) (Qd (sIf (QB (dOp gLt (dOp Q9 vv5 (QE vv4 kk1)) vv4)) (Qd (Qo 6 (dOp Q9 (QE (dOp Q9 vv5 (QE vv4 kk1)) vv1) vv0)) Qm) Qm) (Qd (QgD 3 Qap (QaO (Qa (dOp Q9 (QE vv4 vv1) vv0) (Qa vv6 (Qa (dOr (dOp gEq vv2 kk2) (Qca (dOp gEq vv2 kk3) (dOp gEq (dOp Q9 (dOp Qa4 vv5 QCq) kk2) kk1))) Qe))))) Qm))))) (Qd (QM vv3) Qm)))
theorem QqJ(hx:U[x]? =some (slT (.lst xs)))(ha:fa U=some r)(hf:r.d.flat=true)(hl:xs.length<16777216)(q:Q (.nx (U.set x (slT (.lst (xs++[r.d])))))):Run (QgD x Qap fa) U Q:=by
 refine⟨_,?_,q⟩;have hn:r.norm=⟨r.d,true,[]⟩:=by unfold HS.R.norm;rw[if_pos hf]
 unfold QgD;rw[hx];simp only[Qap,Za,ha,Qbh,Qoj,hn,Qbk,kill,Qjz];simp[hl]
def QoO(d:Den):Prop:=∀(m:Nat) (t kind:Int),0<m->m<=1000->0<=t->t<2000000->d [.int m,.int t,.int kind]=some (Qaf (Qcm m t kind),true)
theorem QwU:QoO (Qx 7 Qqv):=λm t kind h0 hm ht ht2=>by
 refine QR ?_;refine rsa (d:= .lst []) rfl ?_;refine run_seq (Qay (List.range m) (λi U=>∃j4 j5 j6,U=[slI m,slI t,slI kind,slT (.lst (((List.range i).map λ(k:Nat)=>Qfj m t kind k).map Qdd)),j4,j5,j6]) (QaR (n:=m) (r:=reI m) rfl rfl ⋯) rfl ⟨none,none,none,rfl⟩ ?_ ?_)
 ·rintro i k U hi ⟨j4,j5,j6,rfl⟩;have hk:i<m/\i=k:=by
   obtain⟨h1,h2⟩:=Zk.mp hi;simp at h1 h2;exact⟨h1,h2⟩
  obtain⟨hk,rfl⟩:=hk;refine⟨_,rfl,?_⟩;have n1:(t+17).natAbs<2^64:= ⋯
  have n2:(69621:Int).natAbs<2^64:=by decide
  refine run_seq (Qz (r:=reI (QbF t i)) ?_ ?_)
  ·exact Q7 (Q5 (Q5 (QY (a:=t) (b:=17) rfl rfl rfl rfl) rfl (QY (QY (Q5 (a:=(i:Int)) (b:=i) rfl rfl rfl rfl (QbP ⋯)) rfl (Q5 (a:=7) (b:=(i:Int)) rfl rfl rfl rfl (QbP (by decide))) rfl) rfl (Qbo (.int 11) _) rfl) rfl (QbP n1)) rfl (Qbo (.int 69621) _) rfl (Qcd n2)) rfl (Qbo (.int 2147483647) _) rfl (by decide)
  ·rw[Qae];refine run_seq (Qz (r:=reF (.int m)) rfl ?_);rw[Qdn rfl];refine run_seq (f:=sIf _ _ _) (Run.mono (Q:=Nx λU=>U=[slI m,slI t,slI kind,slT (.lst (((List.range i).map λ(k:Nat)=>Qfj m t kind k).map Qdd)),slI i,slI (QbF t i),slI (QfF m t i)]) ?_ ?_)
   ·have e1:∀(U:En),U=[slI m,slI t,slI kind,slT (.lst (((List.range i).map λ(k:Nat)=>Qfj m t kind k).map Qdd)),slI i,slI (QbF t i),slI m]->dOp Q9 (Qg 5) (QE (Qg 4) (dC (.int 1))) U=some (reI (QbF t i % (i+1))):=by
     rintro U rfl;exact Q7 (a:=QbF t i) (b:=(i:Int)+1) rfl rfl (QY (a:=(i:Int)) (b:=1) rfl rfl rfl rfl) rfl ⋯
    refine QU (b:=decide (QbF t i % (i+1)<i)) (QH (Qag (e1 _ rfl) rfl rfl) rfl) (λh=>?_) (λh=>?_)
    ·have h:=of_decide_eq_true h;refine run_seq (Qz (Q7 (a:=QbF t i % (i+1)+t) (b:=m) (QY (a:=QbF t i % (i+1)) (b:=t) (e1 _ rfl) rfl rfl rfl) rfl rfl rfl ⋯) (Qt ?_));rw[Qae];unfold QfF;rw[if_pos h];rfl
    ·have h:=of_decide_eq_false h;refine Qt ?_;unfold QfF;rw[if_neg h];rfl
   ·intro o ho;cases o with
    | nx U=>
     subst ho;refine run_seq (QqJ (r:=⟨Qdd (Qfj m t kind i),true,[]⟩) rfl ?_ rfl (by simp;omega) ?_)
     ·have e:=Qwy (QaY (a:=kind) (b:=2) (fa:=Qg 2) (fb:=dC (.int 2)) (U:=[slI m,slI t,slI kind,slT (.lst (((List.range i).map λ(k:Nat)=>Qfj m t kind k).map Qdd)),slI i,slI (QbF t i),slI (QfF m t i)]) rfl rfl rfl rfl)
       (QlI (QaY (fa:=Qg 2) (fb:=dC (.int 3)) rfl rfl rfl rfl) (QaY (fb:=dC (.int 1)) (Q7 (fb:=dC (.int 2)) (Qhf (fa:=Qg 5) (fb:=dC (.int 64)) rfl rfl rfl rfl (by decide) (by decide)) rfl rfl rfl (by decide)) rfl rfl rfl))
      have e2:dOp Q9 (QE (Qg 4) (Qg 1)) (Qg 0) [slI m,slI t,slI kind,slT (.lst (((List.range i).map λ(k:Nat)=>Qfj m t kind k).map Qdd)),slI i,slI (QbF t i),slI (QfF m t i)]=some (reI ((i+t) % m)):=
       Q7 (QY rfl rfl rfl rfl) rfl rfl rfl ⋯
      unfold QaO;rw[Qq e2 (Qq rfl (Qq e (QL _)))];rfl
     ·refine Qt ⟨slI i,slI (QbF t i),slI (QfF m t i),?_⟩;show [slT (D.int m),slT (D.int t),slT (D.int kind),slT (D.lst (((List.range i).map λ(k:Nat)=>Qfj m t kind k).map Qdd++[Qdd (Qfj m t kind i)])),_,_,_]=_;rw[Zbp,ZaC,ZaC];rfl
    | _=>exact False.elim ho
 ·rintro U ⟨j4,j5,j6,rfl⟩;rw[Zu];exact Qy rfl ⟨rfl,rfl⟩
noncomputable def QjR:DS:=(Qd (Qo 2 (QZ (Qad (Qa kk0 Qe)) (QE vv0 kk1))) (Qd (QaV (QX vv1) (.tp [3,4,5]) (Qd (QbL 2 Qap vv3 (QE (Qr vv2 vv3) kk1)) (Qd (sIf (Qcv (QB vv5)) (Qd (QbL 2 Qap vv4 (QE (Qr vv2 vv4) kk1)) Qm) Qm) Qm))) (Qd (Qo 6 kk1) (Qd (QaV (QX (QbX vv2 Qa9 (Qba vv0))) (.nm 7) (Qd (Qo 6 (QZ vv6 vv7)) Qm)) (Qd (QM (dOp gLe vv6 QA1)) Qm)))))
theorem QqF{x y m:Nat}{f:Mt1}{U:En}{i:Int}{b:Bool}{Q:Out->Prop}(hx:U[x]? =some (slT (Qb m f)))(hy:U[y]? =some (some (.int i,b)))(h0:0<=i)(h:i<m)
  (q:Q (.nx (U.set x (slT (Qb m (up f i.toNat (f i.toNat+1))))))):Run (QbL x Qap (Qg y) (QE (Qr (Qg x) (Qg y)) (dC (.int 1)))) U Q:=by
 have e1:Qg y U=some (reI i):=Qpu hy;have e2:=QbD hx;exact QkD hx e1 rfl (QY (Qji e2 (by simp) e1 rfl h0 h) rfl (Qbo (.int 1) _) rfl) rfl h0 h q
def Qpc(d:Den):Prop:=∀(m:Nat) (W:List (Int×Int×Bool)),m<=1000->W.length<=100000->(∀w∈W,GoodW m w)->∃b,d [.int m,Qaf W]=some (.bl b,true)
theorem Run.nx(h:Run f U (Nx Q))(m:∀U,Q U->Q' U):Run f U (Nx Q'):=h.mono λo ho=>by
 cases o with
 | nx U=>exact m U ho
 | _=>exact ho.elim
theorem Qbl(h:Run f U (Nx P))(k:∀U',P U'->Run g U' Q):Run (Qd f g) U Q:=run_seq (h.nx k)
theorem Qst{m:Nat}{W:List (Int×Int×Bool)}{r1 r2:Option (D×Bool)}(hg:∀w∈W,GoodW m w):
  Run (QaV (QX (Qg 1)) (.tp [3,4,5]) (Qd (QbL 2 Qap (Qg 3) (QE (Qr (Qg 2) (Qg 3)) (dC (.int 1)))) (Qd (sIf (Qcv (QB (Qg 5))) (Qd (QbL 2 Qap (Qg 4) (QE (Qr (Qg 2) (Qg 4)) (dC (.int 1)))) Qm) Qm) Qm)))
   [slI m,slF (Qaf W),slT (Qb (m+1) λ_=>0),none,none,none,r1,r2] (Nx λU=>∃f j3 j4 j5,(∀k,0<=f k/\f k<=2*(W.length:Int))/\U=[slI m,slF (Qaf W),slT (Qb (m+1) f),j3,j4,j5,r1,r2]):=by
 refine Qay W (λi U=>∃f j3 j4 j5,(∀k,0<=f k/\f k<=2*(i:Int))/\U=[slI m,slF (Qaf W),slT (Qb (m+1) f),j3,j4,j5,r1,r2]) rfl rfl ⟨λ_=>0,none,none,none,λk=>⟨by simp,by simp⟩,rfl⟩ ?_ ?_
 ·rintro i w U hi ⟨f,j3,j4,j5,hf,rfl⟩;obtain⟨⟨h1,h2,h3,h4,h5⟩,h6⟩:=hg w (Zax hi);refine⟨_,rfl,?_⟩;refine run_seq (QqF rfl rfl h1 ⋯ ?_);have hf1:∀k,0<=up f w.1.toNat (f w.1.toNat+1) k/\up f w.1.toNat (f w.1.toNat+1) k<=2*(i:Int)+1:=λk=>by
   have a:=hf k;have b:=hf w.1.toNat
   unfold up;split<;>omega
  refine run_seq (QU (QbQ (QH rfl rfl)) (λ_=>run_seq (QqF rfl rfl h2 ⋯ (Qt (Qt ⟨_,_,_,_,λk=>?_,rfl⟩)))) (λ_=>Qt (Qt ⟨_,_,_,_,λk=>?_,rfl⟩)))
  ·have a:=hf1 k;have b:=hf1 w.2.1.toNat
   unfold up at a b ⊢;split<;>omega
  ·have a:=hf1 k;omega
 ·rintro U ⟨f,j3,j4,j5,hf,rfl⟩;exact⟨f,j3,j4,j5,hf,rfl⟩
theorem QsK{n:Nat}{f:Mt1}{a b c d e g:Option (D×Bool)}{fi:DI}(hi:fi [a,b,c,d,e,g,slI 1,none]=some ⟨(List.range n).map λ(k:Nat)=> .int (f k),[]⟩)(hf:∀k,0<=f k/\f k<2^64):
  Run (QaV fi (.nm 7) (Qd (Qo 6 (QZ (Qg 6) (Qg 7))) Qm)) [a,b,c,d,e,g,slI 1,none] (Nx λU=>∃(z:Int) (j:Option (D×Bool)),U=[a,b,c,d,e,g,slI z,j]):=by
 refine Qay (List.range n) (λi U=>∃(z:Int) (j:Option (D×Bool)),U=[a,b,c,d,e,g,slI z,j]) hi rfl ⟨1,none,rfl⟩ ?_ ?_
 ·rintro i k U _ ⟨z,j,rfl⟩;have:=hf k;exact⟨_,rfl,run_seq (Qz (Q5 rfl rfl rfl rfl (Qcd ⋯)) (Qt ⟨z*f k,_,rfl⟩))⟩
 ·rintro U ⟨z,j,rfl⟩;exact⟨z,j,rfl⟩
theorem Qxu:Qpc (Qx 8 QjR):=λm W hm hl hg=>by
 have key:Run QjR (Qau 8 [.int m,Qaf W]) (Rt λd fr=>∃b,d= .bl b/\fr=true):=by
  refine rsa (QeY (n:=m+1) (QY rfl rfl rfl rfl) rfl ⋯) ?_;refine Qbl (Qst hg) ?_;rintro U ⟨f,j3,j4,j5,hf,rfl⟩;refine rsa rfl ?_;refine Qbl (QsK (QW (Qjm rfl rfl rfl rfl ⋯) rfl) λk=>⟨(hf k).1,by have:=(hf k).2;omega⟩) ?_;rintro U ⟨z,j,rfl⟩;exact Qy (Qag rfl rfl rfl) ⟨_,rfl,rfl⟩
 obtain⟨o,h1,h2⟩:=key;cases o with
 | rt d fr=>
  obtain⟨b,rfl,rfl⟩:=h2;exact⟨b,by unfold Qx;rw[h1];rfl⟩
 | _=>exact h2.elim
noncomputable def Qj0(Qbu:Den):DS:=(Qd (QaV (QX vv1) (.nm 4) (Qd (Qo 5 (dOp Q9 (QZ vv4 QjA) QfO)) (Qd (Qo 6 (dOp Q9 vv5 (QE vv2 kk1))) (Qd (Qo 7 (dOp Q9 (QE (QE vv6 kk1) (dOp Q9 (dOp Qa4 vv5 kk9) vv2)) (QE vv2 kk1))) (Qd (Qo 8 (QaO (Qa vv6 (Qa vv7 (Qa (Qca (dOp gLt vv6 vv2) (dOr (dOp gEq vv3 kk2) (Qca (dOp gEq vv3 kk3) (dOp gEq (dOp Q9 (dOp Qa4 vv5 QCR) kk3) kk1)))) Qe))))) (Qd (sIf (bOr (QhX (QB (dOp gNe vv3 kk2)) (QB (dOp gNe vv3 kk3))) (QB (Qh 2 Qbu [] (Qa vv2 (Qa (QE vv0 (Qad (Qa vv8 Qe))) Qe))))) (Qd (Qo 0 (QE vv0 (Qad (Qa vv8 Qe)))) Qm) Qm) Qm)))))) (Qd (QM vv0) Qm))
noncomputable def Qcu(c:Int):Int:=c*48271 % 2147483647
noncomputable def mStart(m c:Int):Int:=Qcu c % (m+1)
noncomputable def QkS(m c:Int):Int:=(mStart m c+1+Qcu c / 9 % m) % (m+1)
noncomputable def Qfa(m kind c:Int):Int×Int×Bool:=(mStart m c,QkS m c,decide (mStart m c<m) && (decide (kind=2) || (decide (kind=3) && decide (Qcu c / 72 % 3=1))))
theorem Qtb{m:Nat}(hm:0<m)(kind c:Int):GoodW m (Qfa m kind c):=by
 have h1:=ZA (Qcu c) (by omega:(m:Int)+1≠0);have h2:=Zz (Qcu c) (by omega:(0:Int)<m+1);have h3:=ZA (Qcu c / 9) (by omega:(m:Int)≠0);have h4:=Zz (Qcu c / 9) (by omega:(0:Int)<m);have h5:=ZA (mStart m c+1+Qcu c / 9 % m) (by omega:(m:Int)+1≠0);have h6:=Zz (mStart m c+1+Qcu c / 9 % m) (by omega:(0:Int)<m+1);have h7:=Qtj (a:=mStart m c) (x:=1+Qcu c / 9 % m) (n:=(m:Int)+1) ⋯ ⋯;rw[← Int.add_assoc,show mStart m c % ((m:Int)+1)=mStart m c from Zbd h1 h2]at h7;refine⟨⟨h1,h5,?_,?_,λz=>h7 z.symm⟩,λh=>?_⟩
 ·show mStart m c<=m;unfold mStart;omega
 ·show QkS m c<=m;unfold QkS;omega
 ·have:(Qfa m kind c).2.2=(decide (mStart m c<m) && (decide (kind=2) || (decide (kind=3) && decide (Qcu c / 72 % 3=1)))):=rfl;rw[this,Zm,decide_eq_true_eq]at h;exact h.1
theorem Qyt{fa fb:DE}{U:En}{ra rb:R}{A B:List (Int×Int×Bool)}(ha:fa U=some ra)(ea:ra.d=Qaf A)(hb:fb U=some rb)(eb:rb.d=Qaf B)(hl:A.length+B.length<=16777216):QE fa fb U=some (reT (Qaf (A++B))):=by
 unfold QE;rw[ha,Za,hb,Za,ea,eb];simp only[Qaf,Zn,Qjz,if_pos hl,Qa0];simp
theorem QvK{m:Nat}{kind c:Int}{s0 s1 s5 s6 s7 s8:Option (D×Bool)}{g:DS}{Q:Out->Prop}(hm:0<m)
  (k:Run g [s0,s1,slI m,slI kind,slI c,slI (Qcu c),slI (mStart m c),slI (QkS m c),some (Qdd (Qfa m kind c),true)] Q):
  Run (Qd (Qo 5 (dOp Q9 (QZ (Qg 4) (dC (.int 48271))) (dC (.int 2147483647)))) (Qd (Qo 6 (dOp Q9 (Qg 5) (QE (Qg 2) (dC (.int 1))))) (Qd (Qo 7 (dOp Q9 (QE (QE (Qg 6) (dC (.int 1))) (dOp Q9 (dOp Qa4 (Qg 5) (dC (.int 9))) (Qg 2))) (QE (Qg 2) (dC (.int 1))))) (Qd (Qo 8 (QaO (Qa (Qg 6) (Qa (Qg 7) (Qa (Qca (dOp gLt (Qg 6) (Qg 2)) (dOr (dOp gEq (Qg 3) (dC (.int 2))) (Qca (dOp gEq (Qg 3) (dC (.int 3))) (dOp gEq (dOp Q9 (dOp Qa4 (Qg 5) (dC (.int 72))) (dC (.int 3))) (dC (.int 1)))))) Qe))))) g))))
   [s0,s1,slI m,slI kind,slI c,s5,s6,s7,s8] Q:=by
 refine rsa (Q7 (b:=2147483647) (Q5 (a:=c) (b:=48271) rfl rfl rfl rfl (Qcd (by decide))) rfl rfl rfl (by decide)) ?_;refine rsa (Q7 (a:=Qcu c) (b:=(m:Int)+1) rfl rfl (QY (a:=(m:Int)) (b:=1) rfl rfl rfl rfl) rfl ⋯) ?_;refine rsa (Q7 (a:=mStart m c+1+Qcu c / 9 % m) (b:=(m:Int)+1) (QY (QY (a:=mStart m c) (b:=1) rfl rfl rfl rfl) rfl (Q7 (a:=Qcu c / 9) (b:=m) (Qhf (a:=Qcu c) (b:=9) rfl rfl rfl rfl (by decide) (by decide)) rfl rfl rfl ⋯) rfl) rfl (QY (a:=(m:Int)) (b:=1) rfl rfl rfl rfl) rfl ⋯) ?_;refine run_seq (Qz (r:=⟨Qdd (Qfa m kind c),true,[]⟩) ?_ ?_)
 ·have e:=QlI (U:=[s0,s1,slI m,slI kind,slI c,slI (Qcu c),slI (mStart m c),slI (QkS m c),s8])
   (Qag (g:=gLt) (fa:=Qg 6) (fb:=Qg 2) rfl rfl rfl)
   (Qwy (QaY (fa:=Qg 3) (fb:=dC (.int 2)) rfl rfl rfl rfl)
    (QlI (QaY (fa:=Qg 3) (fb:=dC (.int 3)) rfl rfl rfl rfl) (QaY (fb:=dC (.int 1)) (Q7 (fb:=dC (.int 3)) (Qhf (fa:=Qg 5) (fb:=dC (.int 72)) rfl rfl rfl rfl (by decide) (by decide)) rfl rfl rfl (by decide)) rfl rfl rfl)))
  have t:QaO (Qa (Qg 6) (Qa (Qg 7) (Qa (Qca (dOp gLt (Qg 6) (Qg 2)) (dOr (dOp gEq (Qg 3) (dC (.int 2))) (Qca (dOp gEq (Qg 3) (dC (.int 3))) (dOp gEq (dOp Q9 (dOp Qa4 (Qg 5) (dC (.int 72))) (dC (.int 3))) (dC (.int 1)))))) Qe))) [s0,s1,slI m,slI kind,slI c,slI (Qcu c),slI (mStart m c),slI (QkS m c),s8]=some ⟨Qdd (Qfa m kind c),true,[]⟩:=by
   unfold QaO;rw[Qq rfl (Qq rfl (Qq e (QL _)))];rfl
  exact t
 ·rw[Qae];exact k
def QpY(d:Den):Prop:=∀(m:Nat) (W:List (Int×Int×Bool)) (cs:List Int) (kind:Int),0<m->m<=1000->W.length+cs.length<=10000->(∀w∈W,GoodW m w)→
 ∃W' fr,d [Qaf W,.lst (cs.map .int),.int m,.int kind]=some (Qaf (W++W'),fr)/\W'.length<=cs.length/\∀w∈W',GoodW m w
theorem Qxk{Qbu:Den}(hf:Qpc Qbu):QpY (Qx 9 (Qj0 Qbu)):=λm W cs kind h0 hm hl hg=>by
 have key:Run (Qj0 Qbu) (Qau 9 [Qaf W,.lst (cs.map .int),.int m,.int kind]) (Rt λd fr=>∃W',d=Qaf (W++W')/\W'.length<=cs.length/\∀w∈W',GoodW m w):=by
  refine run_seq (Qay cs (λi U=>∃W' b j4 j5 j6 j7 j8,W'.length<=i/\(∀w∈W',GoodW m w)/\U=[some (Qaf (W++W'),b),slF (.lst (cs.map .int)),slI m,slI kind,j4,j5,j6,j7,j8]) rfl rfl ⟨[],false,none,none,none,none,none,Zaa _,λw hw=>absurd hw (by simp),by rw[ZaQ];rfl⟩ ?_ ?_)
  ·rintro i c U hi ⟨W',b,j4,j5,j6,j7,j8,hw1,hw2,rfl⟩;have hil:i<cs.length:=(Zk.mp hi).1;have gw:=Qtb h0 kind c;refine⟨_,rfl,QvK h0 ?_⟩
   have eadd:QE (Qg 0) (Qad (Qa (Qg 8) Qe)) [some (Qaf (W++W'),b),slF (.lst (cs.map .int)),slI m,slI kind,slI c,slI (Qcu c),slI (mStart m c),slI (QkS m c),some (Qdd (Qfa m kind c),true)]=some (reT (Qaf (W++W'++[Qfa m kind c]))):=
    Qyt (QbD rfl) (by cases b<;>rfl) rfl rfl (by simp;omega)
   have gg:∀w∈W++W'++[Qfa m kind c],GoodW m w:=λw hw=>by
    rcases ZG.mp hw with h | h
    ·rcases ZG.mp h with h | h
     ·exact hg w h
     ·exact hw2 w h
    ·have:w=Qfa m kind c:=by simpa using h
     rw[this];exact gw
   obtain⟨bf,hbf⟩:=hf m (W++W'++[Qfa m kind c]) hm (by simp;omega) gg;refine run_seq (QU (QbA (QyE (QH (Qcy rfl rfl rfl rfl) rfl) (QH (Qcy rfl rfl rfl rfl) rfl)) (QH (Ql (Qq rfl (Qq eadd (QL _))) hbf rfl) rfl)) (λ_=>run_seq (Qz eadd (Qt ?_))) (λ_=>Qt (Qt ⟨W',b,_,_,_,_,_,⋯,hw2,rfl⟩)));rw[Qae];refine Qt ⟨W'++[Qfa m kind c],true,_,_,_,_,_,by simp;omega,λw hw=>?_,by rw[Zbc];rfl⟩;rcases ZG.mp hw with h | h
   ·exact hw2 w h
   ·have:w=Qfa m kind c:=by simpa using h
    rw[this];exact gw
  ·rintro U ⟨W',b,j4,j5,j6,j7,j8,hw1,hw2,rfl⟩;exact Qy (QbD rfl) ⟨W',by cases b<;>rfl,hw1,hw2⟩
 obtain⟨o,h1,h2⟩:=key;cases o with
 | rt d fr=>
  obtain⟨W',rfl,h3,h4⟩:=h2;exact⟨W',fr,by unfold Qx;rw[h1];rfl,h3,h4⟩
 | _=>exact h2.elim
noncomputable def Qe2(w:Int×Int×Bool):Int×Int:=(if w.2.1<w.1 then w.2.1 else w.1,if w.2.1>w.1 then w.2.1 else w.1)
noncomputable def Qty(w:Int×Int×Bool):Int×Int:=(w.1,w.2.1)
noncomputable def Qc2(W:List (Int×Int×Bool)):List (Int×Int):=(W.filter λw=> !w.2.2).map Qe2
noncomputable def QdI(W:List (Int×Int×Bool)):List (Int×Int):=(W.filter λw=>w.2.2).map Qty
theorem QlS{m:Nat}{W:List (Int×Int×Bool)}(h:∀w∈W,GoodW m w):∀s∈Qc2 W,Good m s/\s.1<s.2:=λs hs=>by
 obtain⟨w,hw,rfl⟩:=ZL.mp hs;obtain⟨⟨h1,h2,h3,h4,h5⟩,_⟩:=h w (ZaP.mp hw).1;simp only at h1 h2 h3 h4 h5;unfold Qe2 Good;simp only;split<;>split<;>omega
theorem QlN{m:Nat}{W:List (Int×Int×Bool)}(h:∀w∈W,GoodW m w):∀s∈QdI W,Good m s/\s.1<m:=λs hs=>by
 obtain⟨w,hw,rfl⟩:=ZL.mp hs;obtain⟨h1,h2⟩:=h w (ZaP.mp hw).1;exact⟨h1,h2 (by simpa using(ZaP.mp hw).2)⟩
theorem QtZ(W:List (Int×Int×Bool)):(Qc2 W).length<=W.length:=by unfold Qc2;rw[Zn];exact List.length_filter_le _ _
theorem Qui(W:List (Int×Int×Bool)):(QdI W).length<=W.length:=by unfold QdI;rw[Zn];exact List.length_filter_le _ _
theorem QuG{fa:DE}{U:En}{r:R}{W:List (Int×Int×Bool)}(h:fa U=some r)(e:r.d=Qaf W):QF (QX fa) (.tp [1,2,3]) [none,none,none,none] (Qcv (QB (Qg 3))) (QaO (Qa (dBf QlL (Qa (Qg 1) (Qa (Qg 2) Qe))) (Qa (dBf Qll (Qa (Qg 1) (Qa (Qg 2) Qe))) Qe))) U=some (reT (Q8 (Qc2 W))):=by
 rw[QcC W (QW h e) rfl λw _=>⟨[none,slI w.1,slI w.2.1,slT (.bl w.2.2)],rfl,QbQ (QH rfl rfl),λ_=>⟨⟨pairD (Qe2 w),true,[]⟩,rfl,rfl,rfl⟩⟩];unfold Q8 Qc2;rw[Zam];rfl
theorem Qur{fa:DE}{U:En}{r:R}{W:List (Int×Int×Bool)}(h:fa U=some r)(e:r.d=Qaf W):QF (QX fa) (.tp [1,2,3]) [none,none,none,none] (QB (Qg 3)) (QaO (Qa (Qg 1) (Qa (Qg 2) Qe))) U=some (reT (Q8 (QdI W))):=by
 rw[QcC W (QW h e) rfl λw _=>⟨[none,slI w.1,slI w.2.1,slT (.bl w.2.2)],rfl,QH rfl rfl,λ_=>⟨⟨pairD (Qty w),true,[]⟩,rfl,rfl,rfl⟩⟩];unfold Q8 QdI;rw[Zam];rfl
theorem Qpa{m:Nat}{t kind:Int}:∀w∈Qcm m t kind,GoodW m w:=λw hw=>by
 obtain⟨k,hk,rfl⟩:=ZL.mp hw;exact Qtt (Zf.mp hk)
theorem QoI(m:Nat)(t kind:Int):(Qcm m t kind).length=m:=by simp[Qcm]
theorem Qcz:up f i v k=if k=i then v else f k:=rfl
theorem QdF{fa:DE}{U:En}{r:R}{m:Int}{R L:Lpp}(h:fa U=some r)(e:r.d=QI m R L):
  Qr fa (dC (.int 0)) U=some (reI m)/\Qr fa (dC (.int 1)) U=some ⟨Q8 R,r.fr,r.M⟩/\Qr fa (dC (.int 2)) U=some ⟨Q8 L,r.fr,r.M⟩:=by
 unfold Qr;rw[h];simp only[Za,e,Qbo];exact⟨rfl,rfl,rfl⟩
theorem Qcx(h:fa U=some r)(e:r.d= .lst xs):dBf Q2 (Qa fa Qe) U=some (reI xs.length):=by
 unfold dBf;rw[Qq h (QL _),Za];simp[e,Q2]
theorem QnH(n:Nat)(ps:Lpp):(Q8 ps).sim (n+2)=true:=by
 unfold Q8;simp only[D.sim,List.all_map,ZaF];intro p _;cases n<;>rfl
theorem QpB(ha:fa U=some ra)(ea:ra.d=d)(hb:fb U=some rb)(eb:rb.d=d)(hs:d.sim 8=true):dOp gNe fa fb U=some (reT (.bl false)):=by
 refine Qag ha hb ?_;rw[ea,eb];unfold gNe;rw[hs,QpO hs];rfl
theorem Qzd(ha:fa U=some ra)(hb:fb U=some rb)(h1:ra.d.sim 8=true)(h2:rb.d.sim 8=true):dOp gEq fa fb U=some (reT (.bl (deq ra.d rb.d))):=by
 refine Qag ha hb ?_;unfold gEq;rw[h1,h2];rfl
def QoW(d:Den):Prop:=∀(m:Nat) (R L:Lpp),m<=1000->R.length+R.length+L.length<=1000000->(∀s∈R,Good m s)->(∀s∈L,Good m s)->d [QI m R L]=some (Qb m (Qct R L),true)
theorem Qyz(h:Qf0 d):QoW (Qx 1 (Qj7 d)):=λm R L h1 h2 h3 h4=>QvO h h1 h2 h3 h4
theorem QtX(h:0<b)(h2:b<2^200):Qb5 b=true:=by
 unfold Qb5;have h3:b.natAbs<2^8000:=Zp (by omega:b.natAbs<2^200) (Zq (by decide) (by decide));simp only[Zm,decide_eq_true_eq];exact⟨⋯,h3⟩
def Esc(m:Nat)(W:List (Int×Int×Bool)):Prop:=∀A:Nat->Prop,(∃p,p<m/\A p)->∃w∈W,w.1<m/\A w.1.toNat/\(w.2.1=m∨¬A w.2.1.toNat)
theorem Esc.mono{m:Nat}{W W':List (Int×Int×Bool)}(h:Esc m W)(s:∀w∈W,w∈W'):Esc m W':=λA hA=>let ⟨w,hw,r⟩:=h A hA;⟨w,s w hw,r⟩
noncomputable def Qn(m:Nat)(g:Mt1):Int:=((List.range m).map g).sum
theorem Qai(m:Nat)(g:Mt1):Qn (m+1) g=Qn m g+g m:=by
 unfold Qn;rw[Zbp,ZaC,ZbQ];simp
theorem Qj(h:∀i,i<m->f i=g i):Qn m f=Qn m g:=by
 unfold Qn;rw[ZD λi hi=>h i (Zf.mp hi)]
theorem Qam(m:Nat)(f g:Mt1):Qn m (λi=>f i+g i)=Qn m f+Qn m g:=by
 induction m with
 | zero=>rfl
 | succ m ih=>rw[Qai,Qai,Qai,ih];omega
theorem QcO(m:Nat)(f:Mt1):Qn m (λi=> -f i)= -Qn m f:=by
 induction m with
 | zero=>rfl
 | succ m ih=>rw[Qai,Qai,ih];omega
theorem Qaw(m:Nat):Qn m (λ_=>0)=0:=by
 induction m with
 | zero=>rfl
 | succ m ih=>rw[Qai,ih];rfl
theorem QT(m:Nat)(c:Int)(f:Mt1):Qn m (λi=>c*f i)=c*Qn m f:=by
 induction m with
 | zero=>simp[Qn]
 | succ m ih=>rw[Qai,Qai,ih,Zay]
theorem Qcj(m n:Nat)(f:Mt2):Qn m (λi=>Qn n λj=>f i j)=Qn n λj=>Qn m λi=>f i j:=by
 induction m with
 | zero=>show 0=Qn n λj=>0;rw[Qaw]
 | succ m ih=>
  rw[Qai,ih,← Qam];exact Qj λj _=>by rw[Qai]
theorem QaP(hp:p<m)(v:Int)(f:Mt1):Qn m (λi=>(if i=p then v else 0)*f i)=v*f p:=by
 induction m with
 | zero=>omega
 | succ m ih=>
  rw[Qai];by_cases h:p=m
  ·subst h;rw[if_pos rfl,Qj (g:=λ_=>0) λi hi=>by rw[if_neg ⋯];simp,Qaw];simp
  ·rw[ih ⋯,if_neg (λz=>h z.symm)];simp
noncomputable def Qi(m:Nat)(T:Mt2)(f c:Mt1):Nat->Int:=λj=>f j+Qn m λi=>c i*T i j
theorem Qc3(h:∀i,i<m->f i=g i):Qb m f=Qb m g:=by
 unfold Qb;congr 1;refine ZD λi hi=>?_;rw[h i (Zf.mp hi)]
noncomputable def QjX:DS:=(Qd (QaV (QX vv1) (.nm 2) (Qd (sIf (QB (dOp gNe (dBf Q2 (Qa vv2 Qe)) (Qr vv0 kk0))) (Qd Qw Qm) Qm) Qm)) Qm)
def Qhx(d:Den):Prop:=∀(m:Nat) (R L:Lpp) (fs:List (Nat->Int)),d [QI m R L,.lst (fs.map λf=>Qb m f)]=some (.non,true)
theorem QxA:Qhx (Qx 3 QjX):=λm R L fs=>by
 have key:Run QjX (Qau 3 [QI m R L,.lst (fs.map λf=>Qb m f)]) (Nx λ_=>True):=by
  refine run_seq (Qay fs (λ_ U=>∃j2,U=[slF (QI m R L),slF (.lst (fs.map λf=>Qb m f)),j2]) rfl rfl ⟨none,rfl⟩ ?_ ?_)
  ·rintro i f U _ ⟨j2,rfl⟩;refine⟨_,rfl,?_⟩;refine run_seq (QU (b:=false) (QH (Qcy (Qcx rfl rfl) rfl (QdF rfl rfl).1 rfl) (by simp)) (λh=>by cases h) (λ_=>Qt (Qt ⟨_,rfl⟩)))
  ·rintro U ⟨j2,rfl⟩;exact Qt trivial
 obtain⟨o,h1,h2⟩:=key;unfold Qx;rw[h1];cases o with
 | nx U=>rfl
 | _=>exact h2.elim
noncomputable def Qxd(QaW:Den)(QaE:Den):DS:=(Qd (Qbs (Qh 2 QaW [] (Qa vv0 (Qa (Qad (Qa vv1 (Qa vv2 Qe))) Qe)))) (Qd (Qo 3 (dList (Qa vv1 Qe))) (Qd (QaV (Qaz (Qh 1 QaE [] (Qa vv0 Qe)) vv2) (.tp [4,5]) (Qd (Qo 3 (QF (Qaz vv3 vv4) (.tp [1,2]) [none,none,none,some 5] QN (QE vv1 (QZ vv3 vv2)))) Qm)) (Qd (QM vv3) Qm))))
theorem QeC(h:fa U=some r)(q:Q (.nx U)):Run (Qbs fa) U Q:=⟨_,by simp[Qbs,h],q⟩
theorem Qrp(f g:Nat->D):Qja ((List.range m).map f) ((List.range m).map g)=(List.range m).map λi=> .tup [f i,g i]:=by
 generalize List.range m=l
 induction l with
 | nil=>rfl
 | cons n ns ih=>unfold Qja at ih ⊢;simp only[ZJ,List.zip_cons_cons,ih]
theorem Qf1(h:fs U=some rs)(e:rs.ds=[Qb m f]):dList fs U=some (reT (Qb m f)):=by
 unfold dList;rw[h,Za,e];simp[Qb,Qa0]
theorem QaG(ha:fa U=some ra)(ea:ra.d= .lst ((List.range m).map f))(hb:fb U=some rb)(eb:rb.d= .lst ((List.range m).map g)):Qaz fa fb U=some ⟨(List.range m).map λi=> .tup [f i,g i],ra.M++rb.M⟩:=by
 unfold Qaz;rw[ha,Za,hb,Za,ea,eb];simp only[Qrp]
theorem Qxa(i j:Nat)(s:Int×Int):(hit i j s).natAbs<=1:=by unfold hit;split<;>split<;>decide
theorem QeJ(i j:Nat):∀S:List (Int×Int),((S.map (hit i j)).sum).natAbs<=S.length
 | []=>by simp
 | s::S=>by
  have:=QeJ i j S;have:=Qxa i j s;rw[ZJ,ZaH,ZR];omega
def Qm1(d:Den):Prop:=∀(m:Nat) (R L:Lpp) (f c:Mt1),m<=1000->R.length+R.length+L.length<=1000000->(∀s∈R,Good m s)->(∀s∈L,Good m s)->d [QI m R L,Qb m f,Qb m c]=some (Qb m (Qi m (Qs m (Qp R L)) f c),true)
theorem QvL(hn:Qhx dn)(ht:Qf0 dt):Qm1 (Qx 6 (Qxd dn dt)):=λm R L f c hm hl hR hL=>by
 have gS:=Qcl hR hL;have tb:∀i j,i<m->j<m->(Qs m (Qp R L) i j).natAbs<2^64:=λi j hi hj=>by
  rw[Qcp hi hj λs hs=>⟨(gS s hs).1,(gS s hs).2.1⟩];have:=QeJ i j (Qp R L);have:(Qp R L).length<=1000000:=by unfold Qp;simp;omega
  omega
 refine QR ?_;refine run_seq (QeC (Ql rfl (hn m R L [f,c]) rfl) ?_);refine rsa (Qf1 rfl rfl) ?_;refine Qbl (P:=λU=>∃j4 j5,U=[slF (QI m R L),slF (Qb m f),slF (Qb m c),slT (Qb m (Qi m (Qs m (Qp R L)) f c)),j4,j5]) ?_ ?_
 ·refine Qay (List.range m) (λk U=>∃j4 j5,U=[slF (QI m R L),slF (Qb m f),slF (Qb m c),slT (Qb m (λj=>f j+Qn k λi=>c i*Qs m (Qp R L) i j)),j4,j5]) (QaG (Ql rfl (ht m R L hm hl hR hL) rfl) rfl rfl rfl) rfl ⟨none,none,?_⟩ ?_ ?_
  ·show [slF (QI m R L),slF (Qb m f),slF (Qb m c),slT (Qb m f),none,none]=_;have:Qb m f=Qb m λj=>f j+Qn 0 λi=>c i*Qs m (Qp R L) i j:=Qc3 λi _=>by show f i=f i+0;omega
   rw[← this]
  ·rintro k k' U hk ⟨j4,j5,rfl⟩;obtain⟨hkm,rfl⟩:=Qdx hk;refine⟨_,rfl,?_⟩;refine run_seq (Qz ?_ (Qt ⟨_,_,by rw[Qae];rfl⟩))
   have e:=QA (fi:=Qaz (Qg 3) (Qg 4)) (t:= .tp [1,2]) (cap:=[none,none,none,some 5]) (fe:=QE (Qg 1) (QZ (Qg 3) (Qg 2))) (U:=[slF (QI m R L),slF (Qb m f),slF (Qb m c),slT (Qb m (λj=>f j+Qn k λi=>c i*Qs m (Qp R L) i j)),slF (Qb m (Qs m (Qp R L) k)),slI (c k)])
    (List.range m) (QaG rfl rfl rfl rfl) rfl λj hj=>by
     have hj:=Zf.mp hj;exact⟨[none,slI (f j+Qn k λi=>c i*Qs m (Qp R L) i j),slI (Qs m (Qp R L) k j),slI (c k)],rfl,_,QY rfl rfl (Q5 rfl rfl rfl rfl (Qcd (tb k j hkm hj))) rfl,rfl,rfl⟩
   refine e.trans ?_;congr 2;show D.lst _=D.lst _;congr 1;refine ZD λj _=>?_;show _=D.int (f j+Qn (k+1) λi=>c i*Qs m (Qp R L) i j);rw[Qai,Int.add_assoc]
  ·rintro U ⟨j4,j5,rfl⟩;rw[Zu];exact⟨j4,j5,rfl⟩
 rintro U ⟨j4,j5,rfl⟩;exact Qy rfl ⟨rfl,rfl⟩
structure Qbi (m:Nat) (R L:Lpp):Prop where
 ex:∃W,Esc m W/\(∀w∈W,GoodW m w)/\W.length<=200/\R=Qc2 W/\L=QdI W
theorem Qbi.good{m:Nat}{R L:Lpp}(h:Qbi m R L):(∀s∈R,Good m s)/\(∀s∈L,Good m s)/\R.length<=200/\L.length<=200/\(∀s∈R,s.1<s.2)/\∀s∈L,s.1<m:=by
 obtain⟨W,_,h2,h3,rfl,rfl⟩:=h.ex;exact⟨λs hs=>(QlS h2 s hs).1,λs hs=>(QlN h2 s hs).1,Zt (QtZ W) h3,Zt (Qui W) h3,λs hs=>(QlS h2 s hs).2,λs hs=>(QlN h2 s hs).2⟩
theorem Qny{α:Type}(m:Nat)(g:Nat->α->Int):∀S:List α,Qn m (λj=>(S.map (g j)).sum)=(S.map λs=>Qn m λj=>g j s).sum
 | []=>by simp[Qaw]
 | s::S=>by
  simp only[ZJ,ZaH];rw[Qam,Qny m g S]
theorem Qrd{α:Type}(c:Int)(f:α->Int):∀S:List α,c*(S.map f).sum=(S.map λs=>c*f s).sum
 | []=>by simp
 | s::S=>by simp only[ZJ,ZaH,Zay,Qrd c f S]
theorem QvE:Qb m (Qi m T f λ_=>0)=Qb m f:=Qc3 λj _=>by
 unfold Qi;rw[Qj (g:=λ_=>0) λi _=>by simp,Qaw];omega
theorem Qxv(h:fa U=some r)(e:r.d=Qb m f):dBf Qjl (Qa fa Qe) U=some (reI (Qn m f)):=by
 unfold dBf;rw[Qq h (QL _),Za];have:Qb m f= .lst (((List.range m).map f).map .int):=by unfold Qb;rw[Zam];rfl
 simp only[e,this,Qjl,QhF,ZV];rfl
theorem Qjg(ha:fa U=some ra)(ea:ra.d=d)(hb:fb U=some rb)(eb:rb.d=d)(hs:d.sim 8=true):dOp gEq fa fb U=some (reT (.bl true)):=by
 refine Qag ha hb ?_;rw[ea,eb];unfold gEq;rw[hs,QpO hs];rfl
structure TP (m:Nat) (T:Mt2):Prop where
 neg:∀p,p<m->T p p<0
 pos:∀i j,i<m->j<m->i≠j->0<=T i j
 bnd:∀i j,i<m->j<m->(T i j).natAbs<2^64
 wt:∃w:Nat->Int,(∀j,0<=w j)/\∀i,i<m->Qn m (λj=>T i j*w j)<= -1
inductive Leg (m:Nat) (T:Mt2) (f:Mt1):(Nat->Int)->Prop where
 | nil:Leg m T f λ_=>0
 | step {c:Mt1}{p:Nat}{t:Int}:Leg m T f c->p<m->0<=t->t*(0-T p p)<=Qi m T f c p->Leg m T f (up c p (c p+t))
def Stb(m:Nat)(T:Mt2)(g:Mt1):Prop:=∀p,p<m->g p<0-T p p
theorem Qhb(hp:p<m)(j:Nat):Qi m T f (up c p (c p+v)) j=Qi m T f c j+v*T p j:=by
 unfold Qi;have e2:(λi=>up c p (c p+v) i*T i j)=λi=>c i*T i j+(if i=p then v else 0)*T i j:=by
  funext i;unfold up;by_cases h:i=p
  ·subst h;simp only[if_true];rw[ZM]
  ·simp[h]
 rw[e2,Qam,QaP hp];omega
theorem Leg.nonneg(h:Leg m T f c):∀i,0<=c i:=by
 induction h with
 | nil=>intro i;exact Zbe _
 | step _ _ ht _ ih=>
  intro i;unfold up;split
  ·have:=ih ‹Nat›;rename_i p _ _ _ _ _;have:=ih p;omega
  ·exact ih i
theorem Qep(h:∀i,i<m->f i<=g i):Qn m f<=Qn m g:=by
 induction m with
 | zero=>exact Zbe _
 | succ m ih=>
  rw[Qai,Qai];have:=ih λi hi=>h i ⋯;have:=h m ⋯;omega
theorem Leg.least(tp:TP m T)(h:Leg m T f c)(h0:∀i,i<m->0<=c' i)(hs:Stb m T (Qi m T f c')):∀i,i<m->c i<=c' i:=by
 induction h with
 | nil=>exact h0
 | @step c p t _ hp ht hle ih=>
  intro i hi;unfold up;split
  ·rename_i e;subst e;have key:Qi m T f c i+(c' i-c i)*T i i<=Qi m T f c' i:=by
    unfold Qi;have e1:Qn m (λk=>c k*T k i)+(c' i-c i)*T i i=Qn m (λk=>c k*T k i+(if k=i then c' i-c i else 0)*T k i):=by rw[Qam,QaP hi]
    have e2:Qn m (λk=>c k*T k i+(if k=i then c' i-c i else 0)*T k i)<=Qn m (λk=>c' k*T k i):=by
     refine Qep λk hk=>?_;by_cases hki:k=i
     ·subst hki;rw[if_pos rfl,← ZM];rw[show c k+(c' k-c k)=c' k by omega];exact Zbe _
     ·rw[if_neg hki,ZF,ZbA];exact Zai (ih k hk) (tp.pos k i hk hi hki)
    omega
   have h1:=hs i hi;have h2:=tp.neg i hi;by_cases hlt:c i+t<=c' i
   ·exact hlt
   ·exfalso;have h3:(c' i-c i+1)<=t:= ⋯
    have h4:(c' i-c i+1)*(0-T i i)<=t*(0-T i i):=Zai h3 ⋯;have h5:(c' i-c i+1)*(0-T i i)=(0-T i i)-(c' i-c i)*T i i:=by rw[ZM,ZQ,ZbI,ZI];omega
    omega
  ·exact ih i hi
theorem Leg.unique(tp:TP m T)(hc:Leg m T f c)(hd:Leg m T f d)(sc:Stb m T (Qi m T f c))(sd:Stb m T (Qi m T f d)):∀i,i<m->c i=d i:=λi hi=>by
 have h1:=hc.least tp (λi _=>hd.nonneg i) sd i hi;have h2:=hd.least tp (λi _=>hc.nonneg i) sc i hi;omega
theorem QqZ{m:Nat}{T:Mt2}{f c b:Mt1}(j:Nat):Qi m T (λi=>2*f i+b i) (λi=>2*c i) j=2*Qi m T f c j+b j:=by
 unfold Qi;have e:(λi=>2*c i*T i j)=λi=>2*(c i*T i j):=by funext i;rw[ZE]
 rw[e,QT];show 2*f j+b j+2*_=2*(f j+_)+b j;omega
theorem QaT(j:Nat)(h1:f j=g j)(h2:∀i,i<m->c i=d i):Qi m T f c j=Qi m T g d j:=by
 unfold Qi;rw[h1,Qj λi hi=>by rw[h2 i hi]]
theorem Leg.QyS(h:Leg m T f c)(b:Mt1)(hb:∀i,0<=b i):∃d,Leg m T (λi=>2*f i+b i) d/\∀i,d i=2*c i:=by
 induction h with
 | nil=>exact⟨_,.nil,λi=>by simp⟩
 | @step c p t _ hp ht hle ih=>
  obtain⟨d,hd,e⟩:=ih;have ed:d=λi=>2*c i:=funext e;subst ed;refine⟨_,.step (t:=2*t) hd hp ⋯ ?_,λi=>?_⟩
  ·rw[QqZ];have:=hb p;have e2:2*t*(0-T p p)=2*(t*(0-T p p)):=by rw[ZE]
   omega
  ·show up (λi=>2*c i) p (2*c p+2*t) i=2*up c p (c p+t) i;unfold up;split
   ·omega
   ·rfl
theorem Leg.cast(h:Leg m T f c)(e:∀i,c i=d i):Leg m T f d:=by
 have:c=d:=funext e;rw[← this];exact h
theorem Leg.Qof(h:Leg m T f c)(e:∀i,i<m->f i=g i):Leg m T g c:=by
 induction h with
 | nil=>exact .nil
 | @step c p t _ hp ht hle ih=>exact .step ih hp ht (by rw[← QaT p (e p hp) (λ_ _=>rfl)];exact hle)
noncomputable def wtF(m:Nat)(w g:Mt1):Int:=Qn m λj=>g j*w j
theorem QwI(hw:∀i,i<m->Qn m (λj=>T i j*w j)<= -1)(hp:p<m)(ht:0<=t):wtF m w (Qi m T f (up c p (c p+t)))<=wtF m w (Qi m T f c)-t:=by
 unfold wtF;have e:(λj=>Qi m T f (up c p (c p+t)) j*w j)=λj=>Qi m T f c j*w j+t*(T p j*w j):=by
  funext j;rw[Qhb hp,ZM,ZE]
 rw[e,Qam,QT];have h1:t*Qn m (λj=>T p j*w j)<=t*(-1):=ZU (hw p hp) ht;omega
theorem Qnn(hw:∀j,0<=w j)(hg:∀j,j<m->0<=g j):0<=wtF m w g:=by
 have:=Qep λi hi=>Zaw (hg i hi) (hw i);rw[Qaw]at this;exact this
theorem QeT(I:Nat->En->Prop)(step:∀n U,I n U->∃b,g U=some b/\(b=false->Q (.nx U))/\(b=true->Run fb U λo=>match o with | .nx U2=>∃n',n'<n/\I n' U2 | .ct U2=>∃n',n'<n/\I n' U2 | .bk U2=>Q (.nx U2) | .rt d fr=>Q (.rt d fr))):
  ∀(n:Nat) (U:En),I n U->Run (QbS g fb) U Q:=by
 intro n
 induction n using Nat.strongRecOn with
 | _ n ih=>
  intro U h;obtain⟨b,hb,hf,ht⟩:=step n U h;unfold Run;rw[Qtv,hb,Za];cases b with
  | false=>exact⟨_,by simp,hf rfl⟩
  | true=>
   obtain⟨o,ho,hq⟩:=ht rfl;rw[if_pos rfl,ho,Za];cases o with
   | nx U2=>obtain⟨n',hn,hI⟩:=hq;exact ih n' hn U2 hI
   | ct U2=>obtain⟨n',hn,hI⟩:=hq;exact ih n' hn U2 hI
   | bk U2=>exact⟨_,rfl,hq⟩
   | rt d fr=>exact⟨_,rfl,hq⟩
theorem QqV(ha:fa U=some ra)(ea:ra.d= .int a)(hb:fb U=some rb)(eb:rb.d= .int b)(h:0<b)(h2:b<2^200):dOp Qa4 fa fb U=some (reI (a / b)):=by
 refine Qag ha hb ?_;rw[ea,eb];show(if Qb5 b=true then some (D.int (Qd3 a b))else none)=_;rw[if_pos (QtX h h2),QkP _ _ ⋯]
theorem Q6{i:Nat}(ha:fa U=some ra)(ea:ra.d=Qb m f)(hb:fb U=some rb)(eb:rb.d= .int i)(h:i<m):Qr fa fb U=some (reI (f i)):=by
 have:=Qji ha ea hb eb ⋯ ⋯;rw[ZP]at this;exact this
noncomputable def QnA:DS:=(Qd (Qo 3 (dList (Qa vv1 Qe))) (Qd (Qo 4 (dList (Qa vv2 Qe))) (Qd (Qo 5 (dC (.bl true))) (Qd (QbS (QB vv5) (Qd (Qo 5 (dC (.bl false))) (Qd (QaV (QdX vv0) (.tp [6,7]) (Qd (Qo 8 (dOp Qa4 (Qr vv3 vv6) (dOp Qax kk0 (Qr vv7 vv6)))) (Qd (sIf (QB (dOp gGt vv8 kk0)) (Qd (Qo 5 (dC (.bl true))) (Qd (QdY (gI λi j=>some (.int (i+j))) 4 Qap vv6 vv8) (Qd (Qo 3 (QF (Qaz vv3 vv7) (.tp [1,2]) [none,none,none,some 8] QN (QE vv1 (QZ vv3 vv2)))) Qm))) Qm) Qm))) Qm))) (Qd (QM (QaO (Qa vv3 (Qa vv4 Qe)))) Qm)))))
def QiZ(d:Den):Prop:=∀(m:Nat) (T:Mt2) (f k:Mt1),m<=1000->TP m T->Leg m T f k->(∀j,j<m->0<=Qi m T f k j)->∃k',d [Qc m m T,Qb m (Qi m T f k),Qb m k]=some (.tup [Qb m (Qi m T f k'),Qb m k'],true)/\Leg m T f k'/\(∀j,j<m->0<=Qi m T f k' j)/\Stb m T (Qi m T f k')
theorem QkY{h s:Int}(hs:0<s)(ht:¬0<h / s)(h0:0<=h):h<s:=by
 have:=Zcp h0 (by omega:0<=s);have e:h / s=0:= ⋯
 have:=Zz h hs;have:=ZaN h s;rw[e]at this;omega
theorem Qk9{h s:Int}(hs:0<s):h / s*s<=h:=Int.ediv_mul_le h ⋯
theorem QrP:QiZ (Qx 9 QnA):=λm T f k hm tp hk hpos=>by
 obtain⟨w,hw0,hw⟩:=tp.wt;have key:Run QnA (Qau 9 [Qc m m T,Qb m (Qi m T f k),Qb m k]) (Rt λd fr=>∃k',d= .tup [Qb m (Qi m T f k'),Qb m k']/\fr=true/\Leg m T f k'/\(∀j,j<m->0<=Qi m T f k' j)/\Stb m T (Qi m T f k')):=by
  refine rsa (Qf1 rfl rfl) ?_;refine rsa (Qf1 rfl rfl) ?_;refine rsa rfl ?_;refine run_seq (Run.mono (Q:=Nx λU=>∃k' j5 j6 j7 j8,Leg m T f k'/\(∀j,j<m->0<=Qi m T f k' j)/\Stb m T (Qi m T f k')/\U=[slF (Qc m m T),slF (Qb m (Qi m T f k)),slF (Qb m k),slT (Qb m (Qi m T f k')),slT (Qb m k'),j5,j6,j7,j8]) ?_ ?_)
  ·refine QeT (λn U=>∃k' bz j6 j7 j8,Leg m T f k'/\(∀j,j<m->0<=Qi m T f k' j)/\(bz=false->Stb m T (Qi m T f k'))/\n=(wtF m w (Qi m T f k')).toNat+(if bz=true then 1 else 0)/\U=[slF (Qc m m T),slF (Qb m (Qi m T f k)),slF (Qb m k),slT (Qb m (Qi m T f k')),slT (Qb m k'),slT (.bl bz),j6,j7,j8]) ?_ _ _ ⟨k,true,none,none,none,hk,hpos,λh=>by(cases h),rfl,rfl⟩;rintro n U ⟨k',bz,j6,j7,j8,hL,hP,hS,rfl,rfl⟩;refine⟨bz,QH rfl rfl,λh=>⟨k',_,_,_,_,hL,hP,hS h,rfl⟩,λhb=>?_⟩;subst hb;refine rsa rfl ?_;refine QC (Run.mono (Q:=Nx λU=>∃k2 b2 j6 j7 j8,Leg m T f k2/\(∀j,j<m->0<=Qi m T f k2 j)/\(b2=false->Stb m T (Qi m T f k2))/\(wtF m w (Qi m T f k2)+(if b2=true then 1 else 0)<=wtF m w (Qi m T f k'))/\U=[slF (Qc m m T),slF (Qb m (Qi m T f k)),slF (Qb m k),slT (Qb m (Qi m T f k2)),slT (Qb m k2),slT (.bl b2),j6,j7,j8]) ?_ ?_)
   ·refine Qay (List.range m) (λi U=>∃k2 b2 j6 j7 j8,Leg m T f k2/\(∀j,j<m->0<=Qi m T f k2 j)/\(b2=false->∀p,p<i->Qi m T f k2 p<0-T p p)/\(wtF m w (Qi m T f k2)+(if b2=true then 1 else 0)<=wtF m w (Qi m T f k'))/\U=[slF (Qc m m T),slF (Qb m (Qi m T f k)),slF (Qb m k),slT (Qb m (Qi m T f k2)),slT (Qb m k2),slT (.bl b2),j6,j7,j8]) rfl (QlY (α:=Nat) m _) ⟨k',false,_,_,_,hL,hP,λ_ p hp=>absurd hp ⋯,by simp,rfl⟩ ?_ ?_
    ·rintro i p U hi ⟨k2,b2,j6,j7,j8,hL2,hP2,hS2,hW2,rfl⟩;have hp':i<m/\i=p:=by
      obtain⟨h1,h2⟩:=Zk.mp hi;simp at h1 h2;exact⟨h1,h2⟩
     obtain⟨him,rfl⟩:=hp';have hneg:=tp.neg i him;have hb:=tp.bnd i i him him;have h0:=hP2 i him;refine⟨_,rfl,?_⟩;refine rsa (QqV (Q6 rfl rfl rfl rfl him) rfl (Qag rfl (Q6 rfl rfl rfl rfl him) rfl) rfl ⋯ ⋯) ?_;generalize et:Qi m T f k2 i / (0-T i i)=t;have t0:0<=t:=by rw[← et];exact Zcp h0 ⋯
     refine QC (QU (QH rfl rfl) (λh=>?_) (λh=>?_))
     ·have h:=of_decide_eq_true h;have hle:t*(0-T i i)<=Qi m T f k2 i:=by rw[← et];exact Qk9 ⋯
      refine rsa rfl ?_;refine run_seq (Qu8 rfl rfl rfl rfl ⋯ ⋯ rfl ?_);rw[ZP];refine run_seq (Qz (r:=reT (Qb m (Qi m T f (up k2 i (k2 i+t))))) ?_ (Qt (Qt ?_)))
      ·have e:=QA (fi:=Qaz (Qg 3) (Qg 7)) (t:= .tp [1,2]) (cap:=[none,none,none,some 8]) (fe:=QE (Qg 1) (QZ (Qg 3) (Qg 2))) (U:=[slF (Qc m m T),slF (Qb m (Qi m T f k)),slF (Qb m k),slT (Qb m (Qi m T f k2)),slT (Qb m (up k2 i (k2 i+t))),slT (.bl true),slI i,slF (Qb m (T i)),slI t])
        (List.range m) (QaG rfl rfl rfl rfl) rfl λj hj=>by
         have hj:=Zf.mp hj;exact⟨[none,slI (Qi m T f k2 j),slI (T i j),slI t],rfl,_,QY rfl rfl (Q5 rfl rfl rfl rfl (Qcd (tp.bnd i j him hj))) rfl,rfl,rfl⟩
       refine e.trans ?_;congr 2;show D.lst _=D.lst _;congr 1;refine ZD λj _=>?_;rw[Qhb him]
      ·rw[Qae];have hup:=QwI hw (f:=f) (c:=k2) him t0;refine⟨up k2 i (k2 i+t),true,_,_,_,.step hL2 him t0 hle,λj hj=>?_,λz=>(by cases z),?_,rfl⟩
       ·rw[Qhb him];by_cases hji:j=i
        ·subst hji;have:t*T j j= -(t*(0-T j j)):=by rw[Zag,ZaD,ZbJ]
         omega
        ·have:=hP2 j hj;have:=Zaw t0 (tp.pos i j him hj (λz=>hji z.symm));omega
       ·rw[if_pos rfl];have:(0:Int)<=if b2=true then 1 else 0:=by split<;>omega
        omega
     ·have h:=of_decide_eq_false h;refine Qt (Qt ⟨k2,b2,_,_,_,hL2,hP2,λhb2 p hp=>?_,hW2,rfl⟩);by_cases hpi:p=i
      ·subst hpi;exact QkY ⋯ (by rw[et];exact h) h0
      ·exact hS2 hb2 p ⋯
    ·rintro U ⟨k2,b2,j6,j7,j8,hL2,hP2,hS2,hW2,rfl⟩;rw[Zu]at hS2;exact⟨k2,b2,_,_,_,hL2,hP2,hS2,hW2,rfl⟩
   ·intro o ho;cases o with
    | nx U=>
     obtain⟨k2,b2,j6,j7,j8,hL2,hP2,hS2,hW2,rfl⟩:=ho;refine Qt ⟨_,?_,k2,b2,_,_,_,hL2,hP2,hS2,rfl,rfl⟩;have n1:=Qnn hw0 hP2;rw[if_pos rfl];cases b2<;>simp at hW2 ⊢ <;>omega
    | _=>exact ho.elim
  ·intro o ho;cases o with
   | nx U=>
    obtain⟨k',j5,j6,j7,j8,hL,hP,hS,rfl⟩:=ho;exact Qy rfl ⟨k',rfl,rfl,hL,hP,hS⟩
   | _=>exact ho.elim
 obtain⟨o,h1,h2⟩:=key;cases o with
 | rt d fr=>
  obtain⟨k',rfl,rfl,h3,h4,h5⟩:=h2;exact⟨k',by unfold Qx;rw[h1];rfl,h3,h4,h5⟩
 | _=>exact h2.elim
def Qsh(m:Nat)(S:Lpp):Prop:=∀A:Nat->Prop,(∃p,p<m/\A p)->∃s∈S,s.1<m/\A s.1.toNat/\(s.2=m∨¬A s.2.toNat)
theorem Qt2(h:Esc m W):Qsh m (Qp (Qc2 W) (QdI W)):=λA hA=>by
 obtain⟨w,hw,h1,h2,h3⟩:=h A hA;refine⟨(w.1,w.2.1),?_,h1,h2,h3⟩;unfold Qp;cases e:w.2.2 with
 | true=>exact Ze _ (ZL.mpr ⟨w,ZaP.mpr ⟨hw,e⟩,rfl⟩)
 | false=>
  have hr:Qe2 w∈Qc2 W:=ZL.mpr ⟨w,ZaP.mpr ⟨hw,by simp[e]⟩,rfl⟩;by_cases hlt:w.2.1<w.1
  ·refine Zg _ (Ze _ (ZL.mpr ⟨Qe2 w,hr,?_⟩));unfold Qe2;rw[if_pos hlt,if_neg ⋯];rfl
  ·refine Zg _ (Zg _ ?_);have:Qe2 w=(w.1,w.2.1):=by
    unfold Qe2;rw[if_neg hlt];by_cases hgt:w.2.1>w.1
    ·rw[if_pos hgt]
    ·rw[if_neg hgt];rw[show w.2.1=w.1 by omega]
   rw[← this];exact hr
inductive Rk (m:Nat) (S:Lpp):Nat->Nat->Prop where
 | pit {s:Int×Int}{n:Nat}:s∈S->s.2=m->Rk m S (n+1) s.1.toNat
 | step {s:Int×Int}{k n:Nat}:s∈S->s.2≠m->Rk m S k s.2.toNat->k<n->Rk m S n s.1.toNat
theorem Qp2{P:Nat->Prop}(h:∃n,P n):∃n,P n/\∀k,k<n->¬P k:=by
 obtain⟨n,hn⟩:=h
 induction n using Nat.strongRecOn with
 | _ n ih=>
  by_cases h:∃k,k<n/\P k
  ·obtain⟨k,hk,h⟩:=h;exact ih k hk h
  ·exact⟨n,hn,λk hk hx=>h ⟨k,hk,hx⟩⟩
theorem QBx(he:Qsh m S):∀p,p<m->∃n,Rk m S n p:=λp hp=>by
 by_cases h:∃n,Rk m S n p
 ·exact h
 ·exfalso;obtain⟨s,hs,h1,h2,h3⟩:=he (λp=>¬ ∃n,Rk m S n p) ⟨p,hp,h⟩;by_cases e:s.2=m
  ·exact h2 ⟨1,.pit hs e⟩
  ·rcases h3 with h3 | h3
   ·exact e h3
   ·have:∃n,Rk m S n s.2.toNat:=ZX λz=>h3 z;obtain⟨k,hk⟩:=this;exact h2 ⟨k+1,.step hs e hk ⋯⟩
theorem QwX{m:Nat}{S:Lpp}(hg:∀s∈S,Good m s)(he:Qsh m S):∃r:Nat->Nat,r m=0/\∀p,p<m->∃s∈S,s.1=p/\r s.2.toNat<r p:=by
 have h:∀p,∃n,(p<m->Rk m S n p/\∀k,k<n->¬Rk m S k p)/\(p=m->n=0):=λp=>by
  by_cases hp:p<m
  ·obtain⟨n,hn⟩:=Qp2 (QBx he p hp);exact⟨n,λ_=>hn,λz=> ⋯⟩
  ·exact⟨0,λz=>absurd z hp,λ_=>rfl⟩
 obtain⟨r,hr⟩:=Zcf h;refine⟨r,(hr m).2 rfl,λp hp=>?_⟩;have h1:=((hr p).1 hp).1;generalize r p=n at h1;cases h1 with
 | @pit s n hs e=>
  obtain⟨g1,g2,g3,g4,g5⟩:=hg s hs;exact⟨s,hs,⋯,by rw[e,ZP,(hr m).2 rfl];omega⟩
 | @step s k n hs e hk hkn=>
  obtain⟨g1,g2,g3,g4,g5⟩:=hg s hs;refine⟨s,hs,⋯,?_⟩;have hl:s.2.toNat<m:= ⋯
  have:=((hr s.2.toNat).1 hl).2 k;have:¬k<r s.2.toNat:=λz=>this z hk;omega
theorem Qpl(r:Nat->Nat):∀m:Nat,∃N,∀p,p<=m->r p<=N
 | 0=>⟨r 0,λp hp=>by rw[show p=0 by omega];exact Zi _⟩
 | m+1=>by
  obtain⟨N,hN⟩:=Qpl r m;refine⟨N+r (m+1),λp hp=>?_⟩;by_cases e:p=m+1
  ·subst e;omega
  ·have:=hN p ⋯;omega
theorem QtI(hi:i<m)(g:Good m s)(w:Mt1)(hw:w m=0):Qn m (λj=>hit i j s*w j)=if s.1=i then w s.2.toNat-w i else 0:=by
 obtain⟨g1,g2,g3,g4,g5⟩:=g;by_cases h:s.1=i
 ·rw[if_pos h];have e:Qn m (λj=>hit i j s*w j)=Qn m (λj=>(if j=s.2.toNat then 1 else 0)*w j+(if j=i then-1 else 0)*w j):=Qj λj _=>by
   have:hit i j s=(if j=s.2.toNat then 1 else 0)+(if j=i then-1 else 0):=by
    unfold hit;by_cases a:s.2=j
    ·by_cases b:i=j
     ·rw[if_pos ⟨h,a⟩,if_pos ⟨h,b⟩,if_pos ⋯,if_pos b.symm];omega
     ·rw[if_pos ⟨h,a⟩,if_neg (λz=>b z.2),if_pos ⋯,if_neg (λz=>b z.symm)];omega
    ·by_cases b:i=j
     ·rw[if_neg (λz=>a z.2),if_pos ⟨h,b⟩,if_neg ⋯,if_pos b.symm];omega
     ·rw[if_neg (λz=>a z.2),if_neg (λz=>b z.2),if_neg ⋯,if_neg (λz=>b z.symm)];omega
   rw[this,ZM]
  rw[e,Qam,QaP hi];by_cases hm:s.2.toNat<m
  ·rw[QaP hm];omega
  ·have e2:Qn m (λj=>(if j=s.2.toNat then 1 else 0)*w j)=0:=by
    rw[Qj λj hj=>by rw[if_neg ⋯,ZF],Qaw]
   rw[e2,show s.2.toNat=m by omega,hw];omega
 ·rw[if_neg h];rw[Qj (g:=λ_=>0) λj hj=>by
   unfold hit;rw[if_neg (λz=>h z.1),if_neg (λz=>h z.1)];rw[ZbB,ZF],Qaw]
theorem QlW{α:Type}{g:α->Int}{X:Int}:∀S:List α,(∀s∈S,g s<=X)->(S.map g).sum<=S.length*X
 | [],_=>by simp
 | a::S,h=>by
  have h1:=h a (by simp);have h2:=QlW S λs hs=>h s (by simp[hs]);simp only[ZJ,ZaH,ZR,ZaJ,ZM];rw[show((1:Nat):Int)*X=X by simp];omega
theorem QlQ{α:Type}{g:α->Int}{X Y:Int}:∀(S:List α),(∀s∈S,g s<=X)->(∃s∈S,g s<=Y)->(S.map g).sum<=S.length*X-X+Y
 | [],_,h=>by obtain⟨s,hs,_⟩:=h;exact absurd hs (by simp)
 | a::S,h,h2=>by
  obtain⟨s,hs,hy⟩:=h2;have hb:∀s∈S,g s<=X:=λs hs=>h s (by simp[hs]);simp only[ZJ,ZaH,ZR,ZaJ,ZM];rw[show((1:Nat):Int)*X=X by simp];rcases Zj.mp hs with e | hs
  ·subst e;have:=QlW S hb;omega
  ·have:=QlQ S hb ⟨s,hs,hy⟩;have:=h a (by simp);omega
theorem Qlg{α:Type}{g:α->Int}:∀S:List α,(∀s∈S,0<=g s)->0<=(S.map g).sum
 | [],_=>by simp
 | a::S,h=>by
  have h1:=h a (by simp);have h2:=Qlg S λs hs=>h s (by simp[hs]);simp only[ZJ,ZaH];omega
theorem QvF{m:Nat}{S:Lpp}(hg:∀s∈S,Good m s)(he:Qsh m S)(hl:S.length<2^60):TP m (Qs m S):=by
 have hn:∀s∈S,0<=s.1/\0<=s.2:=λs hs=>⟨(hg s hs).1,(hg s hs).2.1⟩;have pos:∀i j,i<m->j<m->i≠j->0<=Qs m S i j:=λi j hi hj hij=>by
  rw[Qcp hi hj hn];refine Qlg S λs _=>?_;unfold hit;rw[if_neg (λz=>hij z.2) (c:=s.1=i/\i=j)];split<;>omega
 obtain⟨r,r0,hr⟩:=QwX hg he;obtain⟨N,hN⟩:=Qpl r m;have M1:1<=S.length+1:= ⋯
 have wt:∃w:Nat->Int,(∀j,0<=w j)/\∀i,i<m->Qn m (λj=>Qs m S i j*w j)<= -1:=by
  refine⟨λv=>(((S.length+1)^N:Nat):Int)-(((S.length+1)^(N-r v):Nat):Int),λj=>?_,λi hi=>?_⟩
  ·have:=Zq M1 (Nat.sub_le N (r j));show(0:Int)<=(((S.length+1)^N:Nat):Int)-(((S.length+1)^(N-r j):Nat):Int);omega
  ·generalize hw:(λv=>(((S.length+1)^N:Nat):Int)-(((S.length+1)^(N-r v):Nat):Int))=w;have hw':∀v,w v=(((S.length+1)^N:Nat):Int)-(((S.length+1)^(N-r v):Nat):Int):=λv=>by rw[← hw]
   have wm:w m=0:=by rw[hw',r0,Zci];omega
   have e:Qn m (λj=>Qs m S i j*w j)=(S.map λs=>if s.1=(i:Int)then w s.2.toNat-w i else 0).sum:=by
    rw[Qj (g:=λj=>(S.map λs=>hit i j s*w j).sum) λj hj=>by
     rw[Qcp hi hj hn,Zah,Qrd];congr 1;exact ZD λs _=>Zah _ _]
    rw[Qny m (λj s=>hit i j s*w j) S];congr 1;exact ZD λs hs=>QtI hi (hg s hs) w wm
   rw[e];obtain⟨s0,hs0,e0,hlt⟩:=hr i hi;generalize hX:(((S.length+1)^(N-r i):Nat):Int)=X;have X1:1<=X:=by
    have:0<(S.length+1)^(N-r i):=Nat.pow_pos ⋯;omega
   have key:=QlQ (Y:=X-(S.length+1)*X) S (λs _=>by
    show(if s.1=i then w s.2.toNat-w i else 0)<=X;split
    ·rw[hw',hw' i,hX];have:0<=(((S.length+1)^(N-r s.2.toNat):Nat):Int):=Int.natCast_nonneg _;omega
    ·omega) ⟨s0,hs0,by
    show(if s0.1=i then w s0.2.toNat-w i else 0)<=_;rw[if_pos e0,hw',hw' i,hX];have hb:=hN i ⋯;have h1:(S.length+1)^(N-r i+1)<=(S.length+1)^(N-r s0.2.toNat):=Zq M1 ⋯;rw[Zcj]at h1;have h2:((((S.length+1)^(N-r i)*(S.length+1):Nat)):Int)<=(((S.length+1)^(N-r s0.2.toNat):Nat):Int):=by exact_mod_cast h1
    rw[Zan,hX,Zah,show((S.length+1:Nat):Int)=(S.length:Int)+1 by omega]at h2;omega⟩
   have:((S.length:Int)+1)*X=S.length*X+X:=by rw[ZM,ZQ]
   omega
 refine⟨λp hp=>?_,pos,λi j hi hj=>?_,wt⟩
 ·obtain⟨w,w0,hw⟩:=wt;have h1:=hw p hp;by_cases hneg:Qs m S p p<0
  ·exact hneg
  ·exfalso;have:0<=Qn m (λj=>Qs m S p j*w j):=by
    have:=Qep (f:=λ_=>0) (g:=λj=>Qs m S p j*w j) λj hj=>by
     by_cases e:p=j
     ·subst e;exact Zaw ⋯ (w0 _)
     ·exact Zaw (pos p j hp hj e) (w0 _)
    rw[Qaw]at this;exact this
   omega
 ·rw[Qcp hi hj hn];have:=QeJ i j S;omega
theorem Qbi.tp{m:Nat}{R L:Lpp}(h:Qbi m R L):TP m (Qs m (Qp R L)):=by
 have hg:=h.good;refine QvF (Qcl hg.1 hg.2.1) ?_ ?_
 ·obtain⟨W,h1,_,_,rfl,rfl⟩:=h.ex;exact Qt2 h1
 ·unfold Qp;simp only[Zy,Zn];omega
theorem Qbi.neg{m:Nat}{R L:Lpp}(h:Qbi m R L){i:Nat}(hi:i<m):0-Qs m (Qp R L) i i=Qct R L i:=by
 have hg:=h.good;have hs:=Qcl hg.1 hg.2.1;rw[Qcp hi hi (λs z=>⟨(hs s z).1,(hs s z).2.1⟩),sum_neg _ _ (λs z=>(hs s z).2.2.2.2),Qnx];omega
theorem QnC(m:Nat)(f:Mt1):Qb m f= .lst (((List.range m).map f).map D.int):=by
 unfold Qb;rw[Zam];rfl
theorem QqO:∀{ns:List Int},ns≠[]->∃m,QkX ns=some m
 | [],h=>absurd rfl h
 | [n],_=>⟨n,rfl⟩
 | n::k::r,_=>by
  obtain⟨m,hm⟩:=QqO (ns:=k::r) (by simp);exact⟨if m<n then m else n,by simp only[QkX,hm,ZV]⟩
theorem QqP:∀{ns:List Int},ns≠[]->∃m,QkG ns=some m
 | [],h=>absurd rfl h
 | [n],_=>⟨n,rfl⟩
 | n::k::r,_=>by
  obtain⟨m,hm⟩:=QqP (ns:=k::r) (by simp);exact⟨if n<m then m else n,by simp only[QkG,hm,ZV]⟩
theorem QsC(h:0<m)(f:Mt1):(List.range m).map f≠[]:=by
 intro z;have:=congrArg List.length z;simp at this;omega
theorem QyG(m0:0<m)(f:Mt1):∃v,(∃i,i<m/\v=f i)/\(∀i,i<m->v<=f i)/\∀{fa:DE}{U:En}{r:R},fa U=some r->r.d=Qb m f->dBf QjM (Qa fa Qe) U=some (reI v):=by
 obtain⟨v,hv⟩:=QqO (QsC m0 f);obtain⟨h1,h2⟩:=Qjj hv;refine⟨v,?_,λi hi=>h2 _ (ZL.mpr ⟨i,Zf.mpr hi,rfl⟩),λ{fa U r} h e=>?_⟩
 ·obtain⟨i,hi,e⟩:=ZL.mp h1;exact⟨i,Zf.mp hi,e.symm⟩
 ·unfold dBf;rw[Qq h (QL _),Za];simp only[e,QnC,QjM,QhF,Za,hv,ZV]
theorem Qri(m0:0<m)(f:Mt1):∃v,(∃i,i<m/\v=f i)/\(∀i,i<m->f i<=v)/\∀{fa:DE}{U:En}{r:R},fa U=some r->r.d=Qb m f->dBf QhL (Qa fa Qe) U=some (reI v):=by
 obtain⟨v,hv⟩:=QqP (QsC m0 f);obtain⟨h1,h2⟩:=QjE hv;refine⟨v,?_,λi hi=>h2 _ (ZL.mpr ⟨i,Zf.mpr hi,rfl⟩),λ{fa U r} h e=>?_⟩
 ·obtain⟨i,hi,e⟩:=ZL.mp h1;exact⟨i,Zf.mp hi,e.symm⟩
 ·unfold dBf;rw[Qq h (QL _),Za];simp only[e,QnC,QhL,QhF,Za,hv,ZV]
noncomputable def QiA(QaW:Den):DS:=(Qd (Qbs (Qh 2 QaW [] (Qa vv0 (Qa vv1 Qe)))) (Qd (QaV (QX vv1) (.nm 2) (Qd (sIf (QB (dOp gLt (dBf QjM (Qa vv2 Qe)) kk0)) (Qd Qw Qm) Qm) Qm)) Qm))
def QmP(d:Den):Prop:=∀(m:Nat) (R L:Lpp) (fs:List (Nat->Int)),0<m->(∀f∈fs,∀j,j<m->0<=f j)->d [QI m R L,.lst (fs.map λf=>Qb m f)]=some (.non,true)
theorem QvZ(hn:Qhx dn):QmP (Qx 3 (QiA dn)):=λm R L fs m0 hf=>by
 have key:Run (QiA dn) (Qau 3 [QI m R L,.lst (fs.map λf=>Qb m f)]) (Nx λ_=>True):=by
  refine run_seq (QeC (Ql rfl (hn m R L fs) rfl) ?_);refine run_seq (Qay fs (λ_ U=>∃j2,U=[slF (QI m R L),slF (.lst (fs.map λf=>Qb m f)),j2]) rfl rfl ⟨none,rfl⟩ ?_ ?_)
  ·rintro i f U hi ⟨j2,rfl⟩;refine⟨_,rfl,?_⟩;obtain⟨v,⟨q,hq,e⟩,_,hv⟩:=QyG m0 f;have h0:=hf f (Zax hi) q hq;refine run_seq (QU (b:=false) (QH (Qag (hv rfl rfl) rfl rfl) ?_) (λh=>by cases h) (λ_=>Qt (Qt ⟨_,rfl⟩)));show D.bl _=_;rw[decide_eq_false ⋯]
  ·rintro U ⟨j2,rfl⟩;exact Qt trivial
 obtain⟨o,h1,h2⟩:=key;unfold Qx;rw[h1];cases o with
 | nx U=>rfl
 | _=>exact h2.elim
noncomputable def Qq5(Qd1:Den)(QaE:Den)(Qgm:Den):DS:=(Qd (Qbs (Qh 2 Qd1 [] (Qa vv0 (Qa (Qad (Qa vv1 Qe)) Qe)))) (Qd (Qo 2 (Qh 1 QaE [] (Qa vv0 Qe))) (Qd (Qo 3 (QZ (Qad (Qa kk0 Qe)) (Qr vv0 kk0))) (Qd (Qo 4 (QZ (Qad (Qa kk0 Qe)) (Qr vv0 kk0))) (Qd (Qo 5 (QaO (Qa vv3 (Qa vv4 Qe)))) (Qd (Qo 6 (dBf QhL (Qa vv1 Qe))) (Qd (QaV (Qfw (dOp Qax (Qoo vv6) kk1) (Qh6 kk1) (Qh6 kk1)) (.nm 7) (Qd (Qo 3 (QF (Qaz (Qr vv5 kk0) vv1) (.tp [1,2]) [none,none,none,some 7] QN (QE (QZ kk2 vv1) (dOp Q9 (dOp QoD vv2 vv3) kk2)))) (Qd (Qo 4 (QF (QX (Qr vv5 kk1)) (.nm 1) [none,none] QN (QZ kk2 vv1))) (Qd (Qo 5 (Qh 3 Qgm [] (Qa vv2 (Qa vv3 (Qa vv4 Qe))))) Qm)))) (Qd (QM vv5) Qm))))))))
noncomputable def QeK(m:Nat)(T:Mt2)(f c:Mt1):D:= .tup [Qb m (Qi m T f c),Qb m c]
structure Told (m:Nat) (T:Mt2) (f c:Mt1):Prop where
 leg:Leg m T f c
 pos:∀j,j<m->0<=Qi m T f c j
 stb:Stb m T (Qi m T f c)
def Ql1(d:Den):Prop:=∀(m:Nat) (R L:Lpp) (f:Mt1),0<m->m<=1000->Qbi m R L->(∀j,j<m->0<=f j/\f j<2^200)->∃c,d [QI m R L,Qb m f]=some (QeK m (Qs m (Qp R L)) f c,true)/\Told m (Qs m (Qp R L)) f c
theorem QnS(ha:fa U=some ra)(ea:ra.d= .int ((n:Int)-1))(hb:fb U=some rb)(eb:rb.d= .int (-1))(hc:fc U=some rc)(ec:rc.d= .int (-1))(hn:n<=16777216):Qfw fa fb fc U=some ⟨(List.range n).map λ(k:Nat)=> .int ((n:Int)-1-k),[]⟩:=by
 unfold Qfw;rw[ha,Za,hb,Za,hc,Za,ea,eb,ec];show(if(n:Int)-1- -1<=16777216/\_ then _ else _)=_;rw[if_pos ⟨⋯,⋯,⋯,⋯,⋯⟩,show((n:Int)-1- -1).toNat=n by omega];rfl
theorem Qz8{fa fb:DE}{U:En}{ra rb:R}{a:Int}{k:Nat}(ha:fa U=some ra)(ea:ra.d= .int a)(hb:fb U=some rb)(eb:rb.d= .int k):dOp QoD fa fb U=some (reI (a / 2^k)):=by
 refine Qag ha hb ?_;rw[ea,eb];show(if(0:Int)<=k then some (D.int (a / 2^(k:Int).toNat))else none)=_;rw[if_pos ⋯,ZP]
theorem Qwo(x:Int)(s:Nat):x / 2^s=2*(x / 2^(s+1))+x / 2^s % 2:=by
 have e:x / 2^(s+1)=x / 2^s / 2:=by rw[Int.pow_succ,Int.ediv_ediv_of_nonneg (Int.pow_nonneg (by decide))]
 rw[e];omega
theorem Qk2(e:∀j,j<m->f j=g j)(h:Told m T f c):Told m T g c where
 leg:=h.leg.Qof e
 pos:=λj hj=>by rw[← QaT j (e j hj) (λ_ _=>rfl)];exact h.pos j hj
 stb:=λj hj=>by rw[← QaT j (e j hj) (λ_ _=>rfl)];exact h.stb j hj
theorem Qj1(e:∀j,j<m->f j=g j):QeK m T f c=QeK m T g c:=by
 unfold QeK;rw[Qc3 λj hj=>QaT j (e j hj) λ_ _=>rfl]
theorem QuH(hn:QmP dn)(ht:Qf0 dt)(hs:QiZ ds):Ql1 (Qx 8 (Qq5 dn dt ds)):=λm R L f m0 hm hw hf=>by
 have hg:=hw.good;have tp:=hw.tp;have htoll:=ht m R L hm ⋯ hg.1 hg.2.1;generalize hT:Qs m (Qp R L)=T at tp htoll ⊢;obtain⟨top,⟨q,hq,etop⟩,hmax,evmax⟩:=Qri m0 f;have htop0:0<=top:=by rw[etop];exact(hf q hq).1
 have hB:Builtin.Int.intBits top<=200:=by
  rw[intBits_le_iff];have:top<2^200:=by rw[etop];exact(hf q hq).2
  have e2:((2^200:Nat):Int)=(2:Int)^200:=by rw[Int.natCast_pow];rfl
  generalize (2:Int)^200=z at this e2;generalize (2:Nat)^200=z' at e2 ⊢;omega
 have hlt:∀j,j<m->f j / 2^Builtin.Int.intBits top=0:=λj hj=>by
  have h1:=(intBits_le_iff (m:=Builtin.Int.intBits top)).mp (Zi _);refine Int.ediv_eq_zero_of_lt (hf j hj).1 ?_;have h2:=hmax j hj;have e2:((2^Builtin.Int.intBits top:Nat):Int)=(2:Int)^Builtin.Int.intBits top:=by rw[Int.natCast_pow];rfl
  rw[← e2];omega
 generalize hBe:Builtin.Int.intBits top=B at hB hlt;have key:Run (Qq5 dn dt ds) (Qau 8 [QI m R L,Qb m f]) (Rt λd fr=>∃c,d=QeK m T f c/\fr=true/\Told m T f c):=by
  have hneed:=hn m R L [f] m0 (λg hg' j hj=>by rw[ZH.mp hg'];exact(hf j hj).1);refine run_seq (QeC (Ql rfl hneed rfl) ?_);refine rsa (Ql rfl htoll rfl) ?_;refine rsa (QeY rfl rfl ⋯) ?_;refine rsa (QeY rfl rfl ⋯) ?_;refine run_seq (Qz rfl ?_);refine rsa (evmax rfl rfl) ?_;refine Qbl (P:=λU=>∃c j3 j4 j7,Told m T f c/\U=[slF (QI m R L),slF (Qb m f),slT (Qc m m T),j3,j4,some (QeK m T f c,true),slI top,j7]) ?_ ?_
  ·refine Qay (List.range B) (λi U=>∃c j3 j4 j7,Told m T (λj=>f j / 2^(B-i)) c/\U=[slF (QI m R L),slF (Qb m f),slT (Qc m m T),j3,j4,some (QeK m T (λj=>f j / 2^(B-i)) c,true),slI top,j7])
    (QnS (Qag (ra:=reI B) (by rw[← hBe];rfl) rfl rfl) rfl rfl rfl rfl rfl ⋯) rfl ⟨λ_=>0,none,none,none,?_,?_⟩ ?_ ?_
   ·refine Qk2 (λj hj=>(hlt j hj).symm) ⟨.nil,λj hj=>?_,λj hj=>?_⟩
    ·unfold Qi;rw[Qj λi _=>by rw[ZF],Qaw];exact Zbe _
    ·unfold Qi;rw[Qj λi _=>by rw[ZF],Qaw];have:=tp.neg j hj;show(0:Int)+0<_;omega
   ·show _=[slF (QI m R L),slF (Qb m f),slT (Qc m m T),none,none,some (QeK m T (λj=>f j / 2^B) λ_=>0,true),slI top,none];rw[← Qj1 λj hj=>(hlt j hj).symm];unfold QeK;rw[QvE];rfl
   ·rintro i i' U hi ⟨c,j3,j4,j7,hc,rfl⟩;obtain⟨hiB,rfl⟩:=Qdx hi;obtain⟨s,hsB⟩:∃s:Nat,B-i=s+1:=⟨B-i-1,⋯⟩;have es:(B:Int)-1-i=(s:Int):= ⋯
    have es2:B-(i+1)=s:= ⋯
    rw[hsB]at hc;rw[hsB,es2,es];generalize hF:(λj=>f j / 2^(s+1))=F at hc;have hF':∀j,F j=f j / 2^(s+1):=λj=>by rw[← hF]
    refine⟨_,rfl,?_⟩;have e2:∀j,2*F j+f j / 2^s % 2=f j / 2^s:=λj=>by rw[hF',← Qwo]
    have erow:∀j,2*Qi m T F c j+f j / 2^s % 2=Qi m T (λj=>f j / 2^s) (λi=>2*c i) j:=λj=>by
     have:=QqZ (m:=m) (T:=T) (f:=F) (c:=c) (b:=λj=>f j / 2^s % 2) j;rw[← this];exact(QaT j (e2 j).symm λ_ _=>rfl).symm
    refine run_seq (Qz (r:=reT (Qb m (Qi m T (λj=>f j / 2^s) (λi=>2*c i)))) ?_ ?_)
    ·have e:=QA (fi:=Qaz (Qr (Qg 5) (dC (.int 0))) (Qg 1)) (t:= .tp [1,2]) (cap:=[none,none,none,some 7]) (fe:=QE (QZ (dC (.int 2)) (Qg 1)) (dOp Q9 (dOp QoD (Qg 2) (Qg 3)) (dC (.int 2)))) (U:=[slF (QI m R L),slF (Qb m f),slT (Qc m m T),j3,j4,some (QeK m T F c,true),slI top,slI s])
      (List.range m) (QaG rfl rfl rfl rfl) rfl λj hj=>
       ⟨[none,slI (Qi m T F c j),slI (f j),slI s],rfl,_,QY (Q5 rfl rfl rfl rfl (QbP (by decide))) rfl (Q7 (Qz8 rfl rfl rfl rfl) rfl rfl rfl (by decide)) rfl,rfl,rfl⟩
     refine e.trans ?_;congr 2;show D.lst _=D.lst _;congr 1;refine ZD λj _=>?_;rw[erow]
    ·rw[Qae];refine run_seq (Qz (r:=reT (Qb m (λi=>2*c i))) ?_ ?_)
     ·exact QA (List.range m) (QW rfl rfl) rfl λj hj=>⟨[none,slI (c j)],rfl,_,Q5 rfl rfl rfl rfl (QbP (by decide)),rfl,rfl⟩
     ·rw[Qae];obtain⟨d2,hd2,ed2⟩:=hc.leg.QyS (λj=>f j / 2^s % 2) (λj=>ZA _ (by decide));have hleg:Leg m T (λj=>f j / 2^s) (λi=>2*c i):=(hd2.cast ed2).Qof λj _=>e2 j;have hpos:∀j,j<m->0<=Qi m T (λj=>f j / 2^s) (λi=>2*c i) j:=λj hj=>by
       rw[← erow];have:=hc.pos j hj;have:=ZA (f j / 2^s) (by decide:(2:Int)≠0);omega
      obtain⟨k',h1,h2,h3,h4⟩:=hs m T _ _ hm tp hleg hpos;refine run_seq (Qz (Ql rfl h1 rfl) (Qt ?_));rw[Qae];exact⟨k',_,_,_,⟨h2,h3,h4⟩,rfl⟩
   ·rintro U ⟨c,j3,j4,j7,hc,rfl⟩;rw[Zu,Nat.sub_self]at *;have e:∀j,j<m->f j / 2^0=f j:=λj _=>by rw[Int.pow_zero,Int.ediv_one]
    exact⟨c,_,_,_,Qk2 e hc,by rw[Qj1 e]⟩
  ·rintro U ⟨c,j3,j4,j7,hc,rfl⟩;exact Qy rfl ⟨c,rfl,rfl,hc⟩
 obtain⟨o,h1,h2⟩:=key;cases o with
 | rt d fr=>
  obtain⟨c,rfl,rfl,h3⟩:=h2;exact⟨c,by unfold Qx;rw[h1];rfl,h3⟩
 | _=>exact h2.elim
theorem Qta{x:Nat}{W:List (Int×Int×Bool)}{U:En}{b:Bool}(h:U[x]? =some (some (Qaf W,b))):Qoz (Qg x) (Qh6 (dC (.int 1))) U=some (reT (Qaf W.reverse)):=by
 unfold Qoz;rw[QbD h,Za];have e:(if(Qaf W).flat=true then HS.R.mk (Qaf W) true []else if b=true then HS.R.mk (Qaf W) true [x]else HS.R.mk (Qaf W) false []).d=Qaf W:=by cases b<;>rfl
 rw[e];show some (Qa0 (W.map Qdd).reverse _)=_;rw[← List.map_reverse];unfold Qa0;rw[if_pos (QrG _)];rfl
theorem Qwr{m:Nat}{t kind:Int}:Esc m (Qcm m t kind):=λA Z=>by
 obtain⟨p,hp,hA⟩:=Z;have ex:∃j:Nat,j<m/\A (((j:Int)+t) % m).toNat:=by
  have h1:=ZA ((p:Int)-t) (by omega:(m:Int)≠0);have h2:=Zz ((p:Int)-t) (by omega:(0:Int)<m);refine⟨(((p:Int)-t) % m).toNat,⋯,?_⟩;have e:(((((p:Int)-t) % m).toNat:Int)+t) % m=p:=by
   rw[Int.toNat_of_nonneg h1,Int.emod_add_emod,ZaG];exact Zbd ⋯ ⋯
  rw[e,ZP];exact hA
 obtain⟨j,⟨hj,hAj⟩,hmin⟩:=Qp2 ex;have s1:=ZA ((j:Int)+t) (by omega:(m:Int)≠0);have s2:=Zz ((j:Int)+t) (by omega:(0:Int)<m);refine⟨Qfj m t kind j,ZL.mpr ⟨j,Zf.mpr hj,rfl⟩,?_,hAj,?_⟩
 ·exact s2
 ·show QfF m t j=m∨¬A (QfF m t j).toNat
  unfold QfF;split
  ·rename_i h;have n1:=ZA (QbF t j) (by omega:(j:Int)+1≠0);right;intro z;refine hmin (QbF t j % ((j:Int)+1)).toNat ⋯ ⟨⋯,?_⟩;rw[Int.toNat_of_nonneg n1];exact z
  ·exact .inl rfl
theorem Qx7{a:Int}{k:Nat}{U:En}(h1:a.natAbs<2^200)(h2:k<=1000):dOp Qry (dC (.int a)) (dC (.int k)) U=some (reI (a^k)):=by
 refine Qag (ra:=reI a) (rb:=reI k) rfl rfl ?_;show(if 0<=(k:Int)/\(k:Int)<=1000/\a.natAbs<2^200 then some (D.int (a^(k:Int).toNat))else none)=_;rw[if_pos ⟨⋯,⋯,h1⟩,ZP]
theorem QuA:((List.range i).map λk=>D.int (g k))++[.int v]=(List.range (i+1)).map λk=>D.int (up g i v k):=by
 rw[Zbp,ZaC];congr 1
 ·refine ZD λk hk=>?_;have:=Zf.mp hk;unfold up;rw[if_neg ⋯]
 ·show _=[D.int (up g i v i)];unfold up;rw[if_pos rfl]
theorem Qp3(hx:U[x]? =some (slT (Qb i g)))(ha:fa U=some r)(e:r.d= .int v)(hl:i<16777216)(q:Q (.nx (U.set x (slT (Qb (i+1) (up g i v)))))):Run (QgD x Qap fa) U Q:=by
 refine QqJ (xs:=(List.range i).map λk=>D.int (g k)) hx ha (by rw[e];rfl) (by simpa using hl) ?_;rw[e,QuA];exact q
theorem QbO{m:Nat}(h:fa U=some r)(e:r.d=Qb m f):dBf Q2 (Qa fa Qe) U=some (reI m):=by
 rw[Qcx h e];simp
theorem QoP(h:fs U=some rs)(hl:rs.ds.length<=64):Qad fs U=some ⟨.lst rs.ds,rs.fr,rs.M⟩:=by
 unfold Qad;rw[h,Za,if_pos hl]
theorem QdH(n m:Nat)(f:Mt1):(Qb m f).sim (n+1)=true:=by
 unfold Qb;simp only[D.sim,List.all_map,ZaF];intro p _;cases n<;>rfl
theorem Qtl(h:∀i,i<m->∀j,j<n->f i j=g i j):Qc m n f=Qc m n g:=by
 unfold Qc Qb;congr 1;refine ZD λi hi=>?_;congr 1;refine ZD λj hj=>?_;rw[h i (Zf.mp hi) j (Zf.mp hj)]
theorem Qc6{fa fb:DE}{U:En}{ra rb:R}{m n:Nat}{f:Mt2}{i:Int}(ha:fa U=some ra)(ea:ra.d=Qc m n f)(hb:fb U=some rb)(eb:rb.d= .int i)(h0:0<=i)(h:i<m):Qr fa fb U=some ⟨Qb n (f i.toNat),ra.fr,ra.M⟩:=by
 unfold Qr;rw[ha,Za,hb,Za,ea,eb];simp only[Qc,D.items,Za,QmC h0 h,ZV];rfl
theorem QoR{x m n:Nat}{f:Mt2}{fp fi fa:DE}{U:En}{i j v:Int}{rp ri ra:R}{Q:Out->Prop}(hx:U[x]? =some (slT (Qc m n f)))(hp:fp U=some rp)(ep:rp.d= .int i)(hi:fi U=some ri)(ei:ri.d= .int j)(ha:fa U=some ra)(ea:ra.d= .int v)
  (h0:0<=i) (h:i<m) (k0:0<=j) (k:j<n) (q:Q (.nx (U.set x (slT (Qc m n (up2 f i.toNat j.toNat v)))))):Run (QbL x (Qb3 Qap fp) fi fa) U Q:=by
 refine⟨_,?_,q⟩;have hn:ra.norm=(reI v):=by unfold HS.R.norm;rw[ea];rfl
 have hd:Qbh (Qc m n f) [i]=some (Qb n (f i.toNat)):=by
  simp only[Qbh,Qc,D.items,Za,QmC h0 h]
 have hu:Qbk [i] (Qc m n f) (.lst (((List.range n).map λk=>D.int (f i.toNat k)).set j.toNat (.int v)))=Qc m n (up2 f i.toNat j.toNat v):=by
  simp only[Qbk,Qc,Zn,Zu,Qby h0 h,QjN];rw[Qfe];congr 2;funext k;unfold up2;split
  ·rename_i e;subst e;rfl
  ·rfl
 unfold QbL;rw[ha,Za,hx];simp only[Qb3,Qap,Za,hp,ep,ZbL,hi,ei,hd,Qb,Zn,Zu,Qby k0 k,hn,ea];simp only[kill,List.contains_nil,Bool.not_false,Zcr,decide_true,ZaX,if_true];rw[hu]
noncomputable def QmG:DS:=(Qd (Qo 1 (QE (Qr (Qg 0) (dC (.int 0))) (dC (.int 1)))) (Qd (Qo 2 (QF (QaH (Qg 1)) (.nm 1) [none,none,some 1] QN (QZ (Qad (Qa (dC (.int 0)) Qe)) (Qg 2)))) (Qd (Qo 5 (QE (Qr (Qg 0) (dC (.int 1))) (QF (QX (Qr (Qg 0) (dC (.int 1)))) (.tp [1,2]) [none,none,none] QN (QaO (Qa (Qg 2) (Qa (Qg 1) Qe)))))) (Qd (QaV (QX (QE (Qg 5) (Qr (Qg 0) (dC (.int 2))))) (.tp [3,4]) (Qd (QbL 2 (Qb3 Qap (Qg 3)) (Qg 3) (dOp Qax (Qr (Qr (Qg 2) (Qg 3)) (Qg 3)) (dC (.int 1)))) (Qd (QbL 2 (Qb3 Qap (Qg 3)) (Qg 4) (QE (Qr (Qr (Qg 2) (Qg 3)) (Qg 4)) (dC (.int 1)))) Qm))) (Qd (QM (QF (QX (QbX (Qg 2) Qa9 (Qba (Qr (Qg 0) (dC (.int 0)))))) (.nm 1) [none,none,some 0] QN (QbX (Qg 1) Qa9 (Qba (Qr (Qg 2) (dC (.int 0))))))) Qm)))))
theorem Qt3{m n k:Nat}{f:Mt2}(h:n<=m):cutD ((List.range m).map λi=>Qb k (f i)) none (some (n:Int))=(List.range n).map λi=>Qb k (f i):=by
 unfold cutD;simp only[Zn,Zu,HT.Qkd,HT.QmO,List.drop_zero,Zci,Zbo h];rw[← Zcq,List.take_range,Zbo h]
def TabsOk(d:Den):Prop:=∀(m:Nat) (R L:Lpp),0<m->m<=1000->R.length+R.length+L.length<=1000000->(∀s∈R,Good m s)->(∀s∈L,Good m s)->d [QI m R L]=some (Qc m m (Qs m (Qp R L)),true)
theorem Qx4:TabsOk (Qx 6 QmG):=λm R L m0 hm hl hR hL=>by
 have gS:=Qcl hR hL;have it:∀{U:En},U[0]? =some (slF (QI m R L))->Qg 0 U=some (reF (QI m R L)):=λh=>QbD h;have fin:Qc m m (Qs (m+1) (Qp R L))=Qc m m (Qs m (Qp R L)):=Qtl λi hi j hj=>by
  rw[Qcp (m:=m+1) ⋯ ⋯ λs hs=>⟨(gS s hs).1,(gS s hs).2.1⟩,Qcp hi hj λs hs=>⟨(gS s hs).1,(gS s hs).2.1⟩]
 rw[← fin];refine QR ?_;refine rsa (QY (a:=(m:Int)) (b:=1) (QdF (it rfl) rfl).1 rfl rfl rfl) ?_;refine rsa (QA (out:=λ_=>Qb (m+1) λ_=>0) (List.range (m+1)) (QaR (n:=m+1) (r:=reI (m+1:Nat)) rfl rfl ⋯) rfl λx _=>⟨[none,slI x,slI (m+1:Nat)],rfl,_,QeY (n:=m+1) (r:=reI (m+1:Nat)) rfl rfl ⋯,rfl,rfl⟩) ?_;refine run_seq (Qz (QjK (A:=R) (B:=R.map Prod.swap) (rb:=reT (Q8 (R.map Prod.swap))) (QdF (it rfl) rfl).2.1 rfl ?_ rfl (by simp;omega)) ?_)
 ·have e1:(R.map λx=>pairD x.swap)=(R.map Prod.swap).map pairD:=by simp[Zam,Function.comp_def]
  unfold Q8;rw[← e1];exact QA (toD:=pairD) (out:=λx=>pairD x.swap) R (QW (QdF (it rfl) rfl).2.1 rfl) rfl λx _=>⟨[none,slI x.1,slI x.2],rfl,⟨pairD x.swap,true,[]⟩,rfl,rfl,rfl⟩
 rw[Qae];refine Qbl (P:=λU=>∃j3 j4,U=[slF (QI m R L),slI (m+1:Nat),slT (Qc (m+1) (m+1) (Qs (m+1) (Qp R L))),j3,j4,slT (Q8 (R++R.map Prod.swap))]) ?_ ?_
 ·refine Qay (toD:=pairD) (Qp R L) (λi U=>∃j3 j4,U=[slF (QI m R L),slI (m+1:Nat),slT (Qc (m+1) (m+1) (Qs (m+1) ((Qp R L).take i))),j3,j4,slT (Q8 (R++R.map Prod.swap))]) (ir:=⟨(Qp R L).map pairD,[]⟩) ?_ rfl ⟨none,none,rfl⟩ ?_ ?_
  ·exact QW (QjK (A:=R++R.map Prod.swap) (B:=L) (ra:=⟨Q8 (R++R.map Prod.swap),true,[5]⟩) rfl rfl (QdF (it rfl) rfl).2.2 rfl (by simp;omega)) rfl
  ·rintro i s U hi ⟨j3,j4,rfl⟩;obtain⟨s1,s2,s3,s4,s5⟩:=gS s (Zax hi);have c1:s.1<((m+1:Nat):Int):= ⋯
   have c2:s.2<((m+1:Nat):Int):= ⋯
   refine⟨_,rfl,?_⟩;have step:Qs (m+1) ((Qp R L).take (i+1))=stepT (m+1) (Qs (m+1) ((Qp R L).take i)) s:=by
    unfold Qs;rw[List.take_add_one,hi,List.foldl_append];rfl
   have e1:∀{U:En}{f:Mt2}(y:Nat) (k:Int),U[2]? =some (slT (Qc (m+1) (m+1) f))->U[3]? =some (slI s.1)->U[y]? =some (slI k)->0<=k->k<((m+1:Nat):Int)->Qr (Qr (Qg 2) (Qg 3)) (Qg y) U=some (reI (f s.1.toNat k.toNat)):=λ{U f} y k h2 h3 hy k0 kl=>
    Qji (Qc6 (QbD h2) rfl (Qpu h3) rfl s1 c1) rfl (Qpu hy) rfl k0 kl
   refine run_seq (QoR (i:=s.1) (j:=s.1) (m:=m+1) (n:=m+1) rfl rfl rfl rfl rfl (Qag (e1 3 s.1 rfl rfl rfl s1 c1) rfl rfl) rfl s1 c1 s1 c1 ?_);refine run_seq (QoR (i:=s.1) (j:=s.2) (m:=m+1) (n:=m+1) rfl rfl rfl rfl rfl (QY (e1 4 s.2 rfl rfl rfl s2 c2) rfl (Qbo (.int 1) _) rfl) rfl s1 c1 s2 c2 (Qt ⟨slI s.1,slI s.2,?_⟩));rw[step];unfold stepT;rw[if_pos ⟨c1,c2⟩,if_pos c1];rfl
  ·rintro U ⟨j3,j4,rfl⟩;rw[Zce];exact⟨j3,j4,rfl⟩
 rintro U ⟨j3,j4,rfl⟩;refine Qy (QA (toD:=λ(i:Nat)=>Qb (m+1) (Qs (m+1) (Qp R L) i)) (out:=λ(i:Nat)=>Qb m (Qs (m+1) (Qp R L) i)) (ir:=⟨(List.range m).map λi=>Qb (m+1) (Qs (m+1) (Qp R L) i),[2]⟩) (List.range m) ?_ rfl λi hi=>⟨[none,slF (Qb (m+1) (Qs (m+1) (Qp R L) i)),slF (QI m R L)],rfl,_,Qjm (m:=m+1) (n:=m) (ra:=reF (Qb (m+1) (Qs (m+1) (Qp R L) i))) rfl rfl (QdF (r:=reF (QI m R L)) rfl rfl).1 rfl ⋯,rfl,rfl⟩) ⟨rfl,rfl⟩;refine QW (r:=⟨.lst ((List.range m).map λi=>Qb (m+1) (Qs (m+1) (Qp R L) i)),false,[2]⟩) ?_ rfl;unfold QbX Qa9 Qba;rw[QbD (d:=Qc (m+1) (m+1) (Qs (m+1) (Qp R L))) (b:=true) rfl,(QdF (it rfl) rfl).1];show some (Qa0 (cutD ((List.range (m+1)).map λi=>Qb (m+1) (Qs (m+1) (Qp R L) i)) none (some (m:Int))) [2])=_;rw[Qt3 ⋯];unfold Qa0;have:Qak ((List.range m).map λi=>Qb (m+1) (Qs (m+1) (Qp R L) i))=false:=by
  cases m with
  | zero=>omega
  | succ m=>rw[Zbz];rfl
 rw[this];rfl
noncomputable def QrR:Option Int->D
 | none=> .non
 | some i=> .int i
@[simp] theorem QvX(o:Option Int):(QrR o).flat=true:=by cases o<;>rfl
noncomputable def QCO(m:Nat)(F:Nat->Option Int):D:= .lst ((List.range m).map λi=>QrR (F i))
@[simp] theorem QCN(m:Nat)(F:Nat->Option Int):(QCO m F).flat=false:=rfl
@[simp] theorem QB1(m:Nat)(F:Nat->Option Int):Qak ((List.range m).map λi=>QrR (F i))=true:=QbV (f:=λi=>QrR (F i)) (λ_=>QvX _) _
theorem QnZ{fa fb:DE}{U:En}{ra rb:R}{i j:Int}{n:Nat}(ha:fa U=some ra)(ea:ra.d= .int i)(hb:fb U=some rb)(eb:rb.d= .int j)(hn:(n:Int)=j-i)(hl:n<=16777216)(h1: -(2^62)<=i)(h2:i<2^61):Qei fa fb U=some ⟨(List.range n).map λ(k:Nat)=> .int (i+k),[]⟩:=by
 unfold Qei;rw[ha,Za,hb,Za,ea,eb];show(if j-i<=16777216/\_ then _ else _)=_;rw[if_pos ⟨⋯,⋯,⋯,⋯,⋯⟩,show(j-i).toNat=n by omega];rfl
theorem Leg.mono(h:Leg m T f c)(e:∀i,i<m->f i<=g i):Leg m T g c:=by
 induction h with
 | nil=>exact .nil
 | @step c p t _ hp ht hle ih=>
  refine .step ih hp ht ?_;have:=e p hp;unfold Qi at hle ⊢;omega
theorem Qo0(j:Nat):Qi m T (Qi m T f c) d j=Qi m T f (λi=>c i+d i) j:=by
 unfold Qi;have e:(λi=>(c i+d i)*T i j)=λi=>c i*T i j+d i*T i j:=by funext i;rw[ZM]
 rw[e,Qam];show f j+Qn m (λi=>c i*T i j)+_=_;omega
theorem Leg.trans(h:Leg m T f c)(h2:Leg m T (Qi m T f c) d):Leg m T f (λi=>c i+d i):=by
 induction h2 with
 | nil=>exact h.cast λi=>by simp
 | @step d p t _ hp ht hle ih=>
  rw[Qo0]at hle;refine(Leg.step ih hp ht hle).cast λi=>?_;unfold up;split
  ·rename_i e;subst e;show c i+d i+t=c i+(d i+t);omega
  ·rfl
theorem Told.lay(hC:Told m T F C)(hF:∀j,j<m->F j<=F' j)(hh:∀j,j<m->h j=Qi m T F C j+(F' j-F j))(hc:Told m T h c):Told m T F' (λi=>C i+c i)/\∀j,j<m->Qi m T h c j=Qi m T F' (λi=>C i+c i) j:=by
 have e1:∀j,j<m->h j=Qi m T F' C j:=λj hj=>by
  rw[hh j hj];unfold Qi;omega
 have e2:∀j,j<m->Qi m T h c j=Qi m T F' (λi=>C i+c i) j:=λj hj=>by
  rw[← Qo0];exact QaT j (e1 j hj) λ_ _=>rfl
 exact⟨⟨(hC.leg.mono hF).trans (hc.leg.Qof e1),λj hj=>by rw[← e2 j hj];exact hc.pos j hj,λj hj=>by rw[← e2 j hj];exact hc.stb j hj⟩,e2⟩
theorem Told.one(tp:TP m T)(h:Told m T f c)(g:Told m T f d):∀i,i<m->c i=d i:=h.leg.unique tp g.leg h.stb g.stb
abbrev QaA(i:Int):Prop:=Builtin.Int.intBits i<=2^20
theorem QhB(h:i.natAbs<2^300):QaA i:=Zt (Zbr h) (by decide)
noncomputable def Qvo:DS:=(Qd (QM (QF (QX vv0) (.nm 1) [none,none,some 1] QN (Qr vv1 vv2))) Qm)
def Qgd(d:Den):Prop:=∀(n m:Nat) (f:Mt2) (j:Nat),j<m->d [Qc n m f,.int j]=some (Qb n (λi=>f i j),true)
theorem Qt5:Qgd (Qx 2 Qvo):=λn m f j hj=>
 QR (Qy (QA (List.range n) (QW rfl rfl) rfl λi _=>⟨_,rfl,reI (f i j),Q6 rfl rfl rfl rfl hj,rfl,rfl⟩) ⟨rfl,rfl⟩)
noncomputable def QuD(Qcn:Den):DS:=(Qd (QM (QF (QaH (dBf Q2 (Qa vv0 Qe))) (.nm 1) [none,none,some 0] QN (Qh 2 Qcn [] (Qa vv2 (Qa vv1 Qe))))) Qm)
theorem Qdz{n:Nat}(h:fa U=some r)(e:r.d=Qc n m f):dBf Q2 (Qa fa Qe) U=some (reI n):=by
 rw[Qcx h e];simp
def QcJ(d:Den):Prop:=∀(n:Nat) (f:Mt2),n<=1000->d [Qc n n f]=some (Qc n n (λj i=>f i j),true)
theorem Qun(hc:Qgd dc):QcJ (Qx 1 (QuD dc)):=λn f hn=>
 QR (Qy (QA (List.range n) (QaR (Qdz rfl rfl) rfl ⋯) rfl λj hj=>⟨[none,slI j,slF (Qc n n f)],rfl,reT (Qb n (λi=>f i j)),Ql rfl (hc n n f j (Zf.mp hj)) rfl,rfl,rfl⟩) ⟨rfl,rfl⟩)
noncomputable def Qv4:DS:=(Qd (QM (dBf Qjl (Qa (QF (Qaz vv0 vv1) (.tp [1,2]) [none,none,none] QN (QZ vv1 vv2)) Qe))) Qm)
def Qky(d:Den):Prop:=∀(n:Nat) (a b:Mt1),(∀i,i<n->QaA (a i)/\QaA (b i))->d [Qb n a,Qb n b]=some (.int (Qn n λi=>a i*b i),true)
theorem QtO:Qky (Qx 2 Qv4):=λn a b hb=>
 QR (Qy (Qxv (QA (List.range n) (QaG rfl rfl rfl rfl) rfl λi hi=>⟨[none,slI (a i),slI (b i)],rfl,reI (a i*b i),Q5 rfl rfl rfl rfl (QdG (hb i (Zf.mp hi)).1 (hb i (Zf.mp hi)).2),rfl,rfl⟩) rfl) ⟨rfl,rfl⟩)
noncomputable def QtD(QhI:Den):DS:=(Qd (QM (QF (QX vv1) (.nm 1) [none,none,some 0] QN (Qh 2 QhI [] (Qa vv2 (Qa vv1 Qe))))) Qm)
def QfZ(d:Den):Prop:=∀(n k:Nat) (a:Mt1) (f:Mt2),(∀i,i<n->QaA (a i))->(∀j i,j<k->i<n->QaA (f j i))->d [Qb n a,Qc k n f]=some (Qb k (λj=>Qn n λi=>a i*f j i),true)
theorem Qtp(hs:Qky ds):QfZ (Qx 2 (QtD ds)):=λn k a f ha hf=>
 QR (Qy (QA (List.range k) (QW rfl rfl) rfl λj hj=>⟨_,rfl,reI (Qn n λi=>a i*f j i),Ql rfl (hs n a (f j) λi hi=>⟨ha i hi,hf j i (Zf.mp hj) hi⟩) rfl,rfl,rfl⟩) ⟨rfl,rfl⟩)
noncomputable def Qs3(Qat:Den)(QaZ:Den):DS:=(Qd (Qo 2 (Qh 1 Qat [] (Qa vv1 Qe))) (Qd (QM (QF (QX vv0) (.nm 1) [none,none,some 2] QN (Qh 2 QaZ [] (Qa vv1 (Qa vv2 Qe))))) Qm))
noncomputable def prodF(n:Nat)(f g:Mt2):Nat->Nat->Int:=λi j=>Qn n λk=>f i k*g k j
def Qse(n:Nat)(f:Mt2):Prop:=∀i j,i<n->j<n->QaA (f i j)
def Qgu(d:Den):Prop:=∀(n:Nat) (f g:Mt2),n<=1000->Qse n f->Qse n g->d [Qc n n f,Qc n n g]=some (Qc n n (prodF n f g),true)
theorem Qsc(ht:QcJ dt)(hl:QfZ dl):Qgu (Qx 3 (Qs3 dt dl)):=λn f g hn hf hg=>by
 refine QR ?_;refine rsa (Ql rfl (ht n g hn) rfl) ?_;refine Qy (QA (List.range n) (QW rfl rfl) rfl λi hi=>⟨_,rfl,reT (Qb n (prodF n f g i)),Ql rfl (hl n n (f i) (λj i=>g i j) (λk hk=>hf i k (Zf.mp hi) hk) (λj k hj hk=>hg k j hk hj)) rfl,rfl,rfl⟩) ⟨rfl,rfl⟩
noncomputable def Qku(QdS:Den):DS:=(Qd (sIf (bOr (Qcv (QB (QmX "list" vv0))) (QB (dOp gNe (dBf Q2 (Qa vv0 Qe)) vv1))) (Qd (QM (dC (.bl false))) Qm) Qm) (Qd (QM (dOp gEq (dBf Q2 (Qa (QF (QX vv0) (.nm 1) [none,none] (QB (Qh 1 QdS [] (Qa vv1 Qe))) vv1) Qe)) vv1)) Qm))
def QlO(d:Den):Prop:=∀(n:Nat) (a:Mt1),d [Qb n a,.int n]=some (.bl true,true)
theorem Qxc(hw:Ql2 dw):QlO (Qx 2 (Qku dw)):=λn a=>by
 refine QR ?_;refine QC (QU (QbA (QbQ (b:=true) (QH rfl rfl)) (QH (r:=reT (.bl false)) ((Qcy (QbO rfl rfl) rfl rfl rfl).trans (by simp)) rfl)) (λh=>by cases h) (λ_=>Qt ?_));have ec:=QcC (fi:=QX (Qg 0)) (t:= .nm 1) (cap:=[none,none]) (ft:=QB (Qh 1 dw [] (Qa (Qg 1) Qe))) (fe:=Qg 1) (U:=[slF (Qb n a),slI n]) (List.range n) (QW rfl rfl) rfl λi _=>⟨[none,slI (a i)],rfl,QH (Ql rfl (hw (a i)) rfl) rfl,λ_=>⟨(reI (a i)),rfl,rfl,rfl⟩⟩;have el:=Qcx ec rfl;rw[Zn,ZbP.mpr λ_ _=>rfl,Zu]at el;exact Qy (r:=reT (.bl true)) ((QaY el rfl rfl rfl).trans (by simp)) ⟨rfl,rfl⟩
noncomputable def QgO:DS:=(Qd (sIf (QB (dOp gLt vv1 (dBf Q2 (Qa vv0 Qe)))) (Qd (QM (Qr vv0 vv1)) Qm) Qm) (Qd (Qo 2 (QE (QZ Qtr vv1) kk5)) (Qd (sIf (QB (dOp gGt (dBf Q2 (Qa vv0 Qe)) kk0)) (Qd (Qo 2 (dOp Q9 (QE (QZ (Qr vv0 (dOp Q9 vv1 (dBf Q2 (Qa vv0 Qe)))) QjA) (QZ vv1 Qtr)) QfO)) Qm) Qm) (Qd (QM (dOp Q9 (QZ vv2 vv2) Qo5)) Qm))))
def QjJ(d:Den):Prop:=∀ns:List Int,ns.length<=63->(∀k,QaA (ns.getD k 0))->∃F:Nat->Int,∀k:Nat,k<=1000->d [.lst (ns.map .int),.int k]=some (.int (F k),true)/\QaA (F k)
set_option exponentiation.threshold 400 in
theorem Qwl:QjJ (Qx 3 QgO):=λns hl hb=>by
 have key:∀k:Nat,k<=1000->∃v,Qx 3 QgO [.lst (ns.map .int),.int k]=slI v/\QaA v:=λk hk=>by
  have elen:∀(U:En),U[0]? =some (slF (.lst (ns.map .int)))->dBf Q2 (Qa (Qg 0) Qe) U=some (reI ns.length):=λU h=>by
   rw[Qcx (QbD h) rfl,Zn]
  have run:Run QgO (Qau 3 [.lst (ns.map .int),.int k]) (Rt λd fr=>∃v,d= .int v/\fr=true/\QaA v):=by
   refine QC (QU (QH (Qag rfl (elen _ rfl) rfl) rfl) (λh=>?_) (λh=>Qt ?_))
   ·have h:=of_decide_eq_true h;obtain⟨c,hc⟩:∃c,ns[k]? =some c:=⟨_,ZaW ⋯⟩;refine QC (Qbg (Qmj rfl rfl rfl rfl ⋯ (by simpa using hc)) ⟨c,rfl,rfl,?_⟩);have:=hb k;rw[ZaA,hc]at this;exact this
   have h:=of_decide_eq_false h;refine rsa (QY (Q5 rfl rfl rfl rfl (QbP (by decide))) rfl rfl rfl) ?_;refine Qbl (P:=λU=>∃v:Int,0<=v/\v<2147483647/\U=[slF (.lst (ns.map .int)),slI k,slI v]) ?_ ?_
   ·refine QU (QH (Qag (elen _ rfl) rfl rfl) rfl) (λh2=>?_) (λh2=>Qt ⟨7919*k+5,⋯,⋯,rfl⟩);have h2:=of_decide_eq_true h2;have x0:=ZA (k:Int) (by omega:(ns.length:Int)≠0);have x1:=Zz (k:Int) h2;obtain⟨c,hc⟩:∃c,ns[((k:Int) % (ns.length:Int)).toNat]? =some c:=⟨_,ZaW ⋯⟩;refine run_seq (Qz (Q7 (QY (Q5 (Qmj rfl rfl (Q7 rfl rfl (elen _ rfl) rfl ⋯) rfl x0 hc) rfl rfl rfl (Qcd (by decide))) rfl (Q5 rfl rfl rfl rfl (Qcd (by decide))) rfl) rfl rfl rfl (by decide)) (Qt ?_));rw[Qae];exact⟨_,ZA _ (by decide),Zz _ (by decide),rfl⟩
   rintro U ⟨v,v0,v1,rfl⟩;have y0:=ZA (v*v) (by decide:(2147483629:Int)≠0);have y1:=Zz (v*v) (by decide:(0:Int)<2147483629);refine Qy (Q7 (Q5 rfl rfl rfl rfl (QbP ⋯)) rfl rfl rfl (by decide)) ⟨v*v % 2147483629,rfl,rfl,QhB (by
    have:(v*v % 2147483629).natAbs<2147483629:= ⋯
    exact Zch this (by decide))⟩
  obtain⟨o,h1,h2⟩:=run;cases o with
  | rt d fr=>
   obtain⟨v,rfl,rfl,h3⟩:=h2;exact⟨v,by unfold Qx;rw[h1];rfl,h3⟩
  | _=>exact h2.elim
 refine⟨λk=>if h:k<=1000 then(key k h).choose else 0,λk hk=>?_⟩;dsimp only;rw[dif_pos hk];exact(key k hk).choose_spec
theorem QfR(ha:fa U=some ra)(ea:ra.d=Qb m f)(hb:fb U=some rb)(eb:rb.d=Qb k g)(hl:m+k<=1000):QE fa fb U=some (reT (Qb (m+k) (λi=>if i<m then f i else g (i-m)))):=by
 have e:Qb (m+k) (λi=>if i<m then f i else g (i-m))= .lst (((List.range m).map λi=>D.int (f i))++((List.range k).map λi=>D.int (g i))):=by
  unfold Qb;rw[List.range_add,ZaC,Zam];congr 2
  ·refine ZD λi hi=>?_;show D.int (if i<m then f i else g (i-m))=_;rw[if_pos (Zf.mp hi)]
  ·refine ZD λi hi=>?_;show D.int (if m+i<m then f (m+i)else g (m+i-m))=_;rw[if_neg ⋯,Nat.add_sub_cancel_left]
 rw[e];unfold QE;rw[ha,Za,hb,Za,ea,eb];simp only[Qb,Zn,Zu,Qjz];rw[if_pos ⋯];unfold Qa0;rw[if_pos];rw[QcM,Zm];exact⟨QbV (λ_=>rfl) _,QbV (λ_=>rfl) _⟩
noncomputable def sm:Nat->(Nat->Int)->Int
 | 0,_=>0
 | n+1,f=>sm n f+f n
theorem Qbn:∀{n:Nat},(∀i,i<n->f i=g i)->sm n f=sm n g
 | 0,_=>rfl
 | n+1,h=>by unfold sm;rw[Qbn λi hi=>h i ⋯,h n ⋯]
theorem Qix(x y:Int)(f g:Mt1):∀n,sm n (λi=>x*f i+y*g i)=x*sm n f+y*sm n g
 | 0=>by simp[sm]
 | n+1=>by
  unfold sm;rw[Qix x y f g n,Zay,Zay];show _+(x*f n+y*g n)=_;omega
theorem QjC:∀{n:Nat},(∀i,i<n->f i=0)->sm n f=0
 | 0,_=>rfl
 | n+1,h=>by unfold sm;rw[QjC λi hi=>h i ⋯,h n ⋯];rfl
theorem Qdf:∀{n:Nat},c<n->(∀i,i<n->i≠c->f i=0)->sm n f=f c
 | 0,hc,_=> ⋯
 | n+1,hc,h=>by
  unfold sm;by_cases e:c=n
  ·rw[QjC λi hi=>h i ⋯ ⋯,e];omega
  ·rw[Qdf (c:=c) ⋯ λi hi=>h i ⋯,h n ⋯ (Ne.symm e)];omega
theorem Qly:∀{n:Nat},c<d->d<n->(∀i,i<n->i≠c->i≠d->f i=0)->sm n f=f c+f d
 | 0,_,hc,_=> ⋯
 | n+1,hcd,hd,h=>by
  unfold sm;by_cases e:d=n
  ·rw[Qdf (c:=c) ⋯ λi hi ne=>h i ⋯ ne ⋯,e]
  ·rw[Qly (c:=c) (d:=d) hcd ⋯ λi hi=>h i ⋯,h n ⋯ ⋯ ⋯];omega
theorem Qnk(x:Int)(f:Mt1):∀n,sm n (λi=>f i*x)=sm n f*x
 | 0=>by simp[sm]
 | n+1=>by unfold sm;rw[Qnk x f n,ZM]
noncomputable def skp(j c:Nat):Nat:=if c<j then c else c+1
noncomputable def sgn(j:Nat):Int:=if j % 2=0 then 1 else-1
theorem QkR(j:Nat):sgn (j+1)= -sgn j:=by
 unfold sgn;by_cases h:j % 2=0
 ·rw[if_pos h,if_neg ⋯]
 ·rw[if_neg h,if_pos ⋯];rfl
noncomputable def det:Nat->(Nat->Nat->Int)->Int
 | 0,_=>1
 | n+1,m=>sm (n+1) λj=>sgn j*m j 0*det n λc r=>m (skp j c) (r+1)
noncomputable def cup(m:Mt2)(c:Nat)(a:Mt1):Nat->Nat->Int:=λj=>if j=c then a else m j
theorem QJ(m:Mt2)(c:Nat)(a:Mt1):cup m c a c=a:=by unfold cup;rw[if_pos rfl]
theorem QD(m:Mt2)(a:Mt1)(h:j≠c):cup m c a j=m j:=by unfold cup;rw[if_neg h]
theorem Qal(m:Mt2)(c:Nat):cup m c (m c)=m:=by
 funext j;by_cases h:j=c
 ·rw[h,QJ]
 ·rw[QD _ _ h]
theorem Qm6(m:Mt2)(c:Nat)(a b:Mt1):cup (cup m c a) c b=cup m c b:=by
 funext j;by_cases h:j=c
 ·rw[h,QJ,QJ]
 ·rw[QD _ _ h,QD _ _ h,QD _ _ h]
theorem Qan(m:Mt2)(a b:Mt1)(h:c≠d):cup (cup m c a) d b=cup (cup m d b) c a:=by
 funext j;by_cases h1:j=c
 ·subst h1;rw[QD _ _ h,QJ,QJ]
 ·by_cases h2:j=d
  ·subst h2;rw[QJ,QD _ _ h1,QJ]
  ·rw[QD _ _ h2,QD _ _ h1,QD _ _ h1,QD _ _ h2]
theorem Q3:∀{n:Nat}{m k:Mt2},(∀j,j<n->∀r,r<n->m j r=k j r)->det n m=det n k
 | 0,_,_,_=>rfl
 | n+1,m,k,h=>by
  unfold det;refine Qbn λj hj=>?_;rw[h j hj 0 ⋯,Q3 (n:=n) (m:=λc r=>m (skp j c) (r+1)) (k:=λc r=>k (skp j c) (r+1)) λc hc r hr=>h _ (by unfold skp;split<;>omega) _ ⋯]
theorem Qir(m:Mt2)(c:Nat)(v:Mt1):(λc' r=>cup m c v (skp c c') (r+1))=λc' r=>m (skp c c') (r+1):=by
 funext c' r;rw[QD _ _ (by unfold skp;split<;>omega)]
theorem QhC(m:Mt2)(v:Mt1)(h:c≠j):(λc' r=>cup m c v (skp j c') (r+1))=cup (λc' r=>m (skp j c') (r+1)) (if c<j then c else c-1) (λr=>v (r+1)):=by
 funext c' r;by_cases e:c'=if c<j then c else c-1
 ·rw[e,QJ];have:skp j (if c<j then c else c-1)=c:=by
   unfold skp;by_cases q:c<j
   ·rw[if_pos q,if_pos q]
   ·rw[if_neg q,if_neg ⋯];omega
  rw[this,QJ]
 ·rw[QD _ _ e,QD];intro z;refine e ?_;unfold skp at z;by_cases q:c'<j
  ·rw[if_pos q]at z;rw[if_pos ⋯];omega
  ·rw[if_neg q]at z;rw[if_neg ⋯];omega
theorem Qhd(x y:Int)(a b:Mt1):∀(n:Nat) (m:Mt2) (c:Nat),c<n->∀(a b:Mt1),det n (cup m c λr=>x*a r+y*b r)=x*det n (cup m c a)+y*det n (cup m c b)
 | 0,_,_,h,_,_=> ⋯
 | n+1,m,c,h,a,b=>by
  unfold det;rw[← Qix];refine Qbn λj hj=>?_;by_cases e:j=c
  ·subst e;rw[Qir,Qir,Qir,QJ,QJ,QJ];generalize det n _=q;generalize sgn j=s;simp only[Zay,ZM,ZE,ZO]
  ·rw[QhC m _ (Ne.symm e),QhC m _ (Ne.symm e),QhC m _ (Ne.symm e),QD _ _ e,QD _ _ e,QD _ _ e,Qhd x y a b n _ _ (by split<;>omega)];generalize det n _=q;generalize det n _=q';generalize sgn j*m j 0=s;simp only[Zay,ZO]
theorem QjB(h:c<n)(a b:Mt1):det n (cup m c λr=>a r+b r)=det n (cup m c a)+det n (cup m c b):=by
 have:=Qhd 1 1 a b n m c h a b;simpa only[ZQ]using this
theorem Qfv(h:c<n)(x:Int)(a:Mt1):det n (cup m c λr=>x*a r)=x*det n (cup m c a):=by
 have:=Qhd x 0 a a n m c h a a;simpa only[ZF,ZbA]using this
theorem Qjq:∀(n:Nat) (m:Mt2) (c:Nat),c+1<n->m c=m (c+1)->det n m=0
 | 0,_,_,h,_=> ⋯
 | n+1,m,c,h,e=>by
  unfold det;rw[Qly (c:=c) (d:=c+1) ⋯ h]
  ·have:(λc' r=>m (skp c c') (r+1))=λc' r=>m (skp (c+1) c') (r+1):=by
    funext c' r;unfold skp;by_cases q:c'<c
    ·rw[if_pos q,if_pos ⋯]
    ·rw[if_neg q];by_cases q2:c'=c
     ·rw[if_pos ⋯,q2,e]
     ·rw[if_neg ⋯]
   rw[this,QkR,e];generalize det n _=q;rw[Zad,Zad];omega
  ·intro j hj h1 h2;have:det n (λc' r=>m (skp j c') (r+1))=0:=by
    by_cases q:c<j
    ·refine Qjq n _ c ⋯ ?_;funext r;show m (skp j c) (r+1)=m (skp j (c+1)) (r+1);unfold skp;rw[if_pos q,if_pos ⋯,e]
    ·refine Qjq n _ (c-1) ⋯ ?_;funext r;show m (skp j (c-1)) (r+1)=m (skp j (c-1+1)) (r+1);unfold skp;rw[if_neg ⋯,if_neg ⋯,show c-1+1=c by omega,e]
   rw[this,ZI]
theorem QjU(hc:c<n)(hd:d<n)(hcd:c≠d)(hz:∀k:Nat->Nat->Int,k c=k d->det n k=0)(a b:Mt1):det n (cup (cup m c a) d b)= -det n (cup (cup m c b) d a):=by
 have z:=hz (cup (cup m c λr=>a r+b r) d λr=>a r+b r) (by rw[QJ,QD _ _ hcd,QJ]);have za:=hz (cup (cup m c a) d a) (by rw[QJ,QD _ _ hcd,QJ]);have zb:=hz (cup (cup m c b) d b) (by rw[QJ,QD _ _ hcd,QJ]);rw[QjB hd,Qan _ _ _ hcd,QjB hc,Qan _ _ _ hcd,QjB hc,Qan _ _ _ (Ne.symm hcd),Qan _ _ _ (Ne.symm hcd),Qan _ _ _ (Ne.symm hcd),Qan _ _ _ (Ne.symm hcd),za,zb]at z;omega
theorem QmK:∀(g n:Nat) (m:Mt2) (i:Nat),i+g+1<n->m i=m (i+g+1)->det n m=0
 | 0,n,m,i,h,e=>Qjq n m i h e
 | g+1,n,m,i,h,e=>by
  have:=QjU (m:=m) (c:=i+g+1) ⋯ ⋯ ⋯ (λk hk=>Qjq n k _ ⋯ hk) (m (i+g+1)) (m (i+g+1+1));rw[Qal,Qal]at this;rw[this,QmK g n _ i ⋯]
  ·rfl
  ·rw[QD _ _ ⋯,QD _ _ ⋯,QD _ _ ⋯,QJ];exact e
theorem QeZ(hi:i<n)(hj:j<n)(hij:i≠j)(e:m i=m j):det n m=0:=by
 rcases Nat.lt_or_gt_of_ne hij with h | h
 ·exact QmK (j-i-1) n m i ⋯ (by rw[show i+(j-i-1)+1=j by omega];exact e)
 ·exact QmK (i-j-1) n m j ⋯ (by rw[show j+(i-j-1)+1=i by omega];exact e.symm)
theorem Qdw(hc:c<n)(hd:d<n)(hcd:c≠d)(a b:Mt1):det n (cup (cup m c a) d b)= -det n (cup (cup m c b) d a):=QjU hc hd hcd (λk hk=>QeZ hc hd hcd hk) a b
theorem QdD(h:c<n)(x:Mt1)(E:Mt2):∀k,det n (cup m c λr=>sm k λs=>x s*E s r)=sm k λs=>x s*det n (cup m c (E s))
 | 0=>by
  have:=Qfv (m:=m) h 0 λ_=>0;rw[ZF]at this;unfold sm;simpa using this
 | k+1=>by
  unfold sm;rw[QjB h,QdD h x E k,Qfv h]
theorem Qow:∀{n:Nat}(σ:Nat->Nat),(∀j,j<n+1->σ j<n)->∃i j,i<n+1/\j<n+1/\i≠j/\σ i=σ j
 | 0,σ,h=>absurd (h 0 ⋯) ⋯
 | n+1,σ,h=>by
  by_cases q:∃i,i<n+1/\σ i=σ (n+1)
  ·obtain⟨i,hi,e⟩:=q;exact⟨i,n+1,⋯,⋯,⋯,e⟩
  ·have ne:∀i,i<n+1->σ i≠σ (n+1):=λi hi e=>q ⟨i,hi,e⟩;have hv:=h (n+1) ⋯;obtain⟨i,j,hi,hj,hij,e⟩:=Qow (n:=n) (λj=>if σ (n+1)<σ j then σ j-1 else σ j) λj hj=>by
    have:=h j ⋯;have:=ne j hj;show(if σ (n+1)<σ j then σ j-1 else σ j)<n;by_cases c:σ (n+1)<σ j
    ·rw[if_pos c];omega
    ·rw[if_neg c];omega
   refine⟨i,j,⋯,⋯,hij,?_⟩;have a:=ne i hi;have b:=ne j hj;have e:(if σ (n+1)<σ i then σ i-1 else σ i)=(if σ (n+1)<σ j then σ j-1 else σ j):=e;by_cases c:σ (n+1)<σ i
   ·rw[if_pos c]at e;by_cases d:σ (n+1)<σ j
    ·rw[if_pos d]at e;omega
    ·rw[if_neg d]at e;omega
   ·rw[if_neg c]at e;by_cases d:σ (n+1)<σ j
    ·rw[if_pos d]at e;omega
    ·rw[if_neg d]at e;omega
theorem Qo2{n:Nat}{E:Mt2}{x:Mt2}:∀(k:Nat) (W:Mt2) (σ:Nat->Nat),k<=n+1->(∀j,j<n+1->σ j<n)->(∀j,j<k->W j=λr=>sm n λs=>x j s*E s r)->(∀j,k<=j->j<n+1->W j=E (σ j))->det (n+1) W=0
 | 0,W,σ,hk,hσ,_,h2=>by
  obtain⟨i,j,hi,hj,hij,e⟩:=Qow σ hσ;exact QeZ hi hj hij (by rw[h2 i ⋯ hi,h2 j ⋯ hj,e])
 | k+1,W,σ,hk,hσ,h1,h2=>by
  have:=QdD (n:=n+1) (m:=W) (c:=k) ⋯ (x k) E n;rw[← h1 k ⋯,Qal]at this;rw[this];refine QjC λs hs=>?_;rw[Qo2 k (cup W k (E s)) (λj=>if j=k then s else σ j) ⋯ (λj hj=>by show(if j=k then s else σ j)<n;by_cases e:j=k;(rw[if_pos e];exact hs);(rw[if_neg e];exact hσ j hj)) (λj hj=>by rw[QD _ _ ⋯];exact h1 j ⋯) λj h3 h4=>?_,ZI];show cup W k (E s) j=E (if j=k then s else σ j);by_cases e:j=k
  ·rw[e,QJ,if_pos rfl]
  ·rw[QD _ _ e,if_neg e];exact h2 j ⋯ h4
noncomputable def cyc(m:Mt2)(a:Mt1)(l k:Nat):Nat->Nat->Int:=λc=>if c<k then m c else if c=k then a else if c<=l then m (c-1)else m c
theorem QuQ(m:Mt2)(a:Mt1)(hk:k<l)(hl:l<n):det n (cyc m a l k)= -det n (cyc m a l (k+1)):=by
 have h:=Qdw (n:=n) (m:=cyc m a l k) (c:=k) (d:=k+1) ⋯ ⋯ ⋯ a (m k);have e1:cup (cup (cyc m a l k) k a) (k+1) (m k)=cyc m a l k:=by
  have q1:cyc m a l k k=a:=by unfold cyc;rw[if_neg ⋯,if_pos rfl]
  have q2:cyc m a l k (k+1)=m k:=by unfold cyc;rw[if_neg ⋯,if_neg ⋯,if_pos ⋯,Zbq]
  have:=Qal (cyc m a l k) k;rw[q1]at this;rw[this,← q2,Qal]
 have e2:cup (cup (cyc m a l k) k (m k)) (k+1) a=cyc m a l (k+1):=by
  funext c;by_cases h1:c=k+1
  ·subst h1;rw[QJ];unfold cyc;rw[if_neg ⋯,if_pos rfl]
  ·rw[QD _ _ h1];by_cases h2:c=k
   ·subst h2;rw[QJ];unfold cyc;rw[if_pos ⋯]
   ·rw[QD _ _ h2];unfold cyc;by_cases h3:c<k
    ·rw[if_pos h3,if_pos ⋯]
    ·rw[if_neg h3,if_neg h2,if_neg (show ¬c<k+1 by omega),if_neg h1]
 rw[e1,e2]at h;exact h
theorem Qqy(m:Mt2)(a:Mt1)(hl:l<n):∀g k,k+g=l->det n (cyc m a l k)=sgn g*det n (cup m l a)
 | 0,k,h=>by
  have:cyc m a l k=cup m l a:=by
   funext c;unfold cyc cup;by_cases h1:c=l
   ·rw[if_neg ⋯,if_pos ⋯,if_pos h1]
   ·rw[if_neg h1];by_cases h2:c<k
    ·rw[if_pos h2]
    ·rw[if_neg h2,if_neg ⋯,if_neg ⋯]
  rw[this];unfold sgn;simp
 | g+1,k,h=>by
  rw[QuQ m a ⋯ hl,Qqy m a hl g (k+1) ⋯,QkR,Zad]
theorem Qz6(j:Nat):sgn j*sgn j=1:=by unfold sgn;split<;>rfl
noncomputable def bE(r s q:Nat):Int:=if q=0 then(if s=r then 1 else 0)else if s=q-1 then 1 else 0
theorem QpF(m:Mt2)(a:Mt1)(hr:r<n):det n m*a r=sm n λl=>det n (cup m l a)*m l r:=by
 have v0:∃v:Nat->Nat->Int,v=λj=>if j=0 then a else m (j-1):=⟨_,rfl⟩;obtain⟨v,hv⟩:=v0;have hv0:v 0=a:=by rw[hv];rfl
 have hvs:∀j,v (j+1)=m j:=λj=>by rw[hv];show(if j+1=0 then a else m (j+1-1))=_;rw[if_neg ⋯,Zbq]
 have z:det (n+1) (λj s=>if s=0 then v j r else v j (s-1))=0:=by
  have key:det (n+1) (λj q=>sm n λs=>v j s*bE r s q)=0:=
   Qo2 (n+1) _ (λ_=>r) ⋯ (λ_ _=>hr) (λj _=>rfl) (λj h1 h2=> ⋯)
  rw[← key];refine Q3 λj hj s hs=>?_;by_cases e:s=0
  ·subst e;rw[if_pos rfl,Qdf hr]
   ·unfold bE;rw[if_pos rfl,if_pos rfl,Zab]
   ·intro i _ ne;unfold bE;rw[if_pos rfl,if_neg ne,ZI]
  ·rw[if_neg e,Qdf (c:=s-1) ⋯]
   ·unfold bE;rw[if_neg e,if_pos rfl,Zab]
   ·intro i _ ne;unfold bE;rw[if_neg e,if_neg ne,ZI]
 unfold det at z;have term:∀j,(sgn j*(if(0:Nat)=0 then v j r else v j (0-1))*det n λc q=>if q+1=0 then v (skp j c) r else v (skp j c) (q+1-1))=sgn j*v j r*det n λc=>v (skp j c):=λj=>by
  rw[if_pos rfl];congr 1
 have first:∀(k:Nat) (f:Mt1),sm (k+1) f=f 0+sm k λi=>f (i+1):=λk f=>by
  induction k with
  | zero=>show 0+f 0=f 0+0;omega
  | succ k ih=>show sm (k+1) f+f (k+1)=_;rw[ih];show _=f 0+(sm k (λi=>f (i+1))+f (k+1));omega
 rw[Qbn λj _=>term j,first]at z;have t0:(λc=>v (skp 0 c))=m:=by funext c;unfold skp;rw[if_neg ⋯,hvs]
 have tl:∀l,l<n->sgn (l+1)*v (l+1) r*det n (λc=>v (skp (l+1) c))= -(det n (cup m l a)*m l r):=λl hl=>by
  have:(λc=>v (skp (l+1) c))=cyc m a l 0:=by
   funext c;unfold skp cyc;by_cases h0:c=0
   ·subst h0;rw[if_pos (show 0<l+1 by omega),if_neg (show ¬0<0 by omega),if_pos rfl,hv0]
   ·obtain⟨c',rfl⟩:∃c',c=c'+1:=⟨c-1,⋯⟩;rw[if_neg (show ¬c'+1<0 by omega),if_neg h0];by_cases h1:c'+1<=l
    ·rw[if_pos (show c'+1<l+1 by omega),if_pos h1,hvs,Zbq]
    ·rw[if_neg (show ¬c'+1<l+1 by omega),if_neg h1,hvs]
  rw[this,Qqy m a hl l 0 ⋯,hvs,QkR];have q:=Qz6 l;generalize det n (cup m l a)=d at *;generalize m l r=x at *;have: -sgn l*x*(sgn l*d)= -(sgn l*sgn l*(d*x)):=by
   rw[Zad,Zad,ZE,ZO x,← ZE,Zah x d]
  rw[this,q,ZQ]
 rw[t0,hv0]at z;have neg:=Qix (-1) 0 (λl=>det n (cup m l a)*m l r) (λ_=>0) n;rw[Qbn (g:=λl=> -1*(det n (cup m l a)*m l r)+0*0) λl hl=>by rw[tl l hl];omega]at z;have s0:sgn 0=1:=rfl;rw[neg,s0,ZQ]at z;rw[Zah];omega
theorem Qwd(m:Mt2)(u a:Mt1)(hk:k<n)(hi:i<n)(hki:k≠i):det n m*det n (cup (cup m k u) i a)=det n (cup m k u)*det n (cup m i a)-det n (cup m i u)*det n (cup m k a):=by
 have h1:det n m*det n (cup (cup m k u) i a)=det n (cup (cup m i a) k λr=>det n m*u r):=by
  rw[Qfv hk,Qan _ _ _ hki]
 have h2:det n (cup (cup m i a) k λr=>det n m*u r)=det n (cup (cup m i a) k λr=>sm n λl=>det n (cup m l u)*m l r):=by
  refine Q3 λj hj r hr=>?_;by_cases e:j=k
  ·subst e;rw[QJ,QJ];exact QpF m u hr
  ·rw[QD _ _ e,QD _ _ e]
 rw[h1,h2,QdD hk (λl=>det n (cup m l u)) m n];have tk:det n (cup (cup m i a) k (m k))=det n (cup m i a):=by rw[Qan _ _ _ (Ne.symm hki),Qal]
 have ti:det n (cup (cup m i a) k (m i))= -det n (cup m k a):=by
  rw[Qdw hi hk (Ne.symm hki),Qal]
 have tn:∀l,l<n->l≠k->l≠i->det n (cup (cup m i a) k (m l))=0:=λl hl h1 h2=>QeZ hk hl (Ne.symm h1) (by rw[QJ,QD _ _ h1,QD _ _ h2]);rcases Nat.lt_or_gt_of_ne hki with h | h
 ·rw[Qly h hi λl hl a b=>by rw[tn l hl a b,ZI],tk,ti,ZaD];omega
 ·rw[Qly h hk λl hl a b=>by rw[tn l hl b a,ZI],tk,ti,ZaD];omega
noncomputable def QG(j r:Nat):Int:=if j=r then 1 else 0
theorem QeF:∀n,det n QG=1
 | 0=>rfl
 | n+1=>by
  unfold det;rw[Qdf (c:=0) ⋯ λi _ ne=>by unfold QG;rw[if_neg ne,ZI,ZF]];have:(λc r=>QG (skp 0 c) (r+1))=QG:=by
   funext c r;have e:skp 0 c=c+1:=by unfold skp;rw[if_neg ⋯]
   rw[e];unfold QG;by_cases h:c=r
   ·rw[if_pos h,if_pos ⋯]
   ·rw[if_neg h,if_neg ⋯]
  rw[this,QeF n];unfold QG sgn;simp
theorem QpM(a:Mt1)(hi:i<n):det n (cup QG i a)=a i:=by
 have:=QpF QG a hi;rw[QeF,ZQ,Qdf (c:=i) hi λl _ ne=>by rw[show QG l i=0 by unfold QG;rw[if_neg ne],ZI]]at this;rw[this,show QG i i=1 by unfold QG;rw[if_pos rfl],Zab]
structure Clr (n N k:Nat) (A m R:Mt2) (d:Int):Prop where
 le:k<=n
 det:HS.det n m=d
 nz:d≠0
 ent:∀i j,i<n->j<N->R i j=HS.det n (cup m i (A j))
 own:∀j,j<k->m j=A j
theorem Clr.start(n N:Nat)(A:Mt2):Clr n N 0 A QG (λi j=>A j i) 1:=⟨⋯,QeF n,by decide,λi j hi _=>(QpM (A j) hi).symm,λj hj=> ⋯⟩
theorem Clr.exact{n N k:Nat}{A m R:Mt2}{d:Int}(h:Clr n N k A m R d)(hk:k<n)(kN:k<N){i j:Nat}(hi:i<n)(hj:j<N)(ne:i≠k):R k k*R i j-R i k*R k j=d*HS.det n (cup (cup m k (A k)) i (A j)):=by
 rw[h.ent k k hk kN,h.ent i j hi hj,h.ent i k hi kN,h.ent k j hk hj,← Qwd m (A k) (A j) hk hi (Ne.symm ne),h.det]
theorem Clr.step{n N k:Nat}{A m R R':Mt2}{d:Int}(h:Clr n N k A m R d)(hk:k<n)(kN:k<N)(hp:R k k≠0)(h1:∀j,j<N->R' k j=R k j)(h2:∀i j,i<n->i≠k->j<N->∀q,R k k*R i j-R i k*R k j=d*q->R' i j=q):Clr n N (k+1) A (cup m k (A k)) R' (R k k):=by
 refine⟨hk,(h.ent k k hk kN).symm,hp,λi j hi hj=>?_,λj hj=>?_⟩
 ·by_cases e:i=k
  ·subst e;rw[h1 j hj,h.ent i j hi hj,Qm6]
  ·exact h2 i j hi e hj _ (h.exact hk kN hi hj e)
 ·by_cases e:j=k
  ·subst e;rw[QJ]
  ·rw[QD _ _ e];exact h.own j ⋯
theorem Clr.tell{n N k:Nat}{A m R:Mt2}{d:Int}(h:Clr n N k A m R d){j r:Nat}(hj:j<N)(hr:r<n):d*A j r=sm n λl=>R l j*m l r:=by
 have:=QpF m (A j) hr;rw[h.det]at this;rw[this];exact Qbn λl hl=>by rw[h.ent l j hl hj]
noncomputable def bnd(B:Nat):Nat->Nat
 | 0=>1
 | n+1=>(n+1)*(B*bnd B n)
theorem QsH:∀{n:Nat},(∀i,i<n->(f i).natAbs<=C)->(sm n f).natAbs<=n*C
 | 0,_=>by simp[sm]
 | n+1,h=>by
  unfold sm;have h1:=QsH (n:=n) λi hi=>h i ⋯;have h2:=h n ⋯;have:=ZbC (sm n f) (f n);rw[Nat.succ_mul];omega
theorem Qxq(j:Nat):(sgn j).natAbs=1:=by unfold sgn;split<;>rfl
theorem QdC:∀{n:Nat}{m:Mt2},(∀j,j<n->∀r,r<n->(m j r).natAbs<=B)->(det n m).natAbs<=bnd B n
 | 0,_,_=>by show(1:Int).natAbs<=1;decide
 | n+1,m,h=>by
  unfold det bnd;refine QsH λj hj=>?_;rw[Zao,Zao,Qxq,Nat.one_mul];refine ZaY (h j hj 0 ⋯) (QdC λc hc r hr=>h _ ?_ _ ⋯);unfold skp;split<;>omega
theorem Qtg(hn:n<=8):bnd (2^200) n<2^2000:=by
 have h:∀k,k<9->bnd (2^200) k<2^2000:=by decide+kernel
 exact h n ⋯
def QrD(n:Nat)(m:Mt2):Prop:=∀j,j<n->∀r,r<n->(m j r).natAbs<=2^200
def Qo6(n:Nat)(A:Mt2):Prop:=∀k,k<n->∀c:Nat->Int,(∀r,r<=k->sm (k+1) (λl=>c l*A l r)=0)->c k=0
structure Qh7 (n N k:Nat) (A m R:Mt2) (d:Int):Prop where
 clr:Clr n N k A m R d
 unit:∀l,k<=l->l<n->m l=QG l
 col:QrD n m
theorem QrD.put(h:QrD n m)(ha:∀r,r<n->(a r).natAbs<=2^200):QrD n (cup m i a):=λj hj r hr=>by
 by_cases e:j=i
 ·subst e;rw[QJ];exact ha r hr
 ·rw[QD _ _ e];exact h j hj r hr
theorem Qh7.start(n N:Nat)(A:Mt2):Qh7 n N 0 A QG (λi j=>A j i) 1:=⟨Clr.start n N A,λ_ _ _=>rfl,λj _ r _=>by unfold QG;split<;>decide⟩
theorem Qid:∀{n:Nat},k<=n->(∀i,k<=i->i<n->f i=0)->sm n f=sm k f
 | 0,h,_=>by rw[Nat.le_zero.mp h]
 | n+1,h,z=>by
  by_cases e:k=n+1
  ·rw[e]
  ·show sm n f+f n=sm k f;rw[Qid (n:=n) ⋯ λi h1 h2=>z i h1 ⋯,z n ⋯ ⋯,ZbA]
theorem Qh7.QA3{n N k:Nat}{A m R:Mt2}{d:Int}(h:Qh7 n N k A m R d)(hk:k<n)(kN:k<N)(hl:Qo6 n A):R k k≠0:=λz=>by
 refine h.clr.nz ?_;have:=hl k hk (λl=>if l=k then-d else R l k) λr hr=>by
  have t:=h.clr.tell kN (show r<n by omega);rw[Qid (k:=k) ⋯]at t
  ·show(sm k λl=>(if l=k then-d else R l k)*A l r)+(if k=k then-d else R k k)*A k r=0;rw[if_pos rfl,Qbn (g:=λl=>R l k*m l r) λl hl=>by rw[if_neg ⋯,h.clr.own l hl],← t,Zad];omega
  ·intro l h1 h2;by_cases e:l=k
   ·rw[e,z,ZF]
   ·rw[h.unit l ⋯ h2,show QG l r=0 by unfold QG;rw[if_neg ⋯],ZI]
 rw[if_pos rfl]at this;omega
theorem Qh7.step{n N k:Nat}{A m R R':Mt2}{d:Int}(h:Qh7 n N k A m R d)(hk:k<n)(kN:k<N)(hA:∀j,j<N->∀r,r<n->(A j r).natAbs<=2^200)(hp:R k k≠0)(h1:∀j,j<N->R' k j=R k j)(h2:∀i j,i<n->i≠k->j<N->∀q,R k k*R i j-R i k*R k j=d*q->R' i j=q):Qh7 n N (k+1) A (cup m k (A k)) R' (R k k):=
 ⟨h.clr.step hk kN hp h1 h2,λl h3 h4=>by rw[QD _ _ ⋯];exact h.unit l ⋯ h4,h.col.put (hA k kN)⟩
theorem Qa7(h:i.natAbs<2^2000):QaA i:=Zt (Zbr h) (by decide)
theorem QrE(hd:d≠0)(h:a=d*q):Qd3 a d=q:=by
 rw[QmD,h,Int.mul_fdiv_cancel_left q hd]
theorem QcA(ha:fa U=some ra)(ea:ra.d= .int a)(hb:fb U=some rb)(eb:rb.d= .int b):dOp Qax fa fb U=some (reI (a-b)):=by
 refine Qag ha hb ?_;rw[ea,eb];rfl
theorem QeA(ha:fa U=some ra)(ea:ra.d= .int a)(hb:fb U=some rb)(eb:rb.d= .int b)(hz:b≠0)(h2:b.natAbs<2^2000)(h:a=b*q):dOp Qa4 fa fb U=some (reI q):=by
 refine Qag ha hb ?_;rw[ea,eb];show(if Qb5 b=true then some (D.int (Qd3 a b))else none)=_;have:Qb5 b=true:=by
  unfold Qb5;simp only[Zm,decide_eq_true_eq];exact⟨hz,Zp h2 (Zq (by decide) (by decide))⟩
 rw[if_pos this,QrE hz h]
noncomputable def Qqj:DS:=(Qd (QM (QF (Qaz vv0 vv1) (.tp [1,2]) [none,none,none,some 2,some 3,some 0,some 1] QN (dOp Qa4 (dOp Qax (QZ (Qr vv6 vv3) vv1) (QZ (Qr vv5 vv3) vv2)) vv4))) Qm)
noncomputable def Qi4(QdQ:Den)(QeP:Den):DS:=(Qd (Qo 1 (QaB vv0)) (Qd (Qo 2 kk1) (Qd (QaV (QaH (dBf Q2 (Qa vv0 Qe))) (.nm 3) (Qd (Qo 1 (Qh 2 QdQ [] (Qa vv1 (Qa vv3 Qe)))) (Qd (Qo 4 (QaB (Qr vv1 vv3))) (Qd (sIf (QB (dOp gEq (Qr vv4 vv3) kk0)) (Qd (QM (QaO (Qa vv1 (Qa kk0 Qe)))) Qm) Qm) (Qd (Qo 1 (QF (QX vv1) (.nm 1) [none,none,some 3,some 2,some 4] QN (Qh 4 QeP [] (Qa vv1 (Qa vv4 (Qa vv2 (Qa vv3 Qe))))))) (Qd (QbL 1 Qap vv3 vv4) (Qd (Qo 2 (QaB (Qr vv4 vv3))) Qm))))))) (Qd (QM (QaO (Qa vv1 (Qa vv2 Qe)))) Qm))))
theorem Qb1(h:fs U=some r)(e:den (r.ds++dfl)=some (d,false))(hn:r.ds.length+dfl.length=n):Qh n den dfl fs U=some (R.norm ⟨d,false,r.M⟩):=by
 unfold Qh;rw[h,Za,if_pos hn,e];rfl
theorem Qto{k:Nat}(hx:U[x]? =some (slT (Qc n N g)))(hi:fi U=some (reI k))(ha:fa U=some (reF (Qb N p)))(hk:k<n)
  (q:Q (.nx (U.set x (slF (Qc n N (λi j=>if i=k then p j else g i j)))))):Run (QbL x Qap fi fa) U Q:=by
 refine⟨_,?_,q⟩;unfold QbL;rw[ha,Za,hx];have hn:(HS.R.mk (Qb N p) false []).norm=(reF (Qb N p)):=by unfold R.norm Qb;rfl
 simp only[Qap,Za,hi,Qc,Qbh,Zn,Zu,hn];rw[Qby (show(0:Int)<=k by omega) ⋯];simp only[Za,ZP];have e:((List.range n).map λi=>Qb N (g i)).set k (Qb N p)=(List.range n).map λi=>Qb N (λj=>if i=k then p j else g i j):=by
  refine ZaV λi=>?_;rw[ZbT];by_cases h:k=i
  ·subst h;rw[if_pos rfl,if_pos (by simpa using hk),Zr,ZK hk];simp
  ·rw[if_neg h,Zr,Zr];by_cases h2:i<n
   ·rw[ZK h2];simp only[ZV,if_neg (Ne.symm h)]
   ·rw[Zv (by simpa using h2)];rfl
 rw[e];rfl
theorem QeD(f:Mt1):∀n,sm n f=Qn n f
 | 0=>rfl
 | n+1=>by rw[Qai,← QeD f n];rfl
theorem Qna(h:∀i,i<m->0<=f i):0<=Qn m f:=by
 have:=Qep h;rw[Qaw]at this;exact this
theorem Qwh{m k:Nat}{T:Mt2}(tp:TP m T){c:Mt1}(h0:∀l,k<l->c l=0)(h:∀r,r<m->r<=k->0<=Qn m (λl=>c l*T l r)):∀l,l<m->c l<=0:=by
 obtain⟨w,w0,hw⟩:=tp.wt;have p0:∀l,0<=(if 0<c l then c l else 0):=λl=>by split<;>omega
 have v0:∀r,r<m->0<=Qn m (λl=>(if 0<c l then c l else 0)*T l r):=λr hr=>by
  by_cases h1:0<c r
  ·have hrk:r<=k:=by
    by_cases z:k<r
    ·rw[h0 r z]at h1;omega
    ·omega
   have e:Qn m (λl=>(if 0<c l then c l else 0)*T l r)=Qn m (λl=>((if 0<c l then c l else 0)-c l)*T l r)+Qn m (λl=>c l*T l r):=by
    rw[← Qam m (λl=>((if 0<c l then c l else 0)-c l)*T l r) (λl=>c l*T l r)];exact Qj λl _=>by rw[← ZM];congr 1;omega
   rw[e];refine Int.add_nonneg ?_ (h r hr hrk);refine Qna λl hl=>?_;by_cases e2:l=r
   ·subst e2;rw[if_pos h1,ZbB,ZF];exact Zbe _
   ·refine Zaw ?_ (tp.pos l r hl hr e2);split<;>omega
  ·refine Qna λl hl=>?_;by_cases e2:l=r
   ·subst e2;rw[if_neg h1,ZF];exact Zbe _
   ·exact Zaw (p0 l) (tp.pos l r hl hr e2)
 have s1:0<=Qn m λr=>Qn m (λl=>(if 0<c l then c l else 0)*T l r)*w r:=by
  have:Qn m (λ_=>(0:Int))<=Qn m λr=>Qn m (λl=>(if 0<c l then c l else 0)*T l r)*w r:=Qep λr hr=>Zaw (v0 r hr) (w0 r);rw[Qaw]at this;exact this
 have s2:(Qn m λr=>Qn m (λl=>(if 0<c l then c l else 0)*T l r)*w r)=Qn m λl=>(if 0<c l then c l else 0)*Qn m λr=>T l r*w r:=by
  have e1:(λr=>Qn m (λl=>(if 0<c l then c l else 0)*T l r)*w r)=λr=>Qn m λl=>(if 0<c l then c l else 0)*(T l r*w r):=by
   funext r;rw[Zah,← QT];exact Qj λl _=>by rw[Zah (w r),ZE]
  rw[e1,Qcj];exact Qj λl _=>by rw[QT]
 have s3:(Qn m λl=>(if 0<c l then c l else 0)*Qn m λr=>T l r*w r)<=Qn m λl=> -(if 0<c l then c l else 0):=Qep λl hl=>by
  have:=ZU (hw l hl) (p0 l);omega
 rw[QcO]at s3;intro l hl;have big:(if 0<c l then c l else 0)<=Qn m λl=>(if 0<c l then c l else 0):=by
  have:=QaP (m:=m) hl (if 0<c l then c l else 0) (λ_=>1);have h2:Qn m (λi=>(if i=l then(if 0<c l then c l else 0)else 0)*1)<=Qn m λl=>(if 0<c l then c l else 0):=Qep λi _=>by
   rw[Zab];by_cases e:i=l
   ·subst e;rw[if_pos rfl];exact Zbe _
   ·rw[if_neg e];exact p0 i
  omega
 by_cases z:0<c l
 ·rw[if_pos z]at big;omega
 ·omega
theorem QqY{m k:Nat}{T:Mt2}(tp:TP m T){c:Mt1}(h0:∀l,k<l->c l=0)(h:∀r,r<m->r<=k->Qn m (λl=>c l*T l r)=0):∀l,l<m->c l<=0:=Qwh tp h0 λr hr hk=>Int.le_of_eq (h r hr hk).symm
theorem Qmw{m:Nat}{T:Mt2}(tp:TP m T):Qo6 m λl r=>0-T l r:=λk hk c h=>by
 have ext:∀r,r<=k->Qn m (λl=>(if l<=k then c l else 0)*T l r)=0:=λr hr=>by
  have e:=h r hr;rw[← QeD,Qid (k:=k+1) ⋯]
  ·have n:=Qix (-1) 0 (λl=>c l*(0-T l r)) (λ_=>0) (k+1);rw[e]at n;rw[Qbn (g:=λl=> -1*(c l*(0-T l r))+0*0) λl hl=>by rw[if_pos ⋯,Zag,ZaD];omega,n];omega
  ·intro l h1 h2;rw[if_neg ⋯,ZF]
 have a:=QqY tp (λl hl=>by show(if l<=k then c l else 0)=0;rw[if_neg ⋯]) (λr _ hr=>ext r hr) k hk;have b:=QqY (k:=k) tp (λl hl=>by show(if l<=k then-c l else 0)=0;rw[if_neg ⋯]) (λr _ hr=>by
  have:=ext r hr;rw[Qj (g:=λl=> -((if l<=k then c l else 0)*T l r)) λl _=>by split<;>simp[Zad],QcO,this];rfl) k hk
 have a:(if k<=k then c k else 0)<=0:=a;have b:(if k<=k then-c k else 0)<=0:=b;rw[if_pos (Zi k)]at a b;omega
noncomputable def Qsd:DS:=(Qd (QM (QF (QX vv0) (.nm 1) [none,none] QN (dOp Qax kk0 vv1))) Qm)
def Qos(d:Den):Prop:=∀(n:Nat) (a:Mt1),d [Qb n a]=some (Qb n λi=>0-a i,true)
theorem QAb:Qos (Qx 1 Qsd):=λn a=>QR (Qy (QA (List.range n) (QW rfl rfl) rfl λi _=>⟨[none,slI (a i)],rfl,reI (0-a i),rfl,rfl,rfl⟩) ⟨rfl,rfl⟩)
noncomputable def Qqh(Qc5:Den)(QaE:Den):DS:=(Qd (QM (QF (QX (Qh 1 QaE [] (Qa vv0 Qe))) (.nm 1) [none,none] QN (Qh 1 Qc5 [] (Qa vv1 Qe)))) Qm)
def Qie(d:Den):Prop:=∀(m:Nat) (R L:Lpp),m<=1000->R.length+R.length+L.length<=1000000->(∀s∈R,Good m s)->(∀s∈L,Good m s)->d [QI m R L]=some (Qc m m λi j=>0-Qs m (Qp R L) i j,true)
theorem Qtq(ho:Qos dop)(ht:Qf0 dt):Qie (Qx 1 (Qqh dop dt)):=λm R L hm hl hR hL=>by
 have et:=ht m R L hm hl hR hL;generalize Qs m (Qp R L)=T at *;exact QR (Qy (QA (List.range m) (QW (Ql rfl et rfl) rfl) rfl λi _=>⟨[none,slF (Qb m (T i))],rfl,reT (Qb m λj=>0-T i j),Ql rfl (ho m (T i)) rfl,rfl,rfl⟩) ⟨rfl,rfl⟩)
noncomputable def Qkq:DS:=(Qd (Qo 1 kk0) (Qd (QaV (QX vv0) (.nm 2) (Qd (Qo 3 (QaB vv2)) (Qd (QbS (QB (dOp gNe vv3 kk0)) (Qd (Qo 4 (dOp Q9 vv1 vv3)) (Qd (Qo 1 (QaB vv3)) (Qd (Qo 3 (QaB vv4)) Qm)))) Qm))) (Qd (QM (dBf QpD (Qa vv1 Qe))) Qm)))
theorem Qus:(t∣b/\t∣Qdq a b)↔(t∣a/\t∣b):=by
 have e:Qdq a b=a-b*Qd3 a b:=by
  rw[QmD,show Qdq a b=a.fmod b from QmH a b,Int.fmod_def]
 rw[e];constructor
 ·rintro⟨h1,h2⟩;refine⟨?_,h1⟩;have:=ZaK h2 (Zaz (c:=Qd3 a b) h1);rwa[ZaG]at this
 ·rintro⟨h1,h2⟩;exact⟨h2,Zbs h1 (Zaz h2)⟩
theorem Qym(h:b≠0):(Qdq a b).natAbs<b.natAbs:=by
 rw[show Qdq a b=a.fmod b from QmH a b];by_cases hb:0<b
 ·have h1:=Zck a hb;have h2:=Int.fmod_lt_of_pos a hb;omega
 ·have hb':0< -b:= ⋯
  have h1:=Zck (-a) hb';have h2:=Int.fmod_lt_of_pos (-a) hb';have h3:=Int.neg_fmod_neg a b;omega
def QhQ(d:Den):Prop:=∀(xs:List Int),∃g:Int,d [QeI xs]=some (.int g,true)/\0<=g/\∀t,t∣g↔∀x∈xs,t∣x
theorem QtS:QhQ (Qx 5 Qkq):=λxs=>by
 have key:Run Qkq [slF (QeI xs),none,none,none,none] λo=>match o with | .rt d fr=>fr=true/\∃g,d= .int g/\0<=g/\∀t,t∣g↔∀x∈xs,t∣x | _=>False:=by
  refine rsa rfl ?_;refine QC (Qay xs (λk U=>∃g j2 j3 j4,(∀t,t∣g↔∀x∈xs.take k,t∣x)/\U=[slF (QeI xs),slI g,j2,j3,j4]) (QW rfl rfl) rfl ⟨0,none,none,none,λt=>by simp,rfl⟩ ?_ ?_)
  ·rintro k x U hk ⟨g,j2,j3,j4,hg,rfl⟩;refine⟨[slF (QeI xs),slI g,slI x,j3,j4],rfl,?_⟩;refine run_seq (Qz rfl ?_);rw[Qdn rfl];refine Qbl (P:=λU=>∃g' j4,(∀t,t∣g'↔(t∣g/\t∣x))/\U=[slF (QeI xs),slI g',slI x,slI 0,j4]) ?_ ?_
   ·refine QeT (λn U=>∃g' r j4,n=r.natAbs/\(∀t,(t∣g'/\t∣r)↔(t∣g/\t∣x))/\U=[slF (QeI xs),slI g',slI x,slI r,j4]) ?_ x.natAbs _ ⟨g,x,j4,rfl,λ_=>Iff.rfl,rfl⟩;rintro n U ⟨g',r,j4,rfl,hd,rfl⟩;refine⟨!decide (r=0),QH (Qcy rfl rfl rfl rfl) rfl,λh=>?_,λh=>?_⟩
    ·have hr:r=0:=by simpa using h
     subst hr;exact⟨g',j4,λt=>by rw[← hd t];simp,rfl⟩
    ·have hr:r≠0:=by simpa using h
     refine rsa (Qag rfl rfl (by show(if r≠0 then some (D.int (Qdq g' r))else none)=_;rw[if_pos hr])) ?_;refine run_seq (Qz rfl ?_);rw[Qdn rfl];refine run_seq (Qz rfl (Qt ?_));rw[Qdn rfl];exact⟨_,Qym hr,r,Qdq g' r,_,rfl,λt=>Qus.trans (hd t),rfl⟩
   ·rintro U ⟨g',j4,hd,rfl⟩;refine Qt ⟨g',_,_,_,λt=>?_,rfl⟩;rw[hd t,hg t,List.take_succ,hk];simp only[ZG,Option.toList_some,ZH];exact⟨λ⟨a,b⟩ y hy=>hy.elim (a y) λe=>e▸b,λa=>⟨λy hy=>a y (.inl hy),a x (.inr rfl)⟩⟩
  ·rintro U ⟨g,j2,j3,j4,hg,rfl⟩;rw[Zce]at hg;refine Qy rfl ⟨rfl,_,rfl,by split<;>omega,λt=>?_⟩;rw[← hg t];split
   ·exact Int.dvd_neg
   ·exact Iff.rfl
 obtain⟨o,h1,h2⟩:=key;cases o with
 | rt d fr=>
  obtain⟨rfl,g,rfl,g0,hg⟩:=h2;exact⟨g,by show Option.bind (Qkq [slF (QeI xs),none,none,none,none]) outD=_;rw[h1];rfl,g0,hg⟩
 | _=>exact h2.elim
noncomputable def Qd7(QdE:Den):DS:=(Qd (Qo 1 (Qh 1 QdE [] (Qa vv0 Qe))) (Qd (sIf (QB (dOp gEq (Qr vv1 kk1) kk0)) (Qd Qw Qm) Qm) (Qd (QM vv1) Qm)))
noncomputable def QpN(Qat:Den)(QaL:Den)(Qcn:Den)(Qdv:Den):DS:=(Qd (Qo 2 (dBf Q2 (Qa vv0 Qe))) (Qd (sIf (QB (dOp gNe (dBf Q2 (Qa vv1 Qe)) vv2)) (Qd Qw Qm) Qm) (Qd (Qo 3 (Qh 1 QaL [] (Qa (QF (Qaz (Qh 1 Qat [] (Qa vv0 Qe)) vv1) (.tp [1,2]) [none,none,none] QN (QE vv1 (Qad (Qa vv2 Qe)))) Qe))) (Qd (Qo 4 (Qh 2 Qcn [] (Qa (Qr vv3 kk0) (Qa vv2 Qe)))) (Qd (Qo 5 (Qh 1 Qdv [] (Qa (QE vv4 (Qad (Qa (Qr vv3 kk1) Qe))) Qe))) (Qd (sIf (QB (dOp gLt (Qr vv3 kk1) kk0)) (Qd (Qo 5 (dOp Qax kk0 vv5)) Qm) Qm) (Qd (QM (QaO (Qa (QF (QX vv4) (.nm 1) [none,none,some 5] QN (dOp Qa4 vv1 vv2)) (Qa (dOp Qa4 (Qr vv3 kk1) vv5) Qe)))) Qm)))))))
theorem QfJ(ha:fa U=some ra)(ea:ra.d=Qb m f)(hb:fb U=some (reI x))(hm:m<=1000):QE fa (Qad (Qa fb Qe)) U=some (reT (Qb (m+1) (up f m x))):=by
 have hb:Qad (Qa fb Qe) U=some (reT (.lst [.int x])):=(QoP (Qq hb (QL _)) (by simp)).trans rfl;unfold QE;rw[ha,Za,hb,Za,ea];simp only[Qb,Zn,Zu,Qjz];rw[if_pos (by simp;omega)];unfold Qa0;rw[if_pos (by rw[QcM,Zm];exact⟨QbV (λ_=>rfl) _,rfl⟩)];congr 3;rw[Zbp,ZaC];congr 1
 ·refine ZD λi hi=>?_;rw[Qcz,if_neg (by have:=Zf.mp hi;omega)]
 ·show _=[D.int (up f m x m)];rw[Qcz,if_pos rfl]
theorem Qf5(n:Nat)(f:Mt1):Qb n f=QeI ((List.range n).map f):=by unfold Qb QeI;rw[Zam];rfl
noncomputable def Qn9(Qao:Den)(Qea:Den):DS:=(Qd (Qo 2 (Qh 2 Qea [] (Qa (Qh 1 Qao [] (Qa vv0 Qe)) (Qa vv1 Qe)))) (Qd (QM (QF (QX (Qr vv2 kk0)) (.nm 1) [none,none,some 2] QN (dOp Qa4 vv1 (Qr vv2 kk1)))) Qm))
theorem Qm7(ha:fa U=some ra)(ea:ra.d= .int a)(hb:fb U=some rb)(eb:rb.d= .int b)(h:0<b)(h2:b.natAbs<2^2000):dOp Qa4 fa fb U=some (reI (a / b)):=by
 refine Qag ha hb ?_;rw[ea,eb];show(if Qb5 b=true then some (D.int (Qd3 a b))else none)=_;have:Qb5 b=true:=by
  unfold Qb5;simp only[Zm,decide_eq_true_eq];exact⟨⋯,Zp h2 (Zq (by decide) (by decide))⟩
 rw[if_pos this,QkP _ _ ⋯]
theorem Qu0(h:∀i,i<m-> -C<=f i/\f i<=C): -(m*C)<=Qn m f/\Qn m f<=m*C:=by
 induction m with
 | zero=>simp[Qn]
 | succ m ih=>
  rw[Qai];have h1:=ih λi hi=>h i ⋯;have h2:=h m ⋯;have e:((m+1:Nat):Int)*C=m*C+C:=by rw[ZaJ,ZM];simp
  omega
theorem Qth{m:Nat}{T:Mt2}(hm:m<=8)(hT:∀i j,i<m->j<m->(T i j).natAbs<2^64){f tops:Mt1}{q:Int}(q0:0<q)(h:∀r,r<m->q*f r=sm m λl=>tops l*(0-T l r)):∀r,r<m-> -(2^67)<=Qi m T f (λl=>tops l / q) r/\Qi m T f (λl=>tops l / q) r<=2^67:=λr hr=>by
 have e:q*Qi m T f (λl=>tops l / q) r=Qn m λl=> -(tops l % q)*T l r:=by
  unfold Qi;rw[Zay,h r hr,QeD,← QT,← Qam];refine Qj λl _=>?_;have:=ZaN (tops l) q;have e2:q*(tops l / q*T l r)=(q*(tops l / q))*T l r:=by rw[ZE]
  rw[e2,show q*(tops l / q)=tops l-tops l % q by omega,Zag,ZaD,Int.sub_mul,Zad];omega
 have b:=Qu0 (f:=λl=> -(tops l % q)*T l r) (C:=q*2^64) λl hl=>by
  have h1:=ZA (tops l) (by omega:q≠0);have h2:=Zz (tops l) q0;have h3:=hT l r hl hr;have h4:tops l % q*(T l r)<=q*2^64/\ -(q*2^64)<=tops l % q*(T l r):=by
   have a1:tops l % q*T l r<=tops l % q*2^64:=ZU ⋯ h1;have a2:tops l % q*2^64<=q*2^64:=Zai ⋯ (by decide);have a3:tops l % q*(-(2^64))<=tops l % q*T l r:=ZU ⋯ h1;rw[ZaD]at a3;omega
  rw[Zad];omega
 rw[← e]at b;have hm':(m:Int)*(q*2^64)<=8*(q*2^64):=Zai ⋯ ⋯;generalize Qi m T f (λl=>tops l / q) r=x at b ⊢;constructor
 ·refine ZX λz=>?_;have:=ZU (show x<= -(2^67)-1 by omega) (show 0<=q by omega);rw[ZbI,ZaD,Zab]at this;omega
 ·refine ZX λz=>?_;have:=ZU (show(2^67+1:Int)<=x by omega) (show 0<=q by omega);rw[Zay,Zab]at this;omega
noncomputable def Qlw(QeM:Den):DS:=(Qd (QM (QF (QX (Qh 1 QeM [] (Qa vv0 Qe))) (.nm 1) [none,none] QN (QZ kk2 vv1))) Qm)
def Qi5(d:Den):Prop:=∀(m:Nat) (R L:Lpp),m<=1000->R.length+R.length+L.length<=1000000->(∀s∈R,Good m s)->(∀s∈L,Good m s)->d [QI m R L]=some (Qb m λi=>2*Qct R L i,true)
theorem Qsn(hs:QoW ds):Qi5 (Qx 1 (Qlw ds)):=λm R L hm hl hR hL=>
 QR (Qy (QA (List.range m) (QW (Ql rfl (hs m R L hm hl hR hL) rfl) rfl) rfl λi _=>⟨[none,slI (Qct R L i)],rfl,reI (2*Qct R L i),Q5 rfl rfl rfl rfl (QbP (by decide)),rfl,rfl⟩) ⟨rfl,rfl⟩)
theorem QpI(hN:n<=N)(hA:∀j,j<N->∀r,r<n->(A j r).natAbs<=2^200)(hl:Qo6 n A):∀k,k<=n->∃m R d,Qh7 n N k A m R d
 | 0,_=>⟨_,_,_,Qh7.start n N A⟩
 | k+1,hk=>by
  obtain⟨m,R,d,C⟩:=QpI hN hA hl k ⋯;have pv:=C.QA3 (show k<n by omega) ⋯ hl;have ex:∀i j,∃q,i<n->i≠k->j<N->R k k*R i j-R i k*R k j=d*q:=λi j=>by
   by_cases h:i<n/\i≠k/\j<N
   ·exact⟨_,λh1 h2 h3=>C.clr.exact ⋯ ⋯ h1 h3 h2⟩
   ·exact⟨0,λh1 h2 h3=>absurd ⟨h1,h2,h3⟩ h⟩
  refine⟨_,λi j=>if i=k then R k j else(ex i j).choose,_,C.step ⋯ ⋯ hA pv (λj _=>by rw[if_pos rfl]) λi j hi ne hj q hq=>?_⟩;rw[if_neg ne];exact Zaj C.clr.nz (((ex i j).choose_spec hi ne hj).symm.trans hq)
theorem Qpd{n N:Nat}(n8:n<=8){A:Mt2}{g v:Mt1}(hA:∀j,j<n->∀r,r<n->(A j r).natAbs<=2^200)(hl:Qo6 n A)(hg:∀r,r<n->(g r).natAbs<=2^200)(h:∀r,r<n->g r=sm n λl=>v l*A l r):∀l,l<n->(v l).natAbs<2^2000:=λl hln=>by
 obtain⟨m,R,d,C⟩:=QpI (Zi n) hA hl n (Zi n);have e1:det n (cup A l g)=v l*det n A:=by
  have e:det n (cup A l g)=det n (cup A l λr=>sm n λi=>v i*A i r):=by
   refine Q3 λj hj r hr=>?_;by_cases q:j=l
   ·subst q;rw[QJ,QJ];exact h r hr
   ·rw[QD _ _ q,QD _ _ q]
  rw[e,QdD hln v A n,Qdf hln λi hi ne=>by rw[QeZ hln hi (Ne.symm ne) (by rw[QJ,QD _ _ ne]),ZI],Qal]
 have e2:det n A=d:=by
  rw[← C.clr.det];exact Q3 λj hj r _=>by rw[C.clr.own j hj]
 have b:=ZT (QdC (m:=cup A l g) λj hj r hr=>by
  by_cases q:j=l
  ·subst q;rw[QJ];exact hg r hr
  ·rw[QD _ _ q];exact hA j hj r hr) (Qtg n8)
 rw[e1,e2,Zao]at b;have dz:=C.clr.nz;have:=Zbt (v l).natAbs (show 0<d.natAbs by omega);omega
noncomputable def QO(m:Nat)(T:Mt2)(v:Mt1):Nat->Int:=λj=>2*(0-T j j)-Qi m T (λj=>2*(0-T j j)) v j
theorem Qgn(j:Nat):QO m T v j= -Qn m λi=>v i*T i j:=by
 unfold QO Qi;show 2*(0-T j j)-(2*(0-T j j)+_)=_;omega
def Rec(m:Nat)(T:Mt2)(v x:Mt1):Prop:=∃(y u:Mt1),(∀j,j<m->0<=y j)/\Told m T (λj=>y j+QO m T v j) u/\∀j,j<m->x j=Qi m T (λj=>y j+QO m T v j) u j
structure Dbl (m:Nat) (T:Mt2) (v:Mt1):Prop where
 told:Told m T (λj=>2*(0-T j j)) v
theorem Dbl.big(h:Dbl m T v)(hj:j<m):(0-T j j)+1<=QO m T v j/\QO m T v j<=2*(0-T j j):=by
 have h1:=h.told.stb j hj;have h2:=h.told.pos j hj;unfold QO;omega
noncomputable def QxR(QaW:Den)(Qdj:Den)(QjL:Den)(QbT:Den)(Qhk:Den):DS:=(Qd (Qbs (Qh 2 QaW [] (Qa vv0 (Qa (Qad (Qa vv1 Qe)) Qe)))) (Qd (Qo 2 (Qh 2 Qdj [] (Qa vv0 (Qa vv1 Qe)))) (Qd (Qo 3 (Qh 3 QjL [] (Qa vv0 (Qa vv1 (Qa vv2 Qe))))) (Qd (Qo 4 (Qh 2 Qhk [] (Qa vv0 (Qa (Qh 1 QbT [] (Qa vv0 Qe)) Qe)))) (Qd (Qo 5 (QF (Qaz (Qh 1 QbT [] (Qa vv0 Qe)) (Qr vv4 kk0)) (.tp [1,2]) [none,none,none] QN (dOp Qax vv1 vv2))) (Qd (Qo 6 (QE (dBf QhL (Qa (QE (Qad (Qa kk0 Qe)) (QF (Qaz vv3 vv5) (.tp [1,2]) [none,none,none] QN (dOp Qax kk0 (dOp Qa4 vv1 vv2)))) Qe)) kk1)) (Qd (Qo 7 (QF (Qaz vv3 vv5) (.tp [1,2]) [none,none,none,some 6] QN (QE vv1 (QZ vv3 vv2)))) (Qd (Qo 8 (Qh 2 Qhk [] (Qa vv0 (Qa vv7 Qe)))) (Qd (Qo 9 (QF (Qhj vv2 (Qr vv4 kk1) (Qr vv8 kk1)) (.tp [1,2,3]) [none,none,none,none,some 6] QN (QE (dOp Qax vv1 (QZ vv4 vv2)) vv3))) (Qd (QM (QaO (Qa (Qr vv8 kk0) (Qa vv9 Qe)))) Qm))))))))))
theorem QBU:Qgh ((List.range m).map f) ((List.range m).map g) ((List.range m).map h)=(List.range m).map λi=> .tup [f i,g i,h i]:=by
 unfold Qgh;refine ZaV λi=>?_;by_cases hi:i<m
 ·have a:∀(k:Nat->D),((List.range m).map k)[i]? =some (k i):=λk=>by rw[Zr,ZK hi];rfl
  have e1:(((List.range m).map g).zip ((List.range m).map h))[i]? =some (g i,h i):=ZaE.mpr ⟨a g,a h⟩;have e2:(((List.range m).map f).zip (((List.range m).map g).zip ((List.range m).map h)))[i]? =some (f i,(g i,h i)):=ZaE.mpr ⟨a f,e1⟩;rw[Zr,e2,a];rfl
 ·rw[Zv (by simp;omega),Zv (by simp;omega)]
theorem QkC(ha:fa U=some ra)(ea:ra.d= .lst ((List.range m).map f))(hb:fb U=some rb)(eb:rb.d= .lst ((List.range m).map g))(hc:fc U=some rc)(ec:rc.d= .lst ((List.range m).map h)):Qhj fa fb fc U=some ⟨(List.range m).map λi=> .tup [f i,g i,h i],ra.M++(rb.M++rc.M)⟩:=by
 unfold Qhj;rw[ha,Za,hb,Za,hc,Za,ea,eb,ec];show(if _ then _ else _)=_;rw[if_pos (by simp),QBU]
def QlZ(d:Den):Prop:=∀(m:Nat) (R L:Lpp) (f:Mt1),0<m->m<=8->Qbi m R L->(∀j,j<m->(f j).natAbs<=2^200)->∃k v,d [QI m R L,Qb m f]=some (.tup [Qb m (Qi m (Qs m (Qp R L)) f k),Qb m k],true)/\Dbl m (Qs m (Qp R L)) v/\Rec m (Qs m (Qp R L)) v (Qi m (Qs m (Qp R L)) f k)/\Stb m (Qs m (Qp R L)) (Qi m (Qs m (Qp R L)) f k)/\∀j,j<m->0<=Qi m (Qs m (Qp R L)) f k j
theorem Dbl.round{m:Nat}{T:Mt2}{v:Mt1}(h:Dbl m T v)(tp:TP m T){y u:Mt1}(y0:∀j,j<m->0<=y j)(hu:Told m T (λj=>y j+QO m T v j) u):Told m T (λj=>y j+QO m T v j+QO m T v j) (λi=>v i+u i)/\∀j,j<m->Qi m T (λj=>y j+QO m T v j) u j=Qi m T (λj=>y j+QO m T v j+QO m T v j) (λi=>v i+u i) j:=by
 refine h.told.lay (λj hj=>?_) (λj hj=>?_) hu
 ·have b:=h.big hj;have:=h.told.stb j hj;have e:QO m T v j=2*(0-T j j)-Qi m T (λj=>2*(0-T j j)) v j:=rfl;have:=y0 j hj;omega
 ·have e:QO m T v j=2*(0-T j j)-Qi m T (λj=>2*(0-T j j)) v j:=rfl;omega
theorem Rec.comes{m:Nat}{T:Mt2}{v x w:Mt1}(tp:TP m T)(h:Dbl m T v)(hr:Rec m T v x)(hw:Told m T (λj=>x j+QO m T v j) w):∀j,j<m->Qi m T (λj=>x j+QO m T v j) w j=x j:=λj hj=>by
 obtain⟨y,u,y0,hu,ex⟩:=hr;obtain⟨t2,e2⟩:=h.round tp y0 hu;obtain⟨t1,e1⟩:=hu.lay (F':=λj=>y j+QO m T v j+QO m T v j) (λj hj=>by have:=h.big hj;have:=tp.neg j hj;show _<=y j+QO m T v j+QO m T v j;omega) (λj hj=>by show x j+_=_;rw[ex j hj];omega) hw;have one:=t1.one tp t2;rw[e1 j hj,ex j hj,e2 j hj];exact QaT j rfl one
theorem Dbl.pos(tp:TP m T)(h:Dbl m T v)(hj:j<m):1<=v j:=by
 refine ZX λz=>?_;have v0:v j=0:=by have:=h.told.leg.nonneg j;omega
 have s:=h.told.stb j hj;have:0<=Qn m λi=>v i*T i j:=Qna λi hi=>by
  by_cases e:i=j
  ·rw[e,v0,ZF];exact Zbe _
  ·exact Zaw (h.told.leg.nonneg i) (tp.pos i j hi hj e)
 have e:Qi m T (λj=>2*(0-T j j)) v j=2*(0-T j j)+Qn m λi=>v i*T i j:=rfl;have:=tp.neg j hj;omega
theorem Rec.QwQ{m:Nat}{T:Mt2}{v y u:Mt1}(tp:TP m T)(h:Dbl m T v)(y0:∀j,j<m->0<=y j)(hu:Told m T (λj=>y j+QO m T v j) u):∀N:Nat,Told m T (λj=>(y j+N*QO m T v j)+QO m T v j) (λi=>u i+N*v i)/\∀j,j<m->Qi m T (λj=>(y j+N*QO m T v j)+QO m T v j) (λi=>u i+N*v i) j=Qi m T (λj=>y j+QO m T v j) u j
 | 0=>by
  have e1:(λj=>(y j+((0:Nat):Int)*QO m T v j)+QO m T v j)=λj=>y j+QO m T v j:=by funext j;simp
  have e2:(λi=>u i+((0:Nat):Int)*v i)=u:=by funext i;simp
  rw[e1,e2];exact⟨hu,λ_ _=>rfl⟩
 | N+1=>by
  obtain⟨t,e⟩:=Rec.QwQ tp h y0 hu N;obtain⟨t2,e2⟩:=h.round tp (λj hj=>by
   have:=h.big hj;have:=tp.neg j hj;have:=Zaw (show(0:Int)<=N by omega) (show 0<=QO m T v j by omega);have:=y0 j hj;show 0<=y j+N*QO m T v j;omega) t
  have e3:(λj=>(y j+((N+1:Nat):Int)*QO m T v j)+QO m T v j)=λj=>y j+N*QO m T v j+QO m T v j+QO m T v j:=by
   funext j;rw[ZaJ,ZM];simp;omega
  have e4:(λi=>u i+((N+1:Nat):Int)*v i)=λi=>v i+(u i+N*v i):=by
   funext i;rw[ZaJ,ZM];simp;omega
  rw[e3,e4];exact⟨t2,λj hj=>by rw[← e2 j hj,e j hj]⟩
theorem QqI(j:Nat):Qi m T (Qi m T f c) d j=Qi m T f (λi=>c i+d i) j:=by
 unfold Qi;have:(λi=>(c i+d i)*T i j)=λi=>c i*T i j+d i*T i j:=by funext i;rw[ZM]
 rw[this,Qam];omega
theorem Qu4(d:Mt1):∃N:Nat,∀i,i<m-> -(N:Int)<=d i:=by
 induction m with
 | zero=>exact⟨0,λi hi=> ⋯⟩
 | succ m ih=>
  obtain⟨N,h⟩:=ih;refine⟨N+(d m).natAbs,λi hi=>?_⟩;by_cases e:i=m
  ·subst e;omega
  ·have:=h i ⋯;omega
theorem Rec.least{m:Nat}{T:Mt2}{v x d:Mt1}(tp:TP m T)(h:Dbl m T v)(hr:Rec m T v x)(hs:Stb m T (Qi m T x d)):∀i,i<m->0<=d i:=by
 obtain⟨y,u,y0,hu,ex⟩:=hr;obtain⟨N,hN⟩:=Qu4 d;obtain⟨t,e⟩:=Rec.QwQ tp h y0 hu N;have:=t.leg.least tp (c':=λi=>(u i+N*v i)+d i) (λi hi=>by
  have h1:=h.pos tp hi;have h2:=hu.leg.nonneg i;have h3:=hN i hi;have h4:=ZU h1 (show(0:Int)<=N by omega);show 0<=u i+N*v i+d i;omega) (λp hp=>by
  have:=hs p hp;rw[← QqI];have e2:Qi m T (Qi m T (λj=>(y j+N*QO m T v j)+QO m T v j) λi=>u i+N*v i) d p=Qi m T x d p:=QaT p (by rw[e p hp,ex p hp]) λ_ _=>rfl;rw[e2];exact this)
 intro i hi;have:=this i hi;omega
theorem Rec.one(tp:TP m T)(h:Dbl m T v)(h':Dbl m T v')(hr:Rec m T v x)(hr':Rec m T v' x')(sx:Stb m T x)(sx':Stb m T x')(e:∀j,j<m->x' j=Qi m T x d j):∀i,i<m->d i=0:=λi hi=>by
 have a:=hr.least tp h (λp hp=>by rw[← e p hp];exact sx' p hp) i hi;have b:=hr'.least tp h' (λp hp=>by
  have:Qi m T x' (λi=> -d i) p=x p:=by
   have q:Qi m T x' (λi=> -d i) p=Qi m T (Qi m T x d) (λi=> -d i) p:=QaT p (e p hp) λ_ _=>rfl;rw[q,QqI];unfold Qi;rw[Qj λi _=>by show(d i+ -d i)*T i p=0;rw[Int.add_right_neg,ZF],Qaw];omega
  rw[this];exact sx p hp) i hi
 omega
noncomputable def Qg7(QaF:Den)(QeQ:Den)(QeH:Den):DS:=(Qd (Qo 3 (QE kk1 (dOp Q9 (Qh 2 QaF [] (Qa vv0 (Qa kk0 Qe))) vv1))) (Qd (Qo 4 (dOp Q9 (dOp Qa4 (Qh 2 QaF [] (Qa vv0 (Qa kk1 Qe))) kk6) Qnm)) (Qd (Qo 5 (dOp Q9 (Qh 2 QaF [] (Qa vv0 (Qa kk1 Qe))) kk6)) (Qd (Qo 6 (QF (QaH (dOp Q9 (Qh 2 QaF [] (Qa vv0 (Qa kk2 Qe))) (QE vv2 kk1))) (.nm 1) [none,none,some 0] QN (Qh 2 QaF [] (Qa vv2 (Qa (QE kk3 vv1) Qe))))) (Qd (Qo 7 (Qh 4 QeH [] (Qa (Qh 3 QeQ [] (Qa vv3 (Qa vv4 (Qa vv5 Qe)))) (Qa vv6 (Qa vv3 (Qa vv5 Qe)))))) (Qd (sIf (QB (dOp gEq (dOp Q9 vv4 kk2) kk1)) (Qd (Qo 7 (Qoz vv7 (Qh6 kk1))) Qm) Qm) (Qd (Qo 8 (QF (QX vv7) (.tp [1,2,3]) [none,none,none,none] (Qcv (QB vv3)) (QaO (Qa (dBf QlL (Qa vv1 (Qa vv2 Qe))) (Qa (dBf Qll (Qa vv1 (Qa vv2 Qe))) Qe))))) (Qd (Qo 9 (QF (QX vv7) (.tp [1,2,3]) [none,none,none,none] (QB vv3) (QaO (Qa vv1 (Qa vv2 Qe))))) (Qd (QM (QaO (Qa vv3 (Qa vv8 (Qa vv9 Qe))))) Qm)))))))))
def Qm9(d:Den):Prop:=∀(ns:List Int) (most upto:Nat),ns.length<=63->(∀k,QaA (ns.getD k 0))->0<most->most<=8->upto<=20->∃(m:Nat) (R L:Lpp),d [.lst (ns.map .int),.int most,.int upto]=some (QI m R L,true)/\0<m/\m<=most/\Qbi m R L
theorem Qvn(hc:QjJ dc)(hb:QoO db)(hm:QpY dm):Qm9 (Qx 10 (Qg7 dc db dm)):=λns most upto hl hbits hm0 hm8 hup=>by
 obtain⟨F,hF⟩:=hc ns hl hbits;have b1:=ZA (F 0) (by omega:(most:Int)≠0);have b2:=Zz (F 0) (by omega:(0:Int)<most);obtain⟨m1,em1⟩:∃m:Nat,(m:Int)=1+F 0 % most:=⟨(1+F 0 % most).toNat,⋯⟩;have t1:=ZA (F 1 / 6) (by decide:(1000003:Int)≠0);have t2:=Zz (F 1 / 6) (by decide:(0:Int)<1000003);generalize et:F 1 / 6 % 1000003=t at t1 t2;generalize ek:F 1 % 6=kind;have u1:=ZA (F 2) (by omega:(upto:Int)+1≠0);have u2:=Zz (F 2) (by omega:(0:Int)<(upto:Int)+1);obtain⟨n,en⟩:∃n:Nat,(n:Int)=F 2 % ((upto:Int)+1):=⟨(F 2 % ((upto:Int)+1)).toNat,⋯⟩;have key:Run (Qg7 dc db dm) (Qau 10 [.lst (ns.map .int),.int most,.int upto]) (Rt λd fr=>∃(m:Nat) (R L:Lpp),d=QI m R L/\fr=true/\0<m/\m<=most/\Qbi m R L):=by
  have cell:∀(U:En) (k:Nat),k<=1000->U[0]? =some (slF (.lst (ns.map .int)))->Qh 2 dc [] (Qa (Qg 0) (Qa (dC (.int k)) Qe)) U=some (reI (F k)):=λU k hk h0=>Ql (Qq (QbD h0) (Qq (Qbo _ _) (QL _))) (hF k hk).1 rfl;refine rsa (QY rfl rfl (Q7 (cell _ 0 (by decide) rfl) rfl rfl rfl ⋯) rfl) ?_;rw[← em1];refine rsa (Q7 (Qhf (cell _ 1 (by decide) rfl) rfl rfl rfl (by decide) (by decide)) rfl rfl rfl (by decide)) ?_;rw[et];refine rsa (Q7 (cell _ 1 (by decide) rfl) rfl rfl rfl (by decide)) ?_;rw[ek];have m0:0<m1:= ⋯
  have m8:m1<=most:= ⋯
  have er:dOp Q9 (Qh 2 dc [] (Qa (Qg 0) (Qa (dC (.int 2)) Qe))) (QE (Qg 2) (dC (.int 1))) [slF (.lst (ns.map .int)),slI most,slI upto,slI m1,slI t,slI kind,none,none,none,none]=some (reI n):=
   (Q7 (cell _ 2 (by decide) rfl) rfl (QY rfl rfl rfl rfl) rfl ⋯).trans (by rw[en])
  refine rsa (d:= .lst (((List.range n).map λk=>F (3+k)).map .int)) ((QA (List.range n) (QaR er rfl ⋯) rfl λk hk=>⟨[none,slI k,slF (.lst (ns.map .int))],rfl,reI (F (3+k)),Ql (Qq rfl (Qq (QY (b:=k) rfl rfl rfl rfl) (QL _))) (by show dc [.lst (ns.map .int),.int (3+(k:Int))]=_;rw[show(3:Int)+k=((3+k:Nat):Int) by omega];exact(hF (3+k) (by have:=Zf.mp hk;omega)).1) rfl,rfl,rfl⟩).trans (by rw[Zam];rfl)) ?_;generalize hcs:(List.range n).map (λk=>F (3+k))=cs;have hcl:cs.length<=20:=by rw[← hcs,Zn,Zu];omega
  have hbase:=hb m1 t kind ⋯ ⋯ t1 ⋯;obtain⟨W',fr,hmore,hw1,hw2⟩:=hm m1 (Qcm m1 t kind) cs kind ⋯ ⋯ (by rw[QoI];omega) Qpa;have gW:∀w∈Qcm m1 t kind++W',GoodW m1 w:=λw hw=>(ZG.mp hw).elim (Qpa w) (hw2 w);have easgM:∀fr,asg 7 (if fr=true then(reT (Qaf (Qcm m1 t kind++W')))else R.norm ⟨Qaf (Qcm m1 t kind++W'),false,[6]⟩) [slF (.lst (ns.map .int)),slI most,slI upto,slI m1,slI t,slI kind,slT (.lst (cs.map .int)),none,none,none]=[slF (.lst (ns.map .int)),slI most,slI upto,slI m1,slI t,slI kind,some (.lst (cs.map .int),fr),some (Qaf (Qcm m1 t kind++W'),fr),none,none]:=λfr=>by cases fr<;>rfl
  refine run_seq (Qz (r:=if fr=true then(reT (Qaf (Qcm m1 t kind++W')))else R.norm ⟨Qaf (Qcm m1 t kind++W'),false,[6]⟩) ?_ ?_)
  ·have eargs:Qa (Qh 3 db [] (Qa (Qg 3) (Qa (Qg 4) (Qa (Qg 5) Qe)))) (Qa (Qg 6) (Qa (Qg 3) (Qa (Qg 5) Qe))) [slF (.lst (ns.map .int)),slI most,slI upto,slI m1,slI t,slI kind,slT (.lst (cs.map .int)),none,none,none]=some ⟨[Qaf (Qcm m1 t kind),.lst (cs.map .int),.int m1,.int kind],true,[6]⟩:=
    Qq (Ql (r:=⟨[.int m1,.int t,.int kind],true,[]⟩) rfl hbase rfl) (rs:=⟨[.lst (cs.map .int),.int m1,.int kind],true,[6]⟩) rfl
   exact(QhW eargs hmore rfl).trans (by cases fr<;>rfl)
  refine(congrArg (λU=>Run _ U _) (easgM fr)).mpr ?_;refine Qbl (P:=λU=>∃W b,(∀w∈Qcm m1 t kind,w∈W)/\(∀w∈W,GoodW m1 w)/\W.length<=200/\U=[slF (.lst (ns.map .int)),slI most,slI upto,slI m1,slI t,slI kind,some (.lst (cs.map .int),fr),some (Qaf W,b),none,none]) ?_ ?_
  ·have hlen:(Qcm m1 t kind++W').length<=200:=by rw[Zy,QoI];omega
   refine QU (QH (QaY (Q7 rfl rfl rfl rfl (by decide)) rfl rfl rfl) rfl) (λ_=>?_) (λ_=>?_)
   ·refine run_seq (Qz (Qta rfl) (Qt ?_));rw[Qae];exact⟨_,true,λw hw=>List.mem_reverse.mpr (Zg _ hw),λw hw=>gW w (List.mem_reverse.mp hw),by rw[ZbO];exact hlen,rfl⟩
   ·exact Qt ⟨_,fr,λw hw=>Zg _ hw,gW,hlen,rfl⟩
  ·rintro U ⟨W,b,w1,w2,w3,rfl⟩;refine rsa (QuG (QbD rfl) (by cases b<;>rfl)) ?_;refine rsa (Qur (QbD rfl) (by cases b<;>rfl)) ?_;exact Qy rfl ⟨m1,Qc2 W,QdI W,rfl,rfl,m0,m8,⟨W,Qwr.mono w1,w2,w3,rfl,rfl⟩⟩
 obtain⟨o,h1,h2⟩:=key;cases o with
 | rt d fr=>
  obtain⟨m,R,L,rfl,rfl,h3,h4,h5⟩:=h2;exact⟨m,R,L,by unfold Qx;rw[h1];rfl,h3,h4,h5⟩
 | _=>exact h2.elim
noncomputable def Qlt:DS:=(Qd (QM (QaO (Qa (Qr vv0 kk0) (Qa (dList (Qa (Qr vv0 kk1) Qe)) (Qa (dList (Qa (Qr vv0 kk2) Qe)) Qe))))) Qm)
def Qmi(d:Den):Prop:=∀(m:Int) (R L:Lpp),d [QI m R L]=some (QI m R L,true)
theorem QvT:Qmi (Qx 1 Qlt):=λm R L=>by
 refine QR (Qy (r:=reT (QI m R L)) ?_ ⟨rfl,rfl⟩);obtain⟨h1,h2,h3⟩:=QdF (fa:=Qg 0) (U:=[slF (QI m R L)]) rfl rfl;unfold QaO;refine(congrArg (λz=>Option.bind z _) (Qq h1 (Qq (Qkh (Qq h2 (QL _)) rfl rfl) (Qq (Qkh (Qq h3 (QL _)) rfl rfl) (QL _))))).trans ?_;rfl
noncomputable def QeB:DS:=(Qd (Qo 5 (QF (QaH vv1) (.nm 1) [none,none,some 3] QN (QZ vv2 (QE vv1 kk2)))) (Qd (QaV (QaH (dBf Q2 (Qa vv0 Qe))) (.nm 4) (Qd (Qo 6 (dOp Q9 vv4 vv1)) (Qd (Qo 7 (QE (QE (QZ (Qr vv5 vv6) QjA) (QZ (Qr vv0 vv4) vv3)) vv4)) (Qd (QbL 5 Qap vv6 (dOp Q9 vv7 (QE (QZ kk2 vv2) kk1))) Qm)))) (Qd (QM (QF (QX vv5) (.nm 1) [none,none,some 2] QN (dOp Qax (dOp Q9 vv1 (QE (QZ kk2 vv2) kk1)) vv2))) Qm)))
def Qmk(d:Den):Prop:=∀(ns:List Int) (m:Nat) (far by':Int),ns.length<=63->0<m->m<=8->0<=far->far<=10^17->0<=by'->by'<2^60->∃g,d [.lst (ns.map .int),.int m,.int far,.int by']=some (Qb m g,true)/\∀j,j<m-> -far<=g j/\g j<=far
theorem Qwi:Qmk (Qx 8 QeB):=λns m far by' hl m0 m8 f0 f1 y0 y1=>by
 have key:Run QeB [slF (.lst (ns.map .int)),slI m,slI far,slI by',none,none,none,none] λo=>match o with | .rt d fr=>fr=true/\∃g,d=Qb m g/\∀j,j<m-> -far<=g j/\g j<=far | _=>False:=by
  refine rsa (QA (List.range m) (QaR rfl rfl ⋯) rfl λk hk=>⟨[none,slI k,slI by'],rfl,reI (by'*((k:Int)+2)),Q5 rfl rfl (QY rfl rfl rfl rfl) rfl (QbP ⋯),rfl,rfl⟩) ?_;have efar:∀{U:En},U[2]? =some (slI far)->QE (QZ (dC (.int 2)) (Qg 2)) (dC (.int 1)) U=some (reI (2*far+1)):=λ{U} h=>QY (Q5 rfl rfl (QbD h) rfl (QbP (by decide))) rfl rfl rfl;refine QC (Qay (List.range ns.length) (λ_ U=>∃g j4 j6 j7,U=[slF (.lst (ns.map .int)),slI m,slI far,slI by',j4,slT (Qb m g),j6,j7]) (QaR ((Qcx rfl rfl).trans (by rw[Zn])) rfl ⋯) rfl ⟨_,none,none,none,rfl⟩ ?_ ?_)
  ·rintro k k' U hk ⟨g,j4,j6,j7,rfl⟩;have hk':k<ns.length/\k=k':=by
    obtain⟨h1,h2⟩:=Zk.mp hk;simp at h1 h2;exact⟨h1,h2⟩
   obtain⟨hkn,rfl⟩:=hk';have a1:=ZA (k:Int) (by omega:(m:Int)≠0);have a2:=Zz (k:Int) (by omega:(0:Int)<m);refine⟨[slF (.lst (ns.map .int)),slI m,slI far,slI by',slI k,slT (Qb m g),j6,j7],rfl,?_⟩;refine rsa (Q7 rfl rfl rfl rfl ⋯) ?_;generalize (k:Int) % m=at' at a1 a2;obtain⟨x,hx⟩:∃x,ns[k]? =some x:=⟨_,ZaW hkn⟩;refine rsa (QY (QY (Q5 (Qji rfl rfl rfl rfl a1 a2) rfl rfl rfl (Qcd (by decide))) rfl (Q5 (Qmj rfl rfl rfl rfl ⋯ (by rw[ZP];exact hx)) rfl rfl rfl (Qcd ⋯)) rfl) rfl rfl rfl) ?_;refine run_seq (QkD rfl rfl rfl (Q7 rfl rfl (efar rfl) rfl ⋯) rfl a1 a2 (Qt ?_));exact⟨_,_,_,_,rfl⟩
  ·rintro U ⟨g,j4,j6,j7,rfl⟩;refine Qy (QA (List.range m) (QW rfl rfl) rfl λj _=>⟨[none,slI (g j),slI far],rfl,reI (g j % (2*far+1)-far),QcA (Q7 rfl rfl (efar rfl) rfl ⋯) rfl rfl rfl,rfl,rfl⟩) ⟨rfl,_,rfl,λj _=>?_⟩;have:=ZA (g j) (by omega:2*far+1≠0);have:=Zz (g j) (by omega:0<2*far+1);omega
 obtain⟨o,h1,h2⟩:=key;cases o with
 | rt d fr=>
  obtain⟨rfl,g,rfl,hg⟩:=h2;exact⟨g,by show Option.bind (QeB [slF (.lst (ns.map .int)),slI m,slI far,slI by',none,none,none,none]) outD=_;rw[h1];rfl,hg⟩
 | _=>exact h2.elim
noncomputable def Qd2:DS:=(Qd (Qo 2 (dC (.bl true))) (Qd (QbS (QB vv2) (Qd (Qo 2 (dC (.bl false))) (Qd (QaV (QaH (dBf Q2 (Qa vv1 Qe))) (.nm 3) (Qd (Qo 4 (dOp Qa4 (Qr vv1 vv3) (dOp Qax kk0 (Qr (Qr vv0 vv3) vv3)))) (Qd (sIf (QB (dOp gGt vv4 kk0)) (Qd (Qo 1 (QF (Qaz vv1 (Qr vv0 vv3)) (.tp [1,2]) [none,none,none,some 4] QN (QE vv1 (QZ vv3 vv2)))) (Qd (Qo 2 (dC (.bl true))) Qm)) Qm) Qm))) Qm))) (Qd (QM vv1) Qm)))
def Qo8(d:Den):Prop:=∀(m:Nat) (T:Mt2) (f:Mt1),m<=1000->TP m T->(∀j,j<m->0<=f j)->∃c fr,d [Qc m m T,Qb m f]=some (Qb m (Qi m T f c),fr)/\Told m T f c
theorem Qo9{m:Nat}{T:Mt2}{f:Mt1}:Qi m T f (λ_=>0)=f:=by
 funext j;unfold Qi;rw[Qj λi _=>ZF _,Qaw,ZbA]
theorem Qyx:Qo8 (Qx 5 Qd2):=λm T f hm tp hpos=>by
 obtain⟨w,hw0,hw⟩:=tp.wt;have key:Run Qd2 [slF (Qc m m T),slF (Qb m f),none,none,none] (Rt λd fr=>∃k',d=Qb m (Qi m T f k')/\Leg m T f k'/\(∀j,j<m->0<=Qi m T f k' j)/\Stb m T (Qi m T f k')):=by
  refine rsa (d:= .bl true) rfl ?_;refine run_seq (Run.mono (Q:=Nx λU=>∃k' bh j2 j3 j4,Leg m T f k'/\(∀j,j<m->0<=Qi m T f k' j)/\Stb m T (Qi m T f k')/\U=[slF (Qc m m T),some (Qb m (Qi m T f k'),bh),j2,j3,j4]) ?_ ?_)
  ·refine QeT (λn U=>∃k' bz bh j3 j4,Leg m T f k'/\(∀j,j<m->0<=Qi m T f k' j)/\(bz=false->Stb m T (Qi m T f k'))/\n=(wtF m w (Qi m T f k')).toNat+(if bz=true then 1 else 0)/\U=[slF (Qc m m T),some (Qb m (Qi m T f k'),bh),slT (.bl bz),j3,j4]) ?_ _ _ ⟨λ_=>0,true,false,none,none,.nil,λj hj=>by rw[Qo9];exact hpos j hj,λh=>by(cases h),rfl,by rw[Qo9];rfl⟩;rintro n U ⟨k',bz,bh,j3,j4,hL,hP,hS,rfl,rfl⟩;refine⟨bz,QH (b:=bz) rfl rfl,λh=>⟨k',_,_,_,_,hL,hP,hS h,rfl⟩,λhb=>?_⟩;subst hb;refine rsa rfl ?_;refine QC (Run.mono (Q:=Nx λU=>∃k2 b2 bh j3 j4,Leg m T f k2/\(∀j,j<m->0<=Qi m T f k2 j)/\(b2=false->Stb m T (Qi m T f k2))/\(wtF m w (Qi m T f k2)+(if b2=true then 1 else 0)<=wtF m w (Qi m T f k'))/\U=[slF (Qc m m T),some (Qb m (Qi m T f k2),bh),slT (.bl b2),j3,j4]) ?_ ?_)
   ·refine Qay (List.range m) (λi U=>∃k2 b2 bh j3 j4,Leg m T f k2/\(∀j,j<m->0<=Qi m T f k2 j)/\(b2=false->∀p,p<i->Qi m T f k2 p<0-T p p)/\(wtF m w (Qi m T f k2)+(if b2=true then 1 else 0)<=wtF m w (Qi m T f k'))/\U=[slF (Qc m m T),some (Qb m (Qi m T f k2),bh),slT (.bl b2),j3,j4]) (QaR ((by cases bh;exact Qcx rfl rfl;exact Qcx rfl rfl:dBf Q2 (Qa (Qg 1) Qe) _=some (reT (.int ((List.range m).map λi=>D.int (Qi m T f k' i)).length))).trans (by rw[Zn,Zu])) rfl ⋯) rfl ⟨k',false,_,_,_,hL,hP,λ_ p hp=>absurd hp ⋯,by simp,rfl⟩ ?_ ?_
    ·rintro i p U hi ⟨k2,b2,bh,j3,j4,hL2,hP2,hS2,hW2,rfl⟩;have hp':i<m/\i=p:=by
      obtain⟨h1,h2⟩:=Zk.mp hi;simp at h1 h2;exact⟨h1,h2⟩
     obtain⟨him,rfl⟩:=hp';have hneg:=tp.neg i him;have hb:=tp.bnd i i him him;have h0:=hP2 i him;refine⟨[slF (Qc m m T),some (Qb m (Qi m T f k2),bh),slT (.bl b2),slI i,j4],rfl,?_⟩;have eT:Qr (Qg 0) (Qg 3) [slF (Qc m m T),some (Qb m (Qi m T f k2),bh),slT (.bl b2),slI i,j4]=some (reF (Qb m (T i))):=(Qc6 rfl rfl rfl rfl ⋯ ⋯).trans rfl;have eh:Qr (Qg 1) (Qg 3) [slF (Qc m m T),some (Qb m (Qi m T f k2),bh),slT (.bl b2),slI i,j4]=some (reI (Qi m T f k2 i)):=by
      cases bh
      ·exact Q6 rfl rfl rfl rfl him
      ·exact Q6 rfl rfl rfl rfl him
     refine rsa (QqV eh rfl (QcA rfl rfl (Q6 eT rfl rfl rfl him) rfl) rfl ⋯ ⋯) ?_;generalize et:Qi m T f k2 i / (0-T i i)=t;have t0:0<=t:=by rw[← et];exact Zcp h0 ⋯
     refine QC (QU (QH rfl rfl) (λh=>?_) (λh=>?_))
     ·have h:=of_decide_eq_true h;have hle:t*(0-T i i)<=Qi m T f k2 i:=by rw[← et];exact Qk9 ⋯
      refine run_seq (Qz (r:=reT (Qb m (Qi m T f (up k2 i (k2 i+t))))) ?_ ?_)
      ·have e:=QA (fi:=Qaz (Qg 1) (Qr (Qg 0) (Qg 3))) (t:= .tp [1,2]) (cap:=[none,none,none,some 4]) (fe:=QE (Qg 1) (QZ (Qg 3) (Qg 2))) (U:=[slF (Qc m m T),some (Qb m (Qi m T f k2),bh),slT (.bl b2),slI i,slI t])
        (List.range m) (ir:=⟨(List.range m).map λj=> .tup [.int (Qi m T f k2 j),.int (T i j)],if bh=true then [1]else []⟩) (by
         have eT':Qr (Qg 0) (Qg 3) [slF (Qc m m T),some (Qb m (Qi m T f k2),bh),slT (.bl b2),slI i,slI t]=some (reF (Qb m (T i))):=(Qc6 rfl rfl rfl rfl ⋯ ⋯).trans rfl;cases bh
         ·exact QaG (ra:=reF (Qb m (Qi m T f k2))) rfl rfl eT' rfl
         ·exact QaG (ra:=⟨Qb m (Qi m T f k2),true,[1]⟩) rfl rfl eT' rfl) rfl λj hj=>by
         have hj:=Zf.mp hj;exact⟨[none,slI (Qi m T f k2 j),slI (T i j),slI t],rfl,_,QY rfl rfl (Q5 rfl rfl rfl rfl (Qcd (tp.bnd i j him hj))) rfl,rfl,rfl⟩
       refine e.trans ?_;congr 2;show D.lst _=D.lst _;congr 1;refine ZD λj _=>?_;rw[Qhb him]
      ·rw[Qae];refine run_seq (Qz rfl (Qt (Qt ?_)));rw[Qae];have hup:=QwI hw (f:=f) (c:=k2) him t0;refine⟨up k2 i (k2 i+t),true,true,_,_,.step hL2 him t0 hle,λj hj=>?_,λz=>(by cases z),?_,rfl⟩
       ·rw[Qhb him];by_cases hji:j=i
        ·subst hji;have:t*T j j= -(t*(0-T j j)):=by rw[Zag,ZaD,ZbJ]
         omega
        ·have:=hP2 j hj;have:=Zaw t0 (tp.pos i j him hj (λz=>hji z.symm));omega
       ·rw[if_pos rfl];have:(0:Int)<=if b2=true then 1 else 0:=by split<;>omega
        omega
     ·have h:=of_decide_eq_false h;refine Qt (Qt ⟨k2,b2,bh,_,_,hL2,hP2,λhb2 p hp=>?_,hW2,rfl⟩);by_cases hpi:p=i
      ·subst hpi;exact QkY ⋯ (by rw[et];exact h) h0
      ·exact hS2 hb2 p ⋯
    ·rintro U ⟨k2,b2,bh,j3,j4,hL2,hP2,hS2,hW2,rfl⟩;rw[Zu]at hS2;exact⟨k2,b2,bh,_,_,hL2,hP2,hS2,hW2,rfl⟩
   ·intro o ho;cases o with
    | nx U=>
     obtain⟨k2,b2,bh,j3,j4,hL2,hP2,hS2,hW2,rfl⟩:=ho;refine Qt ⟨_,?_,k2,b2,bh,_,_,hL2,hP2,hS2,rfl,rfl⟩;have n1:=Qnn hw0 hP2;rw[if_pos rfl];cases b2<;>simp at hW2 ⊢ <;>omega
    | _=>exact ho.elim
  ·intro o ho;cases o with
   | nx U=>
    obtain⟨k',bh,j2,j3,j4,hL,hP,hS,rfl⟩:=ho;cases bh
    ·exact Qy rfl ⟨k',rfl,hL,hP,hS⟩
    ·exact Qy rfl ⟨k',rfl,hL,hP,hS⟩
   | _=>exact ho.elim
 obtain⟨o,h1,h2⟩:=key;cases o with
 | rt d fr=>
  obtain⟨k',rfl,h3,h4,h5⟩:=h2;exact⟨k',fr,by show Option.bind (Qd2 [slF (Qc m m T),slF (Qb m f),none,none,none]) outD=_;rw[h1];rfl,h3,h4,h5⟩
 | _=>exact h2.elim
noncomputable def Qkn(Qbp:Den):DS:=(Qd (QaV (QaH (dBf Q2 (Qa vv1 Qe))) (.nm 2) (Qd (sIf (bOr (QB (dOp gLt (Qr vv1 vv2) kk0)) (QB (dOp gGe (Qr vv1 vv2) (dOp Qax kk0 (Qr (Qr vv0 vv2) vv2))))) (Qd (QM (dC (.bl false))) Qm) Qm) Qm)) (Qd (Qo 3 (QF (QaH (dBf Q2 (Qa vv1 Qe))) (.nm 1) [none,none,some 0] QN (dOp Qax kk0 (QZ kk2 (Qr (Qr vv2 vv1) vv1))))) (Qd (Qo 4 (Qh 2 Qbp [] (Qa vv0 (Qa vv3 Qe)))) (Qd (Qo 5 (QF (Qhj vv1 vv3 vv4) (.tp [1,2,3]) [none,none,none,none] QN (dOp Qax (QE vv1 vv2) vv3))) (Qd (QM (dOp gEq (Qh 2 Qbp [] (Qa vv0 (Qa vv5 Qe))) vv1)) Qm)))))
def Qi7(d:Den):Prop:=∀(m:Nat) (T:Mt2) (x v:Mt1),0<m->m<=8->TP m T->Dbl m T v->Rec m T v x->Stb m T x->(∀j,j<m->0<=x j)->d [Qc m m T,Qb m x]=some (.bl true,true)
theorem Rec.of{m:Nat}{T:Mt2}{v v' x:Mt1}(tp:TP m T)(h:Dbl m T v)(h':Dbl m T v'):∀j,QO m T v' j=QO m T v j:=λj=>by
 have e:=h.told.one tp h'.told;rw[Qgn,Qgn];exact congrArg (λz=> -z) (Qj λi hi=>by rw[e i hi])
theorem Qrx{dm:Den}(hm:Qo8 dm):Qi7 (Qx 6 (Qkn dm)):=λm T x v m0 m8 tp Dv hr sx x0=>by
 have neg:=tp.neg;obtain⟨v',fr1,e1,t1⟩:=hm m T (λj=>2*(0-T j j)) ⋯ tp λj hj=>by have:=neg j hj;omega
 have D':Dbl m T v':=⟨t1⟩;have mo:=Rec.of (x:=x) tp Dv D';have hz:∀j,x j+2*(0-T j j)-Qi m T (λj=>2*(0-T j j)) v' j=x j+QO m T v j:=λj=>by
  rw[← mo j];unfold QO;omega
 obtain⟨w,fr2,e2,t2⟩:=hm m T (λj=>x j+QO m T v j) ⋯ tp λj hj=>by
  have:=x0 j hj;have:=Dv.big hj;have:=neg j hj;omega
 have back:=hr.comes tp Dv t2;have eb:Qb m (Qi m T (λj=>x j+QO m T v j) w)=Qb m x:=congrArg D.lst (ZD λj hj=>by rw[back j (Zf.mp hj)]);rw[eb]at e2;have elen:∀{U:En},U[1]? =some (slF (Qb m x))->dBf Q2 (Qa (Qg 1) Qe) U=some (reI m):=λ{U} h=>(Qcx (QbD h) rfl).trans (by rw[Zn,Zu]);refine QR ?_;refine QC (Qay (List.range m) (λ_ U=>∃j2,U=[slF (Qc m m T),slF (Qb m x),j2,none,none,none]) (QaR (elen rfl) rfl ⋯) rfl ⟨none,rfl⟩ ?_ ?_)
 ·rintro i p U hi ⟨j2,rfl⟩;have hp':i<m/\i=p:=by
   obtain⟨h1,h2⟩:=Zk.mp hi;simp at h1 h2;exact⟨h1,h2⟩
  obtain⟨him,rfl⟩:=hp';have ex:Qr (Qg 1) (Qg 2) [slF (Qc m m T),slF (Qb m x),slI i,none,none,none]=some (reI (x i)):=Q6 rfl rfl rfl rfl him;have eT:Qr (Qr (Qg 0) (Qg 2)) (Qg 2) [slF (Qc m m T),slF (Qb m x),slI i,none,none,none]=some (reI (T i i)):=Q6 ((Qc6 rfl rfl rfl rfl ⋯ ⋯).trans rfl) rfl rfl rfl him;refine⟨[slF (Qc m m T),slF (Qb m x),slI i,none,none,none],rfl,?_⟩;refine QC (QU (b:=false) ((QbA (a:=false) (QH (Qag ex rfl ?_) rfl) (QH (Qag ex (QcA rfl rfl eT rfl) ?_) rfl)).trans rfl) (λh=>by cases h) (λ_=>Qt (Qt ⟨_,rfl⟩)))
  ·show some (D.bl (decide (x i<0)))=_;rw[decide_eq_false (by have:=x0 i him;omega)]
  ·show some (D.bl (decide (0-T i i<=x i)))=_;rw[decide_eq_false (by have:=sx i him;omega)]
 rintro U ⟨j2,rfl⟩;refine rsa (QA (List.range m) (QaR (elen rfl) rfl ⋯) rfl λj hj=>⟨[none,slI j,slF (Qc m m T)],rfl,reI (0-2*T j j),QcA rfl rfl (Q5 rfl rfl (Q6 ((Qc6 rfl rfl rfl rfl ⋯ (by have:=Zf.mp hj;omega)).trans rfl) rfl rfl rfl (Zf.mp hj)) rfl (QbP (by decide))) rfl,by show D.int (0-2*T j j)=D.int (2*(0-T j j));rw[show 0-2*T j j=2*(0-T j j) by omega],rfl⟩) ?_;have ea:∀fr,asg 4 (if fr=true then(reT (Qb m (Qi m T (λj=>2*(0-T j j)) v')))else R.norm ⟨Qb m (Qi m T (λj=>2*(0-T j j)) v'),false,[3]⟩) [slF (Qc m m T),slF (Qb m x),j2,slT (Qb m λj=>2*(0-T j j)),none,none]=[slF (Qc m m T),slF (Qb m x),j2,some (Qb m λj=>2*(0-T j j),fr),some (Qb m (Qi m T (λj=>2*(0-T j j)) v'),fr),none]:=λfr=>by cases fr<;>rfl
 refine run_seq (Qz (QhW rfl e1 rfl) ?_);refine(congrArg (λU=>Run _ U _) (ea fr1)).mpr ?_;refine run_seq (Qz (QA (List.range m) (ir:=⟨(List.range m).map λj=> .tup [.int (x j),.int (2*(0-T j j)),.int (Qi m T (λj=>2*(0-T j j)) v' j)],if fr1=true then [3,4]else []⟩) (by
  cases fr1
  ·exact QkC (ra:=reF (Qb m x)) rfl rfl (rb:=reF (Qb m λj=>2*(0-T j j))) rfl rfl (rc:=reF (Qb m (Qi m T (λj=>2*(0-T j j)) v'))) rfl rfl
  ·exact QkC (ra:=reF (Qb m x)) rfl rfl (rb:=⟨Qb m λj=>2*(0-T j j),true,[3]⟩) rfl rfl (rc:=⟨Qb m (Qi m T (λj=>2*(0-T j j)) v'),true,[4]⟩) rfl rfl) rfl λj _=>⟨[none,slI (x j),slI (2*(0-T j j)),slI (Qi m T (λj=>2*(0-T j j)) v' j)],rfl,reI (x j+2*(0-T j j)-Qi m T (λj=>2*(0-T j j)) v' j),QcA (QY rfl rfl rfl rfl) rfl rfl rfl,by rw[hz j],rfl⟩) ?_)
 rw[Qae];cases fr2
 ·exact Qy (Qjg ((Qb1 (r:=⟨[Qc m m T,Qb m λj=>x j+QO m T v j],false,[5]⟩) rfl e2 rfl).trans rfl) rfl rfl rfl (QdH 7 _ _)) ⟨rfl,rfl⟩
 ·exact Qy (Qjg (Ql rfl e2 rfl) rfl rfl rfl (QdH 7 _ _)) ⟨rfl,rfl⟩
theorem QqQ(h:fa U=some r)(e:r.d= .tup [a,b]):Qr fa (dC (.int 0)) U=some (HS.R.norm ⟨a,r.fr,r.M⟩)/\Qr fa (dC (.int 1)) U=some (HS.R.norm ⟨b,r.fr,r.M⟩):=by
 unfold Qr;rw[h];simp only[Za,e,Qbo];exact⟨rfl,rfl⟩
structure QoN (m:Nat) (T:Mt2) (f k:Mt1):Prop where
 ex:∃v,Dbl m T v/\Rec m T v (Qi m T f k)
 stb:Stb m T (Qi m T f k)
 nn:∀j,j<m->0<=Qi m T f k j
theorem QxV(j:Nat):Qi m T f (λ_=>0) j=f j:=by
 unfold Qi;rw[Qj λi _=>by rw[ZF],Qaw,ZbA]
theorem QAx(tp:TP m T)(hx:QoN m T f k)(hz:QoN m T g k')(e:∀j,j<m->Qi m T g k' j=Qi m T (Qi m T f k) d j):∀j,j<m->Qi m T g k' j=Qi m T f k j:=λj hj=>by
 obtain⟨v,hd,hr⟩:=hx.ex;obtain⟨v',hd',hr'⟩:=hz.ex;have z:=Rec.one tp hd hd' hr hr' hx.stb hz.stb e;rw[e j hj,QaT j rfl z,QxV]
theorem QyV{m:Nat}{T:Mt2}{k:Mt1}(j:Nat):(Qn m λi=> -k i*T i j)= -Qn m λi=>k i*T i j:=by
 rw[← QcO];exact Qj λi _=>by rw[Zad]
theorem QsX{m:Nat}{T:Mt2}{a b:Mt1}(j:Nat):(Qn m λi=>(a i-b i)*T i j)=(Qn m λi=>a i*T i j)-Qn m λi=>b i*T i j:=by
 rw[Qj (g:=λi=>a i*T i j+ -(b i*T i j)) λi _=>by rw[Int.sub_mul];omega,Qam,QcO];omega
theorem QxC(tp:TP m T)(hs:Stb m T x)(h0:∀j,j<m->0<=x j):∀j,j<m->0<=x j/\x j<=2^100:=λj hj=>by
 have h1:=hs j hj;have h2:=h0 j hj;have h3:=tp.bnd j j hj hj;have:(2:Int)^64<=2^100:=by decide
 omega
theorem QkT{n:Nat}(ha:fa U=some ra)(ea:ra.d=Qb m f)(hb:fb U=some rb)(eb:rb.d= .int n)(h:n<=m):QbX fa (Qba fb) Qa9 U=some (reT (Qb (m-n) λi=>f (n+i))):=by
 have cut:cutD ((List.range m).map λi=>D.int (f i)) (some (n:Int)) none=(List.range (m-n)).map λi=>D.int (f (n+i)):=by
  unfold cutD;simp only[Zn,Zu,HT.Qkd,HT.QmO];rw[Zbo h,← List.map_drop,← Zcq];have e:((List.range m).drop n).take (m-n)=(List.range (m-n)).map λi=>n+i:=by
   rw[Zby (by simp)];refine ZaV λi=>?_;rw[List.getElem?_drop,Zr];by_cases hi:i<m-n
   ·rw[ZK ⋯,ZK hi];rfl
   ·rw[Zv (by simp;omega),Zv (by simp;omega)];rfl
  rw[e,Zam];rfl
 unfold QbX Qa9 Qba;simp only[ha,hb,Za,ea,eb,Qb,cut,Qa0];have:Qak ((List.range (m-n)).map λi=>D.int (f (n+i)))=true:=by
  have:=Qro ((List.range (m-n)).map λi=>f (n+i));rw[Zam]at this;exact this
 rw[if_pos this]
theorem Qqz(hA:∀j,j<n->∀r,r<n->(A j r).natAbs<=2^200)(hl:Qo6 n A):det n A≠0:=by
 obtain⟨m,R,d,C⟩:=QpI (Zi n) hA hl n (Zi n);have e2:det n A=d:=by
  rw[← C.clr.det];exact Q3 λj hj r _=>by rw[C.clr.own j hj]
 rw[e2];exact C.clr.nz
theorem Qbi.small{m:Nat}{R L:Lpp}(hw:Qbi m R L){i j:Nat}(hi:i<m)(hj:j<m):(Qs m (Qp R L) i j).natAbs<=600:=by
 have g:=hw.good;have gs:=Qcl g.1 g.2.1;rw[Qcp hi hj λs hs=>⟨(gs s hs).1,(gs s hs).2.1⟩];refine Zt (QeJ i j _) ?_;unfold Qp;rw[Zy,Zy,Zn];omega
noncomputable def QcG(T:Mt2):Nat->Nat->Int:=λi j=>0-T i j
theorem Qbi.big{m:Nat}{R L:Lpp}(hw:Qbi m R L):∀j,j<m->∀r,r<m->(QcG (Qs m (Qp R L)) j r).natAbs<=2^200:=λj hj r hr=>by
 have:=hw.small hj hr;have:(600:Nat)<=2^200:=by decide
 unfold QcG;omega
noncomputable def Qrn:DS:=(Qd (QM (QF (QaH vv0) (.nm 1) [none,none,some 1] QN (dIf (QB (dOp gEq vv1 vv2)) kk1 kk0))) Qm)
def QlJ(d:Den):Prop:=∀(n p:Nat),n<=1000->d [.int n,.int p]=some (Qb n λi=>if i=p then 1 else 0,true)
theorem Qw2:QlJ (Qx 2 Qrn):=λn p hn=>by
 refine QR (Qy (QA (List.range n) (QaR rfl rfl ⋯) rfl λi _=>⟨[none,slI i,slI p],rfl,reI (if i=p then 1 else 0),?_,rfl,rfl⟩) ⟨rfl,rfl⟩);unfold dIf;rw[QH (QaY rfl rfl rfl rfl) rfl,Za];by_cases z:i=p
 ·rw[if_pos z,if_pos (by rw[z];simp)];rfl
 ·rw[if_neg z,if_neg (by simp;omega)];rfl
structure Alt (n:Nat) (φ:(Nat->Nat->Int)->Int):Prop where
 congr:∀{m k:Mt2},(∀j,j<n->∀r,r<n->m j r=k j r)->φ m=φ k
 lin:∀(m:Mt2) (c:Nat),c<n->∀(x y:Int) (a b:Mt1),φ (cup m c λr=>x*a r+y*b r)=x*φ (cup m c a)+y*φ (cup m c b)
 alt:∀{m:Mt2}{i j:Nat},i<n->j<n->i≠j->m i=m j->φ m=0
section
theorem Alt.add(h:Alt n φ)(hc:c<n)(a b:Mt1):φ (cup m c λr=>a r+b r)=φ (cup m c a)+φ (cup m c b):=by
 have:=h.lin m c hc 1 1 a b;simpa only[ZQ]using this
theorem Alt.mul(h:Alt n φ)(hc:c<n)(x:Int)(a:Mt1):φ (cup m c λr=>x*a r)=x*φ (cup m c a):=by
 have:=h.lin m c hc x 0 a a;simpa only[ZF,ZbA]using this
theorem Alt.swap(h:Alt n φ)(hc:c<n)(hd:d<n)(hcd:c≠d)(a b:Mt1):φ (cup (cup m c a) d b)= -φ (cup (cup m c b) d a):=by
 have z:=h.alt (m:=cup (cup m c λr=>a r+b r) d λr=>a r+b r) hc hd hcd (by rw[QJ,QD _ _ hcd,QJ]);have za:=h.alt (m:=cup (cup m c a) d a) hc hd hcd (by rw[QJ,QD _ _ hcd,QJ]);have zb:=h.alt (m:=cup (cup m c b) d b) hc hd hcd (by rw[QJ,QD _ _ hcd,QJ]);rw[h.add hd,Qan _ _ _ hcd,h.add hc,Qan _ _ _ hcd,h.add hc,Qan _ _ _ (Ne.symm hcd),Qan _ _ _ (Ne.symm hcd),Qan _ _ _ (Ne.symm hcd),Qan _ _ _ (Ne.symm hcd),za,zb]at z;omega
theorem Alt.sum(h:Alt n φ)(hc:c<n)(x:Mt1)(E:Mt2):∀k,φ (cup m c λr=>sm k λs=>x s*E s r)=sm k λs=>x s*φ (cup m c (E s))
 | 0=>by
  have:=h.mul (m:=m) hc 0 λ_=>0;rw[ZF]at this;unfold sm;simpa using this
 | k+1=>by
  unfold sm;rw[h.add hc,h.sum hc x E k,h.mul hc]
theorem QqG(n:Nat):Alt n (det n):=⟨Q3,λm c hc x y a b=>Qhd x y a b n m c hc a b,λhi hj hij e=>QeZ hi hj hij e⟩
theorem Qks(h:Alt n φ):∀(g t:Nat) (σ:Nat->Nat),t+g=n->(∀j,j<t->σ j=j)->(∀j,j<n->σ j<n)->φ (λj=>QG (σ j))=det n (λj=>QG (σ j))*φ QG
 | 0,t,σ,e,hp,hn=>by
  have h1:∀j,j<n->∀r,r<n->QG (σ j) r=QG j r:=λj hj r _=>by rw[hp j ⋯]
  rw[h.congr h1,Q3 h1,QeF,ZQ]
 | g+1,t,σ,e,hp,hn=>by
  by_cases ht:σ t=t
  ·exact Qks h g (t+1) σ ⋯ (λj hj=>by
    by_cases z:j=t
    ·rw[z];exact ht
    ·exact hp j ⋯) hn
  ·by_cases ex:∃i,i<n/\σ i=t
   ·obtain⟨i,hi,hs⟩:=ex;have hti:t<i:=by
     rcases Nat.lt_trichotomy i t with z | z | z
     ·have:=hp i z;omega
     ·subst z;exact absurd hs ht
     ·exact z
    have hne:t≠i:= ⋯
    have sw:∀{ψ:(Nat->Nat->Int)->Int},Alt n ψ->ψ (λj=>QG (σ j))= -ψ (λj=>QG (if j=t then σ i else if j=i then σ t else σ j)):=λ{ψ} hψ=>by
     have:=hψ.swap (m:=λj=>QG (σ j)) ⋯ hi hne (QG (σ t)) (QG (σ i));have e1:cup (cup (λj=>QG (σ j)) t (QG (σ t))) i (QG (σ i))=λj=>QG (σ j):=by
      rw[Qal (λj=>QG (σ j)) t,Qal (λj=>QG (σ j)) i]
     have e2:cup (cup (λj=>QG (σ j)) t (QG (σ i))) i (QG (σ t))=λj=>QG (if j=t then σ i else if j=i then σ t else σ j):=by
      funext j;by_cases z1:j=i
      ·subst z1;rw[QJ,if_neg (Ne.symm hne),if_pos rfl]
      ·rw[QD _ _ z1];by_cases z2:j=t
       ·subst z2;rw[QJ,if_pos rfl]
       ·rw[QD _ _ z2,if_neg z2,if_neg z1]
     rw[e1,e2]at this;exact this
    rw[sw h,sw (QqG n),Zad];congr 1;refine Qks h g (t+1) _ ⋯ (λj hj=>?_) (λj hj=>?_)
    ·by_cases z:j=t
     ·rw[if_pos z,hs,z]
     ·rw[if_neg z,if_neg ⋯];exact hp j ⋯
    ·split
     ·exact hn i hi
     ·split
      ·exact hn t ⋯
      ·exact hn j hj
   ·obtain⟨k,hk⟩:∃k,n=k+1:=⟨n-1,⋯⟩;obtain⟨i,j,hi,hj,hij,he⟩:=Qow (n:=k) (λj=>if σ j<t then σ j else σ j-1) λj hj=>by
     have h1:=hn j ⋯;have h2:σ j≠t:=λz=>ex ⟨j,⋯,z⟩;split<;>omega
    have hs:σ i=σ j:=by
     have h1:σ i≠t:=λz=>ex ⟨i,⋯,z⟩;have h2:σ j≠t:=λz=>ex ⟨j,⋯,z⟩;split at he<;>split at he<;>omega
    have e1:(λj=>QG (σ j)) i=(λj=>QG (σ j)) j:=by show QG (σ i)=QG (σ j);rw[hs]
    rw[h.alt ⋯ ⋯ hij e1,(QqG n).alt ⋯ ⋯ hij e1,ZF]
theorem Qk3(h:Alt n φ)(m:Mt2):φ m=det n m*φ QG:=by
 have key:∀k,k<=n->∀m:Nat->Nat->Int,(∃σ:Nat->Nat,∀j,k<=j->j<n->σ j<n/\m j=QG (σ j))->φ m=det n m*φ QG:=by
  intro k
  induction k with
  | zero=>
   rintro _ m ⟨σ,hσ⟩;have h1:∀j,j<n->∀r,r<n->m j r=(λj=>QG (σ j)) j r:=λj hj r _=>by rw[(hσ j ⋯ hj).2]
   rw[h.congr h1,Q3 h1];exact Qks h n 0 σ ⋯ (λj hj=> ⋯) λj hj=>(hσ j ⋯ hj).1
  | succ k ih=>
   rintro hk m ⟨σ,hσ⟩;have hcol:∀j,j<n->∀r,r<n->m j r=cup m k (λr=>sm n λs=>m k s*QG s r) j r:=λj hj r hr=>by
    by_cases z:j=k
    ·subst z;rw[QJ,Qdf hr λi _ ne=>by rw[show QG i r=0 by unfold QG;rw[if_neg ne],ZI],show QG r r=1 by unfold QG;rw[if_pos rfl],Zab]
    ·rw[QD _ _ z]
   rw[h.congr hcol,Q3 hcol,h.sum ⋯,QdD ⋯,← Qnk];refine Qbn λs hs=>?_;rw[ZE];congr 1;refine ih ⋯ _ ⟨λj=>if j=k then s else σ j,λj h1 h2=>?_⟩;show(if j=k then s else σ j)<n/\cup m k (QG s) j=QG (if j=k then s else σ j);by_cases z:j=k
   ·subst z;rw[if_pos rfl,QJ];exact⟨hs,rfl⟩
   ·rw[if_neg z,QD _ _ z];exact hσ j ⋯ h2
 exact key n (Zi n) m ⟨id,λj h1 h2=> ⋯⟩
end
noncomputable def rup(m:Mt2)(c:Nat)(a:Mt1):Nat->Nat->Int:=λj r=>if r=c then a j else m j r
theorem Qrb(x y:Int):∀(n:Nat) (m:Mt2) (c:Nat),c<n->∀(a b:Mt1),det n (rup m c λj=>x*a j+y*b j)=x*det n (rup m c a)+y*det n (rup m c b)
 | 0,_,_,h,_,_=> ⋯
 | n+1,m,c,h,a,b=>by
  unfold det;rw[← Qix];refine Qbn λj hj=>?_;cases c with
  | zero=>
   have e:∀a:Nat->Int,(λc' r=>rup m 0 a (skp j c') (r+1))=λc' r=>m (skp j c') (r+1):=λa=>by
    funext c' r;unfold rup;rw[if_neg ⋯]
   rw[e,e,e];unfold rup;simp only[if_pos];generalize det n _=q;generalize sgn j=s;simp only[Zay,ZM,ZE,ZO]
  | succ c=>
   have e:∀a:Nat->Int,(λc' r=>rup m (c+1) a (skp j c') (r+1))=rup (λc' r=>m (skp j c') (r+1)) c λc'=>a (skp j c'):=λa=>by
    funext c' r;unfold rup;by_cases z:r=c
    ·rw[if_pos ⋯,if_pos z]
    ·rw[if_neg ⋯,if_neg z]
   rw[e,e,e,Qrb x y n _ c ⋯ (λc'=>a (skp j c')) λc'=>b (skp j c')];have e0:∀a:Nat->Int,rup m (c+1) a j 0=m j 0:=λa=>by unfold rup;rw[if_neg ⋯]
   rw[e0,e0,e0];generalize det n _=q;generalize det n _=q';generalize sgn j*m j 0=s;simp only[Zay,ZO]
noncomputable def trp(a b r:Nat):Nat:=if r=a then b else if r=b then a else r
theorem QuC(m:Mt2)(ha:a<n)(hb:b<n)(hab:a≠b):det n (λj r=>m j (trp a b r))= -det n m:=by
 have tb:∀r,r<n->trp a b r<n:=λr hr=>by
  unfold trp;split
  ·exact hb
  ·split
   ·exact ha
   ·exact hr
 have h:Alt n λm=>det n λj r=>m j (trp a b r):=by
  have hcup:∀(m:Mt2) (c:Nat) (v:Mt1),(λj r=>cup m c v j (trp a b r))=cup (λj r=>m j (trp a b r)) c λr=>v (trp a b r):=λm c v=>by
   funext j r;by_cases z:j=c
   ·subst z;rw[QJ,QJ]
   ·rw[QD _ _ z,QD _ _ z]
  refine⟨λhm=>Q3 λj hj r hr=>hm j hj _ (tb r hr),λm c hc x y v w=>?_,λ{m i j} hi hj hij e=>QeZ hi hj hij (by funext r;rw[e])⟩;rw[hcup,hcup,hcup,← Qhd x y (λr=>v (trp a b r)) (λr=>w (trp a b r)) n _ c hc]
 have e:=Qk3 h m;rw[e];have u:det n (λj r=>QG j (trp a b r))= -1:=by
  have e1:=Qdw (m:=QG) ha hb hab (QG b) (QG a);rw[show cup (cup QG a (QG a)) b (QG b)=QG by rw[Qal,Qal],QeF]at e1;rw[← e1];refine Q3 λj hj r hr=>?_;by_cases z1:j=b
  ·subst z1;rw[QJ];unfold QG trp;by_cases q1:r=a
   ·rw[if_pos q1,if_pos rfl,if_pos q1.symm]
   ·rw[if_neg q1];by_cases q2:r=j
    ·rw[if_pos q2,if_neg (Ne.symm hab),if_neg ⋯]
    ·rw[if_neg q2,if_neg (λz=>q2 z.symm),if_neg (λz=>q1 z.symm)]
  ·rw[QD _ _ z1];by_cases z2:j=a
   ·subst z2;rw[QJ];unfold QG trp;by_cases q1:r=j
    ·rw[if_pos q1,if_neg hab,if_neg ⋯]
    ·rw[if_neg q1];by_cases q2:r=b
     ·rw[if_pos q2,if_pos rfl,if_pos q2.symm]
     ·rw[if_neg q2,if_neg (λz=>q1 z.symm),if_neg (λz=>q2 z.symm)]
   ·rw[QD _ _ z2];unfold QG trp;by_cases q1:r=a
    ·rw[if_pos q1,if_neg z1,if_neg ⋯]
    ·rw[if_neg q1];by_cases q2:r=b
     ·rw[if_pos q2,if_neg z2,if_neg ⋯]
     ·rw[if_neg q2]
 rw[u];omega
theorem QAz(ha:a<n)(hb:b<n)(hab:a≠b)(e:∀j,j<n->m j a=m j b):det n m=0:=by
 have h:=QuC m ha hb hab;have:det n (λj r=>m j (trp a b r))=det n m:=Q3 λj hj r hr=>by
  unfold trp;split
  ·rename_i z;rw[z];exact(e j hj).symm
  ·split
   ·rename_i z;rw[z];exact e j hj
   ·rfl
 omega
theorem Quu(n:Nat)(m:Mt2):det n (λj r=>m r j)=det n m:=by
 have h:Alt n λm=>det n λj r=>m r j:=by
  have hcup:∀(m:Mt2) (c:Nat) (v:Mt1),(λj r=>cup m c v r j)=rup (λj r=>m r j) c v:=λm c v=>by
   funext j r;unfold rup;by_cases z:r=c
   ·subst z;rw[QJ,if_pos rfl]
   ·rw[QD _ _ z,if_neg z]
  refine⟨λhm=>Q3 λj hj r hr=>hm r hr j hj,λm c hc x y v w=>?_,λ{m i j} hi hj hij e=>QAz hi hj hij λk _=>by rw[e]⟩;rw[hcup,hcup,hcup,Qrb x y n _ c hc v w]
 have e:=Qk3 h m;rw[e,Q3 (m:=λj r=>QG r j) (k:=QG) λj _ r _=>by
  unfold QG;by_cases z:r=j
  ·rw[if_pos z,if_pos z.symm]
  ·rw[if_neg z,if_neg (Ne.symm z)],QeF,Zab]
theorem QBL(h:g1 U=some true):bOr g1 g2 U=some true:=by unfold bOr;rw[h];rfl
noncomputable def Qc4(f:Mt2)(k:Nat)(p:Mt1)(i:Nat)(q:Mt1):Nat->Nat->Int:=λl j=>if l=i then q j else if l=k then p j else f l j
theorem Qes{n N k:Nat}{g:Mt2}{p:Mt1}(hk:k<n):((List.range n).map λi=>Qb N (g i)).set k (Qb N p)=(List.range n).map λi=>Qb N (λj=>if i=k then p j else g i j):=by
 refine ZaV λi=>?_;rw[ZbT];by_cases h:k=i
 ·subst h;rw[if_pos rfl,if_pos (by simpa using hk),Zr,ZK hk];simp
 ·rw[if_neg h,Zr,Zr];by_cases h2:i<n
  ·rw[ZK h2];simp only[ZV,if_neg (Ne.symm h)]
  ·rw[Zv (by simpa using h2)];rfl
theorem Qw4{i k:Nat}(hx:x<U.length)(ey:fy (U.set x none)=some ⟨Qc n N f,by',[]⟩)(e1:f1 (U.set x none)=some (reI k))(e2:g1 (U.set x none)=some ⟨Qb N p,b1,[]⟩)(e3:f2 (U.set x none)=some (reI i))(e4:g2 (U.set x none)=some ⟨Qb N q,b2,[]⟩)(hk:k<n)(hi:i<n)
  (h:Q (.nx ((U.set x none).set x (slF (Qc n N (Qc4 f k p i q)))))):Run (QkK x fy f1 g1 f2 g2) U Q:=by
 refine⟨_,?_,h⟩;unfold QkK Qr5;rw[if_pos (by simpa using hx),ey,Za];simp only[Qc,e1,e2,e3,e4,Za,Zn,Zu];rw[Qby (show(0:Int)<=k by omega) ⋯,Qby (show(0:Int)<=i by omega) ⋯];simp only[Za,ZP,Qes hk];rw[Qes hi];rfl
noncomputable def QmW(Qc5:Den):DS:=(Qd (Qo 2 (QF (Qei vv1 (dBf Q2 (Qa vv0 Qe))) (.nm 1) [none,none,some 1,some 0] (QB (dOp gNe (Qr (Qr vv3 vv1) vv2) kk0)) vv1)) (Qd (sIf (bOr (Qcv (QB vv2)) (QB (dOp gEq (Qr vv2 kk0) vv1))) (Qd (QM vv0) Qm) Qm) (Qd (QkK 3 vv0 vv1 (Qr vv0 (Qr vv2 kk0)) (Qr vv2 kk0) (Qh 1 Qc5 [] (Qa (Qr vv0 vv1) Qe))) (Qd (QM vv3) Qm))))
def Qki(d:Den):Prop:=∀(n N k:Nat) (f:Mt2),k<n->n<=1000->k<N->∃g,d [Qc n N f,.int k]=some (Qc n N g,false)∧
 ((g=f/\(f k k=0->∀i,k<=i->i<n->f i k=0))∨∃i,k<i/\i<n/\f i k≠0/\g=Qc4 f k (f i) i λj=>0-f k j)
theorem QsA(ho:Qos dop):Qki (Qx 4 (QmW dop)):=λn N k f hk hn kN=>by
 have eI:=QcC (fi:=Qei (Qg 1) (dBf Q2 (Qa (Qg 0) Qe))) (t:= .nm 1) (cap:=[none,none,some 1,some 0]) (ft:=QB (dOp gNe (Qr (Qr (Qg 3) (Qg 1)) (Qg 2)) (dC (.int 0)))) (fe:=Qg 1) (U:=[slF (Qc n N f),slI k,none,none])
  (List.range (n-k)) (QnZ rfl rfl (Qdz rfl rfl) rfl ⋯ ⋯ ⋯ ⋯) rfl λi hi=>⟨[none,slI ((k:Int)+i),slI k,slF (Qc n N f)],rfl,by
   have hi':=Zf.mp hi;refine QH (Qcy (Q6 ((Qc6 rfl rfl rfl rfl ⋯ ⋯).trans (by rw[show((k:Int)+i).toNat=k+i by omega])) rfl rfl rfl kN) rfl rfl rfl) rfl,λ_=>⟨(reI ((k:Int)+i)),rfl,rfl,rfl⟩⟩
 have hmem:∀i,i∈(List.range (n-k)).filter (λi=> !decide (f (k+i) k=0))↔i<n-k/\f (k+i) k≠0:=λi=>by simp
 have hfst:∀i,f (k+i) k≠0->i<n-k->∀a l,(List.range (n-k)).filter (λi=> !decide (f (k+i) k=0))=a::l->f k k≠0->a=0:=λi _ hi a l e h0=>by
  have hr:List.range (n-k)=0::(List.range (n-k-1)).map (· +1):=by
   rw[show n-k=(n-k-1)+1 by omega,Zbz];rfl
  rw[hr,List.filter_cons,if_pos (by show(!decide (f (k+0) k=0))=true;rw[Nat.add_zero,decide_eq_false h0];rfl)]at e;exact(List.cons.inj e).1.symm
 generalize (List.range (n-k)).filter (λi=> !decide (f (k+i) k=0))=xs at eI hmem hfst;cases xs with
 | nil=>
  refine⟨f,?_,.inl ⟨rfl,λ_ i h1 h2=>?_⟩⟩
  ·refine QR ?_;refine rsa eI ?_;refine QC (QU ((QBL (QbQ (show QB (Qg 2) _=some false from rfl)))) (λ_=>?_) (λh=>by cases h));exact QC (Qbg rfl ⟨rfl,rfl⟩)
  ·by_cases z:f i k=0
   ·exact z
   ·have:=(hmem (i-k)).mpr ⟨⋯,by rw[show k+(i-k)=i by omega];exact z⟩;simp at this
 | cons a l=>
  obtain⟨ha,hz⟩:=(hmem a).mp Zl;have eidx:∀U:En,U[2]? =some (slT (.lst ((a::l).map λ(i:Nat)=>D.int ((k:Int)+i))))->Qr (Qg 2) (dC (.int 0)) U=some (reI ((k:Int)+a)):=λU hU=>by
   unfold Qr;rw[show Qg 2 U=some ⟨.lst ((a::l).map λ(i:Nat)=>D.int ((k:Int)+i)),true,[2]⟩ by unfold Qg;rw[hU];rfl,Za,show dC (.int 0) U=some (reI 0)from rfl,Za];dsimp only;simp only[D.items,ZJ,Za];rw[Qjh (show(0:Int)<=0 by decide) (by simp)];rfl
  by_cases h0:a=0
  ·subst h0;refine⟨f,?_,.inl ⟨rfl,λz=>absurd z (by simpa using hz)⟩⟩;refine QR ?_;refine rsa eI ?_;refine QC (QU (b:=true) ((QbA (QbQ (show QB (Qg 2) _=some true from rfl)) (QH (QaY (ra:=reI k) ?_ rfl rfl rfl) (by simp))).trans rfl) (λ_=>?_) (λh=>by cases h))
   ·rw[eidx _ rfl];show some (HS.R.mk (.int ((k:Int)+(0:Nat))) true [])=_;rw[show(k:Int)+(0:Nat)=k by omega]
   ·exact QC (Qbg rfl ⟨rfl,rfl⟩)
  ·have hkk:f k k=0:=by
    by_cases z:f k k=0
    ·exact z
    ·exact absurd (hfst a hz ha a l rfl z) h0
   refine⟨_,?_,.inr ⟨k+a,⋯,⋯,hz,rfl⟩⟩;refine QR ?_;refine rsa eI ?_;refine QC (QU (b:=false) ((QbA (QbQ (show QB (Qg 2) _=some true from rfl)) (QH (QaY (eidx _ rfl) rfl rfl rfl) ?_)).trans rfl) (λh=>by cases h) (λ_=>Qt ?_))
   ·show D.bl _=_;rw[decide_eq_false ⋯]
   refine run_seq (Qw4 (i:=k+a) (p:=f (k+a)) (q:=λj=>0-f k j) (by':=false) (b1:=false) (b2:=true) (show 3<4 by decide) rfl rfl ?_ ?_ ?_ hk ⋯ ?_)
   ·exact(Qc6 rfl rfl (eidx _ rfl) rfl ⋯ ⋯).trans (by rw[show((k:Int)+a).toNat=k+a by omega])
   ·exact(eidx _ rfl).trans (by rw[show((k+a:Nat):Int)=(k:Int)+a by simp])
   ·exact Ql (r:=⟨[Qb N (f k)],false,[]⟩) (Qq ((Qc6 (i:=k) (ra:=reF (Qc n N f)) rfl rfl rfl rfl ⋯ ⋯).trans (by rw[ZP])) (QL _)) (ho N (f k)) rfl
   ·exact QC (Qbg rfl ⟨rfl,rfl⟩)
def Qpv(n:Nat)(m:Mt2):Prop:=∀j,j<n->∀r,r<n->(m j r).natAbs<=2^240
theorem Qld(hn:n<=8):bnd (2^240) n<2^2000:=by
 have h:∀k,k<9->bnd (2^240) k<2^2000:=by decide+kernel
 exact h n ⋯
theorem Qpv.put(h:Qpv n m)(ha:∀r,r<n->(a r).natAbs<=2^240):Qpv n (cup m i a):=λj hj r hr=>by
 by_cases e:j=i
 ·subst e;rw[QJ];exact ha r hr
 ·rw[QD _ _ e];exact h j hj r hr
structure QbK (n N k:Nat) (A m R:Mt2) (d:Int):Prop where
 clr:Clr n N k A m R d
 col:Qpv n m
theorem QbK.start(n N:Nat)(A:Mt2):QbK n N 0 A QG (λi j=>A j i) 1:=⟨Clr.start n N A,λj _ r _=>by unfold QG;split<;>decide⟩
theorem QbK.small{n N k:Nat}{A m R:Mt2}{d:Int}(h:QbK n N k A m R d)(hn:n<=8)(hA:∀j,j<N->∀r,r<n->(A j r).natAbs<=2^240):d.natAbs<2^2000/\∀i j,i<n->j<N->(R i j).natAbs<2^2000:=by
 have b:=Qld hn;refine⟨?_,λi j hi hj=>?_⟩
 ·rw[← h.clr.det];exact ZT (QdC h.col) b
 ·rw[h.clr.ent i j hi hj];exact ZT (QdC (h.col.put (hA j hj))) b
theorem QbK.swap{n N k:Nat}{A m R:Mt2}{d:Int}(h:QbK n N k A m R d){i:Nat}(hk:k<n)(hi:i<n)(hki:k<i):∃m',QbK n N k A m' (Qc4 R k (R i) i λj=>0-R k j) d:=by
 have ne:k≠i:= ⋯
 have neg:∀(c:Nat),c<n->∀(M:Mt2) (a:Mt1),HS.det n (cup M c λr=> -a r)= -HS.det n (cup M c a):=λc hc M a=>by
  have:=Qfv (m:=M) hc (-1) a;simpa only[Zad,ZQ]using this
 obtain⟨c1,c2⟩:=h;refine⟨cup (cup m k (m i)) i λr=> -m k r,⟨c1.le,?_,c1.nz,λl j hl hj=>?_,λj hj=>?_⟩,λj hj r hr=>?_⟩
 ·rw[neg i hi,Qdw hk hi ne,ZbJ,Qal,Qal];exact c1.det
 ·unfold Qc4;by_cases e2:l=i
  ·subst e2;rw[if_pos rfl];show 0-R k j=_;rw[c1.ent k j hk hj,Qm6,Qdw hk hl ne,Qan _ _ _ ne];have:=Qal m l;rw[this];omega
  ·rw[if_neg e2];by_cases e1:l=k
   ·subst e1;rw[if_pos rfl,c1.ent i j hi hj,Qan _ _ _ (Ne.symm ne),Qm6,neg i hi,Qdw hl hi ne,ZbJ,Qal]
   ·rw[if_neg e1,c1.ent l j hl hj,Qan _ _ _ (Ne.symm e2),neg i hi,Qan _ _ _ (Ne.symm e1),Qdw hk hi ne,ZbJ,Qan _ _ _ e1,Qal,Qan _ _ _ e2,Qal]
 ·rw[QD _ _ ⋯,QD _ _ ⋯];exact c1.own j hj
 ·by_cases e1:j=i
  ·subst e1;rw[QJ,Int.natAbs_neg];exact c2 k hk r hr
  ·rw[QD _ _ e1];by_cases e2:j=k
   ·subst e2;rw[QJ];exact c2 i hi r hr
   ·rw[QD _ _ e2];exact c2 j hj r hr
theorem Clr.stuck{n N k:Nat}{A m R:Mt2}{d:Int}(h:Clr n N k A m R d)(hk:k<n)(kN:k<N)(hz:∀i,k<=i->i<n->R i k=0):HS.det n A=0:=by
 have t:∀r,r<n->d*A k r=sm k λl=>R l k*A l r:=λr hr=>by
  rw[h.tell kN hr,Qid (k:=k) ⋯ λl h1 h2=>by rw[hz l h1 h2,ZF]];exact Qbn λl hl=>by rw[h.own l hl]
 have e:d*HS.det n A=0:=by
  have e1:HS.det n (cup A k λr=>d*A k r)=d*HS.det n A:=by rw[Qfv hk,Qal]
  rw[← e1];have e2:HS.det n (cup A k λr=>d*A k r)=HS.det n (cup A k λr=>sm k λl=>R l k*A l r):=Q3 λj hj r hr=>by
   by_cases q:j=k
   ·subst q;rw[QJ,QJ];exact t r hr
   ·rw[QD _ _ q,QD _ _ q]
  rw[e2,QdD hk (λl=>R l k) A k];exact QjC λi hi=>by rw[QeZ (show i<n by omega) hk ⋯ (by rw[QJ,QD _ _ ⋯]),ZI]
 rcases Int.mul_eq_zero.mp e with z | z
 ·exact absurd z h.nz
 ·exact z
theorem Clr.all{n N:Nat}{A m R:Mt2}{d:Int}(h:Clr n N n A m R d):d=HS.det n A:=by
 rw[← h.det];exact Q3 λj hj r _=>by rw[h.own j hj]
def Qh9(d:Den):Prop:=∀(n N:Nat) (A:Mt2),n<=8->n<=N->(∀j,j<N->∀r,r<n->(A j r).natAbs<=2^240)->∃R,d [Qc n N (λi j=>A j i)]=some (.tup [Qc n N R,.int (det n A)],false)/\(det n A≠0->∃m,QbK n N n A m R (det n A))
end HS
namespace HS
open PySem PySem.Spec L2
def Ap(f:DS)(fx:DX):Prop:=∀U,fx U≠none->f U=none
def ApF(d:Den)(xd:List D->Option Str):Prop:=∀ds,xd ds≠none->d ds=none
theorem Qd5{f:DS}:Ap f xNo:=λU h=>absurd rfl h
theorem Qdt{x:Str}{fs:DA}:Ap Qw (QdZ x fs):=λU h=>rfl
theorem QeR{f g:DS}{fx gx:DX}(a:Ap f fx)(b:Ap g gx):Ap (Qd f g) (Qbm f fx gx):=λU h=>by
 unfold Qbm at h;unfold Qd;split at h
 ·rename_i U' e;rw[e];exact b U' h
 ·exact absurd rfl h
 ·rename_i e;rw[e];rfl
theorem Qk0{c:DT}{f g:DS}{fx gx:DX}(a:Ap f fx)(b:Ap g gx):Ap (sIf c f g) (xIf c fx gx):=λU h=>by
 unfold xIf at h;unfold sIf;cases e:c U with
 | none=>rfl
 | some v=>
  rw[e,Za]at h;rw[Za];cases v with
  | true=>rw[if_pos rfl]at h ⊢;exact a U h
  | false=>rw[if_neg Zak]at h ⊢;exact b U h
theorem QpA{fi:DI}{t:Tg}{fb:DS}{fx:DX}(a:Ap fb fx):Ap (QaV fi t fb) (Qkp fi t fb fx):=λU h=>by
 unfold Qkp at h;unfold QaV;cases e:fi U with
 | none=>rfl
 | some ir=>
  rw[e,Za]at h;rw[Za];clear e;revert h;generalize ir.items=ds;generalize QaX ir.M U=U0
  induction ds generalizing U0 with
  | nil=>exact λh=>absurd rfl h
  | cons d ds ih=>
   intro h;unfold QeL at h;unfold Qc8;cases e1:Qbr t d U0 with
   | none=>rfl
   | some U1=>
    rw[e1,Za]at h;rw[Za];split at h
    ·rename_i U2 e2;rw[e2,Za];exact ih U2 h
    ·rename_i U2 e2;rw[e2,Za];exact ih U2 h
    ·exact absurd rfl h
    ·rename_i e2;rw[e2];rfl
theorem Qra{n:Nat}{d:Den}{xd:List D->Option Str}{fs:DA}(a:ApF d xd){U:En}(h:QcH n xd fs U≠none):Qh n d [] fs U=none:=by
 unfold QcH at h;unfold Qh;cases e:fs U with
 | none=>rfl
 | some r=>
  rw[e,Za]at h;rw[Za];split at h
  ·rename_i hl;rw[if_pos (by simpa using hl),ZaQ,a r.ds (λz=>h (by rw[z];rfl))];rfl
  ·exact absurd rfl h
theorem QfA{n:Nat}{d:Den}{xd:List D->Option Str}{fs:DA}(a:ApF d xd):Ap (Qbs (Qh n d [] fs)) (QcH n xd fs):=λU h=>by unfold Qbs;rw[Qra a h];rfl
theorem Qs9{n i:Nat}{d:Den}{xd:List D->Option Str}{fs:DA}(a:ApF d xd):Ap (Qo i (Qh n d [] fs)) (QcH n xd fs):=λU h=>by unfold Qo;rw[Qra a h];rfl
theorem Qwu{k:Nat}{f:DS}{fx:DX}(a:Ap f fx):ApF (Qx k f) (Qee k fx):=λds h=>by
 unfold Qee at h;unfold Qx;rw[a _ λz=>h (by rw[z];rfl)];rfl
def Qdy(f:DX)(U:En)(x:Str):Prop:=∃U',f U=some (x,U')
theorem QoU{x:Str}{fs:DA}{U:En}{r:RA}(h:fs U=some r)(hl:r.ds.length<=1):Qdy (QdZ x fs) U x:=⟨U,by unfold QdZ;rw[h,Za,if_pos hl]⟩
theorem Qyg{n:Nat}{xd:List D->Option Str}{fs:DA}{U:En}{r:RA}{x:Str}(h:fs U=some r)(hl:r.ds.length=n)(hx:xd r.ds=some x):Qdy (QcH n xd fs) U x:=⟨U,by unfold QcH;rw[h,Za,if_pos hl,hx];rfl⟩
theorem QwO{g:DT}{fa fb:DX}{b:Bool}{U:En}{x:Str}(h:g U=some b)(q1:b=true->Qdy fa U x)(q2:b=false->Qdy fb U x):Qdy (xIf g fa fb) U x:=by
 cases b with
 | true=>obtain⟨o,h1⟩:=q1 rfl;exact⟨o,by simp[xIf,h,h1]⟩
 | false=>obtain⟨o,h1⟩:=q2 rfl;exact⟨o,by simp[xIf,h,h1]⟩
theorem Qfz{f:DS}{fx fr:DX}{U:En}{x:Str}(a:Ap f fx)(q:Qdy fx U x):Qdy (Qbm f fx fr) U x:=by
 obtain⟨o,h⟩:=q;exact⟨o,by unfold Qbm;rw[a U (by rw[h];exact λz=>by cases z)];exact h⟩
theorem Qme{f:DS}{fx fr:DX}{U:En}{x:Str}(h:Run f U (Nx λU'=>Qdy fr U' x)):Qdy (Qbm f fx fr) U x:=by
 obtain⟨o,h1,h2⟩:=h;cases o with
 | nx U'=>obtain⟨o,h3⟩:=h2;exact⟨o,by unfold Qbm;rw[h1];exact h3⟩
 | _=>exact h2.elim
theorem Qzw{α:Type}{fi:DI}{t:Tg}{fb:DS}{fx:DX}{toD:α->D}{U:En}{ir:IR}{c:Str}(a:Ap fb fx)(xs:List α)(I:Nat->En->Prop)(k:Nat)(hk:k<xs.length)(h:fi U=some ir)(hx:ir.items=xs.map toD)(h0:I 0 (QaX ir.M U))
  (turn:∀i x U,i<k->xs[i]? =some x->I i U->∃U1,Qbr t (toD x) U=some U1/\Run fb U1 (Nx λU2=>I (i+1) U2))
  (here:∀x U,xs[k]? =some x->I k U->∃U1,Qbr t (toD x) U=some U1/\Qdy fx U1 c):Qdy (Qkp fi t fb fx) U c:=by
 unfold Qdy Qkp;rw[h,Za,hx];clear h hx;have gen:∀(n:Nat) (i:Nat) (U:En),k-i=n->i<=k->I i U->∃U',QeL t fb fx ((xs.drop i).map toD) U=some (c,U'):=by
  intro n
  induction n with
  | zero=>
   intro i U e hi hI;obtain rfl:i=k:= ⋯
   rw[ZW hk,ZJ];unfold QeL;obtain⟨U1,e1,U2,e2⟩:=here xs[i] U (by simp[hk]) hI;refine⟨U2,?_⟩;rw[e1,Za,a U1 (by rw[e2];exact λz=>by cases z)];exact e2
  | succ n ih=>
   intro i U e hi hI;have hlt:i<xs.length:= ⋯
   rw[ZW hlt,ZJ];unfold QeL;obtain⟨U1,e1,o,e2,e3⟩:=turn i xs[i] U ⋯ (by simp[hlt]) hI;cases o with
   | nx U2=>
    obtain⟨U',e4⟩:=ih (i+1) U2 ⋯ ⋯ e3;exact⟨U',by rw[e1,Za,e2];exact e4⟩
   | _=>exact e3.elim
 have:=gen (k-0) 0 _ rfl (Zaa _) h0;simpa using this
theorem QrI{k:Nat}{f:DX}{ds:List D}{x:Str}(h:Qdy f (Qau k ds) x):Qee k f ds=some x:=by
 obtain⟨U,e⟩:=h;unfold Qee;rw[e];rfl
theorem Qvs{f:DS}{fx:DX}{sub:Str->Str->Option Bool}{y:Str}{h:DS}{r:List Hd}{x:Str}{U U':En}{Q:Out->Prop}(a:Ap f fx)(e:fx U=some (x,U'))(hs:sub x y=some true)(q:Run h U' Q):Run (QhE f fx sub ((y,none,h)::r)) U Q:=by
 obtain⟨o,h1,h2⟩:=q;refine⟨o,?_,h2⟩;unfold QhE;rw[a U (by rw[e];exact λz=>by cases z)];dsimp only;rw[e,Za];unfold Qpy;rw[hs,Za,if_pos rfl];exact h1
theorem Qvk{f:DS}{fx:DX}{sub:Str->Str->Option Bool}{y:Str}{i:Nat}{h:DS}{r:List Hd}{x:Str}{U U':En}{Q:Out->Prop}(a:Ap f fx)(e:fx U=some (x,U'))(hs:sub x y=some true)(q:Run h (U'.set i (some (.exc x,true))) λo=>Q (Qy1 i o)):Run (QhE f fx sub ((y,some i,h)::r)) U Q:=by
 obtain⟨o,h1,h2⟩:=q;refine⟨_,?_,h2⟩;unfold QhE;rw[a U (by rw[e];exact λz=>by cases z)];dsimp only;rw[e,Za];unfold Qpy;rw[hs,Za,if_pos rfl];dsimp only;rw[h1];rfl
end HS
namespace HS
open PySem L2
theorem Qtm{n:Nat}{d:Den}{xd:List D->Option Str}{fs:DA}{U:En}{r:RA}{x:Str}(a:ApF d xd)(h:fs U=some r)(hl:r.ds.length=n)(hx:xd r.ds=some x):Qbm (Qbs (Qh n d [] fs)) (QcH n xd fs) xNo U=some (x,U):=by
 have e:QcH n xd fs U=some (x,U):=by unfold QcH;rw[h,Za,if_pos hl,hx];rfl
 unfold Qbm;rw[QfA a U (by rw[e];exact λz=>by cases z)];exact e
theorem Qi2{sub:Str->Str->Option Bool}{ys:List Str}{fa:DE}{U:En}{x:Str}{b:Bool}(h:fa U=some ⟨.exc x,true,[]⟩)(hs:anyS sub x ys=some b):QgA sub ys fa U=some (reT (.bl b)):=by
 unfold QgA;rw[h,Za];dsimp only;rw[hs];rfl
theorem any_cons{sub:Str->Str->Option Bool}{x y:Str}{ys:List Str}{b c:Bool}(h:sub x y=some b)(t:anyS sub x ys=some c):anyS sub x (y::ys)=some (b || c):=by
 unfold anyS;rw[h,Za,t];rfl
theorem Qjp{fa fb:DE}{U:En}{a b:Bool}(ha:fa U=some (reT (.bl a)))(hb:fb U=some (reT (.bl b))):Qca fa fb U=some (reT (.bl (a && b))):=by
 unfold Qca;rw[ha,Za];cases a with
 | true=>rw[hb];rfl
 | false=>rfl
theorem Qmg{fa:DE}{U:En}{a:Bool}(ha:fa U=some (reT (.bl a))):QhZ fa U=some (reT (.bl (!a))):=by
 unfold QhZ;rw[ha];rfl
def Qg0(d:Den):Prop:=∀(n N:Nat) (A:Mt2),n<=8->n<=N->(∀j,j<N->∀r,r<n->(A j r).natAbs<=2^240)->det n A≠0->∃m R b,d [Qc n N (λi j=>A j i)]=some (.tup [Qc n N R,.int b],false)/\QbK n N n A m R b
theorem Qpb(hc:Qh9 dc):Qg0 (Qx 2 (Qd7 dc)):=λn N A n8 hN hA hd=>by
 obtain⟨R,ec,hC⟩:=hc n N A n8 hN hA;obtain⟨m,C⟩:=hC hd;refine⟨m,R,det n A,QR ?_,C⟩;refine run_seq (Qz ((Qb1 (r:=⟨[Qc n N (λi j=>A j i)],false,[]⟩) rfl ec rfl).trans rfl) ?_);refine QC (QU (b:=false) (QH (QaY rfl rfl rfl rfl) (by simp[hd])) (λh=>by cases h) (λ_=>Qt ?_));exact Qy rfl ⟨rfl,rfl⟩
theorem Qvd(ha:a<n)(hb:b<n)(hab:a≠b)(h:∀k,k<n->k≠a->k≠b->f k=g k)(e:f a+f b=g a+g b):Qn n f=Qn n g:=by
 have e1:Qn n f=Qn n λk=>g k+((if k=a then f a-g a else 0)*1+(if k=b then f b-g b else 0)*1):=Qj λk hk=>by
  by_cases k1:k=a
  ·subst k1;rw[if_pos rfl,if_neg hab];omega
  ·by_cases k2:k=b
   ·subst k2;rw[if_neg k1,if_pos rfl];omega
   ·rw[if_neg k1,if_neg k2,h k hk k1 k2];omega
 rw[e1,Qam,Qam,QaP ha _ λ_=>1,QaP hb _ λ_=>1];omega
theorem Qa6(ha:a<n)(h:∀k,k<n->k≠a->f k=0):Qn n f=f a:=by
 have e1:Qn n f=Qn n λk=>(if k=a then f a else 0)*1:=Qj λk hk=>by
  by_cases k1:k=a
  ·subst k1;rw[if_pos rfl];omega
  ·rw[if_neg k1,h k hk k1];omega
 rw[e1,QaP ha _ λ_=>1];omega
theorem QdJ(n:Nat)(c:Int)(f:Mt1):Qn n (λi=>f i*c)=Qn n f*c:=by
 rw[Zah,← QT];exact Qj λi _=>Zah _ _
theorem QhV(n:Nat)(f g:Mt1):Qn n (λi=>f i-g i)=Qn n f-Qn n g:=by
 have:=Qam n (λi=>f i-g i) g;rw[Qj (g:=f) λi _=> ⋯]at this;omega
theorem Qf2(h:∀k,k<n->t∣f k):t∣Qn n f:=by
 induction n with
 | zero=>exact Int.dvd_zero t
 | succ n ih=>rw[Qai];exact ZaK (ih λk hk=>h k ⋯) (h n ⋯)
theorem QkF(h:∀k,k<n->(f k).natAbs<=C):(Qn n f).natAbs<=n*C:=by
 induction n with
 | zero=>exact Zaa _
 | succ n ih=>
  rw[Qai,Nat.succ_mul];have h1:=ih λk hk=>h k ⋯;have h2:=h n ⋯;have h3:=ZbC (Qn n f) (f n);omega
noncomputable def idF(i j:Nat):Int:=if i=j then 1 else 0
theorem Qas(n:Nat)(a b c:Mt2):prodF n (prodF n a b) c=prodF n a (prodF n b c):=by
 funext i j;unfold prodF;have e1:(Qn n λk=>(Qn n λl=>a i l*b l k)*c k j)=Qn n λk=>Qn n λl=>a i l*(b l k*c k j):=Qj λk _=>by
  rw[← QdJ];exact Qj λl _=>ZE _ _ _
 rw[e1,Qcj];exact Qj λl _=>QT n _ _
theorem Qaj(h1:∀k,k<n->a i k=a' i k)(h2:∀k,k<n->b k j=b' k j):prodF n a b i j=prodF n a' b' i j:=
 Qj λk hk=>by rw[h1 k hk,h2 k hk]
theorem Qb0(a:Mt2)(j:Nat)(hi:i<n):prodF n idF a i j=a i j:=by
 unfold prodF idF;rw[Qa6 hi λk _ hk=>by rw[if_neg (Ne.symm hk),ZF],if_pos rfl,ZQ]
theorem Qf8(a:Mt2)(i:Nat)(hj:j<n):prodF n a idF i j=a i j:=by
 unfold prodF idF;rw[Qa6 hj λk _ hk=>by rw[if_neg hk,ZI],if_pos rfl,Zab]
def Qbq(n:Nat)(a b:Mt2):Prop:=∀i j,i<n->j<n->prodF n a b i j=idF i j
theorem Qbq.prod(h1:Qbq n a b)(h2:Qbq n c d):Qbq n (prodF n a c) (prodF n d b):=λi j hi hj=>by
 rw[Qas,Qaj (a':=a) (b':=prodF n (prodF n c d) b) (λ_ _=>rfl) λk hk=>by rw[Qas],Qaj (a':=a) (b':=b) (λ_ _=>rfl) λk hk=>?_]
 ·exact h1 i j hi hj
 ·rw[Qaj (a':=idF) (b':=b) (λl hl=>h2 k l hk hl) λ_ _=>rfl,Qb0 b j hk]
theorem split_len:∀(L h:Nat),0<L->∃L1 L2 N,L=L1*L2/\Nat.Coprime L1 h/\L2∣h^N:=by
 intro L
 induction L using Nat.strongRecOn with
 | _ L ih=>
  intro h hL;by_cases g:Nat.gcd L h=1
  ·exact⟨L,1,0,⋯,g,Nat.one_dvd _⟩
  ·have hg:0<Nat.gcd L h:=Nat.gcd_pos_of_pos_left h hL;obtain⟨M,hM⟩:=Nat.gcd_dvd_left L h;have hM0:0<M:=by
    rcases ZaL M with z | z
    ·rw[z,Nat.mul_zero]at hM;omega
    ·exact z
   have hlt:M<L:=by
    have:2*M<=Nat.gcd L h*M:=Zbf M ⋯;omega
   obtain⟨L1,L2,N,e,c,d⟩:=ih M hlt h hM0;refine⟨L1,Nat.gcd L h*L2,N+1,?_,c,?_⟩
   ·rw[Nat.mul_left_comm,← e];exact hM
   ·rw[Zcj,ZaU (h^N)];exact Nat.mul_dvd_mul (Nat.gcd_dvd_right L h) d
theorem Qhg{t:Nat}{x:Int}:(t:Int)∣x↔t∣x.natAbs:=by rw[← Zae,Int.natAbs_natCast]
noncomputable def QbJ:Nat->(Nat->Int)->Nat
 | 0,_=>0
 | n+1,u=>Nat.gcd (QbJ n u) (u n).natAbs
theorem Qbt{u:Mt1}{t:Nat}:∀{n:Nat},t∣QbJ n u↔∀i,i<n->(t:Int)∣u i
 | 0=>⟨λ_ i hi=> ⋯,λ_=>Nat.dvd_zero t⟩
 | n+1=>by
  unfold QbJ;rw[Nat.dvd_gcd_iff,Qbt (n:=n)];constructor
  ·rintro⟨h1,h2⟩ i hi;by_cases e:i=n
   ·subst e;exact Qhg.mpr h2
   ·exact h1 i ⋯
  ·exact λh=>⟨λi hi=>h i ⋯,Qhg.mp (h n ⋯)⟩
theorem Quz{n:Nat}{u v:Mt1}{L:Nat}(hL:0<L)(hc:∀t:Nat,t∣L->(∀i,i<n->(t:Int)∣u i)->(∀i,i<n->(t:Int)∣v i)->t=1):
  ∃T:Nat,∀t:Nat,t∣L->(∀i,i<n->(t:Int)∣u i+T*v i)->t=1:=by
 obtain⟨L1,L2,N,e,c,d⟩:=split_len L (Nat.gcd (QbJ n u) L) hL;refine⟨L1,λt ht hu=>?_⟩;have c1:Nat.Coprime t L1:=by
  have a1:Nat.gcd t L1∣t:=Nat.gcd_dvd_left _ _;have a2:Nat.gcd t L1∣L1:=Nat.gcd_dvd_right _ _;have hui:∀i,i<n->((Nat.gcd t L1:Nat):Int)∣u i:=λi hi=>by
   have h1:=Int.dvd_trans (Int.natCast_dvd_natCast.mpr a1) (hu i hi);have h2:((Nat.gcd t L1:Nat):Int)∣(L1:Int)*v i:=Zaz (Int.natCast_dvd_natCast.mpr a2);have:=Zbs h1 h2;rwa[Int.add_sub_cancel]at this
  have h3:Nat.gcd t L1∣Nat.gcd (QbJ n u) L:=Nat.dvd_gcd (Qbt.mpr hui) (Nat.dvd_trans a1 ht);exact Nat.eq_one_of_dvd_one (by rw[← c];exact Nat.dvd_gcd a2 h3)
 have t2:t∣L2:=by
  rw[e]at ht;exact Nat.Coprime.dvd_of_dvd_mul_left c1 ht
 have c2:Nat.Coprime t (Nat.gcd (QbJ n u) L):=by
  have a1:Nat.gcd t (Nat.gcd (QbJ n u) L)∣t:=Nat.gcd_dvd_left _ _;have a2:Nat.gcd t (Nat.gcd (QbJ n u) L)∣QbJ n u:=Nat.dvd_trans (Nat.gcd_dvd_right _ _) (Nat.gcd_dvd_left _ _);show Nat.gcd t (Nat.gcd (QbJ n u) L)=1;generalize Nat.gcd t (Nat.gcd (QbJ n u) L)=D at a1 a2 ⊢;have hui:=Qbt.mp a2;have cD:Nat.Coprime D L1:=Nat.Coprime.coprime_dvd_left a1 c1;refine hc D (Nat.dvd_trans a1 ht) hui λi hi=>?_;have h1:=Zbs (Int.dvd_trans (Int.natCast_dvd_natCast.mpr a1) (hu i hi)) (hui i hi);rw[show u i+(L1:Int)*v i-u i=(L1:Int)*v i by omega]at h1;have h2:=Qhg.mp h1;rw[Zao,Int.natAbs_natCast]at h2;exact Qhg.mpr (Nat.Coprime.dvd_of_dvd_mul_left cD h2)
 exact Nat.Coprime.eq_one_of_dvd (Nat.Coprime.pow_right N c2) (Nat.dvd_trans t2 d)
theorem QyM{n:Nat}(u v:Mt1){L:Nat}(hL:0<L):
  ∃T:Nat,∀t:Nat,t∣L->(∀i,i<n->(t:Int)∣u i+T*v i)->(∀i,i<n->(t:Int)∣u i)/\∀i,i<n->(t:Int)∣v i:=by
 obtain⟨g,hg⟩:∃g,g=Nat.gcd (Nat.gcd (QbJ n u) (QbJ n v)) L:=⟨_,rfl⟩;have gL:g∣L:=by rw[hg];exact Nat.gcd_dvd_right _ _
 have gu:∀i,i<n->(g:Int)∣u i:=Qbt.mp (by rw[hg];exact Nat.dvd_trans (Nat.gcd_dvd_left _ _) (Nat.gcd_dvd_left _ _));have gv:∀i,i<n->(g:Int)∣v i:=Qbt.mp (by rw[hg];exact Nat.dvd_trans (Nat.gcd_dvd_left _ _) (Nat.gcd_dvd_right _ _));have g0:0<g:=Nat.pos_of_dvd_of_pos gL hL;obtain⟨L',eL⟩:=gL;have hL':0<L':=by
  rcases ZaL L' with z | z
  ·rw[z,Nat.mul_zero]at eL;omega
  ·exact z
 have eu:∀i,i<n->u i=(g:Int)*(u i / g):=λi hi=>(Int.mul_ediv_cancel' (gu i hi)).symm;have ev:∀i,i<n->v i=(g:Int)*(v i / g):=λi hi=>(Int.mul_ediv_cancel' (gv i hi)).symm;have gz:(g:Int)≠0:= ⋯
 obtain⟨T,hT⟩:=Quz hL' λt h1 h2 h3=>by
  have a1:g*t∣L:=by rw[eL];exact Nat.mul_dvd_mul_left g h1
  have a2:g*t∣QbJ n u:=Qbt.mpr λi hi=>by rw[eu i hi,Zan];exact Int.mul_dvd_mul_left _ (h2 i hi)
  have a3:g*t∣QbJ n v:=Qbt.mpr λi hi=>by rw[ev i hi,Zan];exact Int.mul_dvd_mul_left _ (h3 i hi)
  have a4:g*t∣g:=by
   have:=Nat.dvd_gcd (Nat.dvd_gcd a2 a3) a1;rwa[← hg]at this
  exact Nat.eq_one_of_dvd_one (Nat.dvd_of_mul_dvd_mul_left g0 (by rw[Nat.mul_one];exact a4))
 refine⟨T,λt ht hu=>?_⟩;have hD:Nat.gcd (QbJ n λi=>u i+T*v i) L∣g:=by
  obtain⟨D',hD'⟩:g∣Nat.gcd (QbJ n λi=>u i+T*v i) L:=Nat.dvd_gcd (Qbt.mpr λi hi=>ZaK (gu i hi) (Int.dvd_mul_of_dvd_right (gv i hi))) ⟨L',eL⟩;have b1:D'∣L':=by
   have:=Nat.gcd_dvd_right (QbJ n λi=>u i+T*v i) L;rw[hD',eL]at this;exact Nat.dvd_of_mul_dvd_mul_left g0 this
  have b2:=hT D' b1 λi hi=>by
   have h1:((g*D':Nat):Int)∣u i+T*v i:=by rw[← hD'];exact(Qbt).mp (Nat.gcd_dvd_left _ _) i hi
   rw[eu i hi,ev i hi,show(g:Int)*(u i / g)+T*((g:Int)*(v i / g))=g*(u i / g+T*(v i / g)) by rw[Zay,ZO],Zan]at h1;exact Int.dvd_of_mul_dvd_mul_left gz h1
  rw[hD',b2,Nat.mul_one];exact Nat.dvd_refl g
 have tg:t∣g:=Nat.dvd_trans (Nat.dvd_gcd (Qbt.mpr hu) ht) hD;exact⟨λi hi=>Int.dvd_trans (Int.natCast_dvd_natCast.mpr tg) (gu i hi),λi hi=>Int.dvd_trans (Int.natCast_dvd_natCast.mpr tg) (gv i hi)⟩
theorem Qxs{L g y:Int}(h:∀t:Int,t∣L->t∣g->t.natAbs=1)(hd:L∣g*y):L∣y:=by
 have c:Nat.Coprime L.natAbs g.natAbs:=by
  have:=h (Nat.gcd L.natAbs g.natAbs) (Qhg.mpr (Nat.gcd_dvd_left _ _)) (Qhg.mpr (Nat.gcd_dvd_right _ _));rwa[Int.natAbs_natCast]at this
 have h2:=Zae.mpr hd;rw[Zao]at h2;exact Zae.mp (Nat.Coprime.dvd_of_dvd_mul_left c h2)
structure Qju (n:Nat) (A P:Mt2) (w:Int) (R Rb:Mt2) (len:Mt1):Prop where
 u1:Qbq n R Rb
 u2:Qbq n Rb R
 pos:∀j,j<n->0<len j
 col:∀i j,i<n->j<n->len j∣prodF n A R i j
 row:∀i j,i<n->j<n->w∣len j*prodF n Rb P j i
 nxt:∀j,j+1<n->len j∣len (j+1)
structure RT (n k:Nat) (A P:Mt2) (w c L:Int) (R Rb S:Mt2) (len:Mt1):Prop where
 kn:k<=n
 u1:Qbq n R Rb
 u2:Qbq n Rb R
 L0:0<L
 cL:c*L=w
 low:∀i j,k<=i->i<n->j<n->S i j=0
 i1:∀i j,i<n->j<n->L∣prodF n (prodF n A R) S i j
 i2:∀i j,i<k->j<n->w∣prodF n Rb P i j-c*S i j
 one:∀j,j<k->len j=1
 pos:∀j,k<=j->j<n->0<len j
 col:∀i j,k<=j->j<n->i<n->len j∣prodF n A R i j
 row:∀i j,k<=j->j<n->i<n->w∣len j*prodF n Rb P j i
 nxt:∀j,k<=j->j+1<n->len j∣len (j+1)
 top:k<n->len k=L
theorem RT.stop{n k:Nat}{A P:Mt2}{w c L:Int}{R Rb S:Mt2}{len:Mt1}(h:RT n k A P w c L R Rb S len)(hp:∀i j,i<n->j<n->L∣S i j):Qju n A P w R Rb len where
 u1:=h.u1
 u2:=h.u2
 pos:=λj hj=>by
  by_cases z:j<k
  ·rw[h.one j z];decide
  ·exact h.pos j ⋯ hj
 col:=λi j hi hj=>by
  by_cases z:j<k
  ·rw[h.one j z];exact Int.one_dvd _
  ·exact h.col i j ⋯ hj hi
 row:=λi j hi hj=>by
  by_cases z:j<k
  ·rw[h.one j z,ZQ];have h1:=h.i2 j i z hi;have h2:w∣c*S j i:=by rw[← h.cL];exact Int.mul_dvd_mul_left c (hp j i hj hi)
   have:=ZaK h1 h2;rwa[ZaG]at this
  ·exact h.row i j ⋯ hj hi
 nxt:=λj hj=>by
  by_cases z:j<k
  ·rw[h.one j z];exact Int.one_dvd _
  ·exact h.nxt j ⋯ hj
theorem RT.done{n:Nat}{A P:Mt2}{w c L:Int}{R Rb S:Mt2}{len:Mt1}(h:RT n 0 A P w c L R Rb S len):Qju n A P w R Rb len:=
 ⟨h.u1,h.u2,λj hj=>h.pos j ⋯ hj,λi j hi hj=>h.col i j ⋯ hj hi,λi j hi hj=>h.row i j ⋯ hj hi,λj hj=>h.nxt j ⋯ hj⟩
structure Qoq (n last:Nat) (x:Mt1) (T B:Mt2) (g:Int):Prop where
 u1:Qbq n T B
 u2:Qbq n B T
 tl:∀i j,last<i->i<n->j<n->T i j=idF i j
 tu:∀i j,i<=last->last<j->j<n->T i j=0
 bl:∀i j,i<n->last<j->j<n->B i j=idF i j
 hit:∀i,i<=last->Qn n (λj=>T i j*x j)=if i=last then g else 0
theorem RT.step{n last:Nat}{A P:Mt2}{w c L part L':Int}{R Rb S Sq S1:Mt2}{len x cc:Mt1}{T B:Mt2}{g:Int}(h:RT n (last+1) A P w c L R Rb S len)
  (p0:0<part) (eL:L=part*L') (hS:∀i j,i<n->j<n->S i j=part*Sq i j) (h1:∀i j,i<n->j<n->L'∣Sq i j-S1 i j) (hz:∀i j,last<i->i<n->j<n->S1 i j=0)
  (cop:∀t,t∣L'->(∀i j,i<n->j<n->t∣Sq i j)->t.natAbs=1) (hx:∀i,i<n->L'∣x i-Qn n λj=>cc j*S1 i j) (hx0:∀i,last<i->i<n->x i=0)
  (hxc:∀t,t∣L'->(∀i,i<n->t∣x i)->∀i j,i<n->j<n->t∣S1 i j) (sp:Qoq n last x T B g):
  RT n last A P w (c*part) L' (prodF n R B) (prodF n T Rb) (λi j=>if i=last then 0 else prodF n T S1 i j) (λj=>if j=last then L' else len j):=by
 have hn:last<n:=h.kn;have L0':0<L':=by
  refine ZX λz=>?_;have:=ZaM (a:=part) (b:=L') ⋯ ⋯;have:=h.L0;omega
 have pz:part≠0:= ⋯
 have ew:w=c*part*L':=by rw[← h.cL,eL,ZE]
 obtain⟨M,hM⟩:∃M,M=prodF n A R:=⟨_,rfl⟩;obtain⟨Q,hQ⟩:∃Q,Q=prodF n Rb P:=⟨_,rfl⟩;have aM:prodF n A (prodF n R B)=prodF n M B:=by rw[hM,Qas]
 have aQ:prodF n (prodF n T Rb) P=prodF n T Q:=by rw[hQ,Qas]
 have i1:=h.i1;have i2:=h.i2;have col:=h.col;have row:=h.row;rw[← hM]at i1 col;rw[← hQ]at i2 row;have F1:∀i j,i<n->j<n->L'∣prodF n M S1 i j:=λi j hi hj=>by
  have a1:=i1 i j hi hj;have a2:prodF n M S i j=part*prodF n M Sq i j:=by
   unfold prodF;rw[← QT];exact Qj λl hl=>by rw[hS l j hl hj,ZO]
  rw[a2,eL]at a1;have a3:=Int.dvd_of_mul_dvd_mul_left pz a1;have a4:L'∣Qn n λl=>M i l*(Sq l j-S1 l j):=Qf2 λl hl=>Int.dvd_mul_of_dvd_right (h1 l j hl hj);have a5:(Qn n λl=>M i l*(Sq l j-S1 l j))=prodF n M Sq i j-prodF n M S1 i j:=by
   unfold prodF;rw[← QhV];exact Qj λl _=>ZbI _ _ _
  rw[a5]at a4;have:=Zbs a3 a4;rwa[Int.sub_sub_self]at this
 have F2:∀i,i<n->L'∣Qn n λl=>M i l*x l:=λi hi=>by
  have a1:L'∣Qn n λl=>M i l*(x l-Qn n λj=>cc j*S1 l j):=Qf2 λl hl=>Int.dvd_mul_of_dvd_right (hx l hl);have a2:L'∣Qn n λj=>cc j*prodF n M S1 i j:=Qf2 λj hj=>Int.dvd_mul_of_dvd_right (F1 i j hi hj);have a3:(Qn n λj=>cc j*prodF n M S1 i j)=Qn n λl=>M i l*Qn n λj=>cc j*S1 l j:=by
   unfold prodF;rw[Qj (g:=λj=>Qn n λl=>M i l*(cc j*S1 l j)) λj _=>by rw[← QT];exact Qj λl _=>ZO _ _ _,Qcj];exact Qj λl _=>QT n _ _
  rw[a3]at a2;have:=ZaK a1 a2;rw[← Qam,Qj λl _=>by rw[← Zay,ZaG]]at this;exact this
 have F3:∀l,l<n->x l=g*B l last:=λl hl=>by
  have a1:(Qn n λj=>prodF n B T l j*x j)=x l:=by
   rw[Qa6 hl λj hj e=>by rw[sp.u2 l j hl hj];unfold idF;rw[if_neg (Ne.symm e),ZF],sp.u2 l l hl hl];unfold idF;rw[if_pos rfl,ZQ]
  have a2:(Qn n λj=>prodF n B T l j*x j)=Qn n λm=>B l m*Qn n λj=>T m j*x j:=by
   unfold prodF;rw[Qj (g:=λj=>Qn n λm=>B l m*(T m j*x j)) λj _=>by rw[← QdJ];exact Qj λm _=>ZE _ _ _,Qcj];exact Qj λm _=>QT n _ _
  rw[← a1,a2,Qa6 hn λm hm ne=>?_]
  ·rw[sp.hit last (Zi _),if_pos rfl,Zah]
  ·by_cases z:m<=last
   ·rw[sp.hit m z,if_neg ne,ZI]
   ·have:(Qn n λj=>T m j*x j)=0:=by
     rw[Qa6 hm λj hj e=>by rw[sp.tl m j ⋯ hm hj];unfold idF;rw[if_neg (Ne.symm e),ZF],hx0 m ⋯ hm,ZI]
    rw[this,ZI]
 have F4:∀t,t∣L'->t∣g->t.natAbs=1:=λt t1 t2=>cop t t1 λi j hi hj=>by
  have a1:=hxc t t1 (λl hl=>by rw[F3 l hl];exact Zaz t2) i j hi hj;have a2:=ZaK (Int.dvd_trans t1 (h1 i j hi hj)) a1;rwa[ZaG]at a2
 have F5:∀i,i<n->L'∣prodF n M B i last:=λi hi=>Qxs F4 (by
  have:g*prodF n M B i last=Qn n λl=>M i l*x l:=by
   unfold prodF;rw[← QT];exact Qj λl hl=>by rw[F3 l hl,ZO]
  rw[this];exact F2 i hi)
 have F6:∀i j,i<=last->j<n->w∣prodF n T Q i j-c*part*prodF n T S1 i j:=λi j hi hj=>by
  have e:prodF n T Q i j-c*part*prodF n T S1 i j=Qn n λl=>T i l*(Q l j-c*part*S1 l j):=by
   unfold prodF;rw[← QT,← QhV];exact Qj λl _=>by rw[ZbI,ZO (c*part)]
  rw[e];refine Qf2 λl hl=>?_;by_cases z:l<=last
  ·refine Int.dvd_mul_of_dvd_right ?_;have a1:=i2 l j ⋯ hj;have a2:w∣c*S l j-c*part*S1 l j:=by
    rw[hS l j hl hj,← ZE,← ZbI,ew];exact Int.mul_dvd_mul_left _ (h1 l j hl hj)
   have:=ZaK a1 a2;rwa[show Q l j-c*S l j+(c*S l j-c*part*S1 l j)=Q l j-c*part*S1 l j by omega]at this
  ·rw[sp.tu i l hi ⋯ hl,ZF];exact Int.dvd_zero _
 refine⟨⋯,Qbq.prod h.u1 sp.u2,Qbq.prod sp.u1 h.u2,L0',ew.symm,λi j hi hin hj=>?_,λi j hi hj=>?_,λi j hi hj=>?_,λj hj=>?_,λj hj hjn=>?_,λi j hj hjn hi=>?_,λi j hj hjn hi=>?_,λj hj hjn=>?_,λ_=>by rw[if_pos rfl]⟩
 ·by_cases z:i=last
  ·show(if i=last then 0 else _)=(0:Int);rw[if_pos z]
  ·show(if i=last then 0 else prodF n T S1 i j)=0;rw[if_neg z,Qaj (a':=idF) (b':=S1) (λl hl=>sp.tl i l ⋯ hin hl) (λ_ _=>rfl),Qb0 _ _ hin];exact hz i j ⋯ hin hj
 ·rw[aM];have e1:prodF n (prodF n M B) (λi j=>if i=last then 0 else prodF n T S1 i j) i j=prodF n (prodF n M B) (prodF n T S1) i j-prodF n M B i last*prodF n T S1 last j:=by
   have s1:prodF n (prodF n M B) (prodF n T S1) i j=Qn n (λl=>prodF n M B i l*(if l=last then 0 else prodF n T S1 l j))+Qn n (λl=>(if l=last then prodF n M B i last*prodF n T S1 last j else 0)*1):=by
    rw[← Qam];show(Qn n λl=>prodF n M B i l*prodF n T S1 l j)=_;exact Qj λl _=>by
     by_cases z:l=last
     ·subst z;rw[if_pos rfl,if_pos rfl];omega
     ·rw[if_neg z,if_neg z];omega
   rw[s1,QaP hn _ λ_=>1];show(Qn n λl=>prodF n M B i l*(if l=last then 0 else prodF n T S1 l j))=_;omega
  rw[e1,← Qas];refine Zbs ?_ (Zaz (F5 i hi));rw[Qaj (a':=M) (b':=S1) (λl hl=>?_) (λ_ _=>rfl)]
  ·exact F1 i j hi hj
  ·rw[Qas,Qaj (a':=M) (b':=idF) (λ_ _=>rfl) (λm hm=>sp.u2 m l hm hl),Qf8 _ _ hl]
 ·rw[aQ,if_neg ⋯];exact F6 i j ⋯ hj
 ·rw[if_neg ⋯];exact h.one j ⋯
 ·by_cases z:j=last
  ·rw[if_pos z];exact L0'
  ·rw[if_neg z];exact h.pos j ⋯ hjn
 ·rw[aM];by_cases z:j=last
  ·rw[if_pos z,z];exact F5 i hi
  ·rw[if_neg z,Qaj (a':=M) (b':=idF) (λ_ _=>rfl) (λl hl=>sp.bl l j hl ⋯ hjn),Qf8 _ _ hjn];exact col i j ⋯ hjn hi
 ·rw[aQ];by_cases z:j=last
  ·rw[if_pos z,z];have a1:w∣L'*(prodF n T Q last i-c*part*prodF n T S1 last i):=Int.dvd_mul_of_dvd_right (F6 last i (Zi _) hi);have a2:w∣L'*(c*part*prodF n T S1 last i):=by rw[ew];exact⟨prodF n T S1 last i,by rw[← ZE,Zah L']⟩
   have:=ZaK a1 a2;rwa[← Zay,ZaG]at this
  ·rw[if_neg z,Qaj (a':=idF) (b':=Q) (λl hl=>sp.tl j l ⋯ hjn hl) (λ_ _=>rfl),Qb0 _ _ hjn];exact row i j ⋯ hjn hi
 ·by_cases z:j=last
  ·rw[if_pos z,if_neg ⋯,z,h.top ⋯,eL];exact Int.dvd_mul_left _ _
  ·rw[if_neg z,if_neg ⋯];exact h.nxt j ⋯ hjn
theorem Qka(h:i.natAbs<2^k)(hk:k<=2^20):QaA i:=Zt (Zbr h) hk
noncomputable def QoH(Qc7:Den):DS:=(Qd (QM (QF (QaH vv0) (.nm 1) [none,none,some 0] QN (Qh 2 Qc7 [] (Qa vv2 (Qa vv1 Qe))))) Qm)
def Qhi(d:Den):Prop:=∀n:Nat,n<=1000->d [.int n]=some (Qc n n idF,true)
theorem Qu6(hu:QlJ du):Qhi (Qx 1 (QoH du)):=λn hn=>by
 have e:Qc n n idF=Qc n n λi j=>if j=i then 1 else 0:=by
  unfold Qc;refine congrArg D.lst (ZD λi _=>Qc3 λj _=>?_);show idF i j=if j=i then 1 else 0;unfold idF;by_cases z:i=j
  ·rw[if_pos z,if_pos z.symm]
  ·rw[if_neg z,if_neg (Ne.symm z)]
 rw[e];exact QR (Qy (QA (List.range n) (QaR rfl rfl ⋯) rfl λi _=>⟨[none,slI i,slI n],rfl,reT (Qb n λj=>if j=i then 1 else 0),Ql rfl (hu n i hn) rfl,rfl,rfl⟩) ⟨rfl,rfl⟩)
noncomputable def Qx5:DS:=(Qd (QM (QF (Qaz vv1 vv3) (.tp [1,2]) [none,none,none,some 0,some 2] QN (QE (QZ vv3 vv1) (QZ vv4 vv2)))) Qm)
def Qjs(d:Den):Prop:=∀(n:Nat) (p q:Int) (a b:Mt1),QaA p->QaA q->(∀i,i<n->QaA (a i)/\QaA (b i))->d [.int p,Qb n a,.int q,Qb n b]=some (Qb n λi=>p*a i+q*b i,true)
theorem Qwp:Qjs (Qx 4 Qx5):=λn p q a b hp hq hb=>
 QR (Qy (QA (List.range n) (QaG rfl rfl rfl rfl) rfl λi hi=>⟨[none,slI (a i),slI (b i),slI p,slI q],rfl,reI (p*a i+q*b i),QY (Q5 rfl rfl rfl rfl (QdG hp (hb i (Zf.mp hi)).1)) rfl (Q5 rfl rfl rfl rfl (QdG hq (hb i (Zf.mp hi)).2)) rfl,rfl,rfl⟩) ⟨rfl,rfl⟩)
noncomputable def Qch(r x y:Int):Nat->Int
 | 0=>r
 | 1=>x
 | _=>y
theorem QnK(h1:r.natAbs<2^2000)(h2:x.natAbs<2^2000)(h3:y.natAbs<2^2000):∀i,QaA (Qch r x y i)
 | 0=>Qa7 h1
 | 1=>Qa7 h2
 | _+2=>Qa7 h3
noncomputable def Qiy(Qc1:Den):DS:=(Qd (Qo 2 (Qad (Qa vv0 (Qa kk1 (Qa kk0 Qe))))) (Qd (Qo 3 (Qad (Qa vv1 (Qa kk0 (Qa kk1 Qe))))) (Qd (QbS (QB (dOp gNe (Qr vv3 kk0) kk0)) (Qd (Qo 4 (Qh 4 Qc1 [] (Qa kk1 (Qa vv2 (Qa (dOp Qax kk0 (dOp Qa4 (Qr vv2 kk0) (Qr vv3 kk0))) (Qa vv3 Qe)))))) (Qd (Qo 2 (QaB vv3)) (Qd (Qo 3 (QaB vv4)) Qm)))) (Qd (QM (Qsg (Qa vv2 Qe))) Qm))))
structure Wgh (a b R0 R1:Nat) (x0 y0 x1 y1:Int):Prop where
 e0:(R0:Int)=x0*a+y0*b
 e1:(R1:Int)=x1*a+y1*b
 dv:∀t:Nat,(t∣R0/\t∣R1)↔(t∣a/\t∣b)
 l0:R0<2^2000
 l1:R1<2^2000
 bx:x1.natAbs*R0+x0.natAbs*R1<=b
 by':y1.natAbs*R0+y0.natAbs*R1<=a
 x0l:x0.natAbs<=b+1
 x1l:x1.natAbs<=b+1
 y0l:y0.natAbs<=a+1
 y1l:y1.natAbs<=a+1
theorem QqT{p0 p1:Int}{q R0 R1 R2 c:Nat}(e:q*R1+R2=R0)(h:p1.natAbs*R0+p0.natAbs*R1<=c):(1*p0+(0-(q:Int))*p1).natAbs*R1+p1.natAbs*R2<=c:=by
 have h1:(1*p0+(0-(q:Int))*p1).natAbs<=p0.natAbs+q*p1.natAbs:=by
  have:=ZbC (1*p0) ((0-(q:Int))*p1);rw[ZQ,Zag,Zad,Int.natAbs_neg,Zao,Int.natAbs_natCast]at this;rw[ZQ,Zag,Zad];exact this
 have h2:=Zbf R1 h1;have h3:(p0.natAbs+q*p1.natAbs)*R1+p1.natAbs*R2=p1.natAbs*R0+p0.natAbs*R1:=by
  rw[← e,Nat.add_mul,Nat.mul_add];have:q*p1.natAbs*R1=p1.natAbs*(q*R1):=by rw[ZaU q,Nat.mul_assoc]
  omega
 omega
theorem Wgh.step{a b R0 R1:Nat}{x0 y0 x1 y1:Int}(h:Wgh a b R0 R1 x0 y0 x1 y1)(hr:R1≠0):Wgh a b R1 (R0 % R1) x1 y1 (1*x0+(0-((R0 / R1:Nat):Int))*x1) (1*y0+(0-((R0 / R1:Nat):Int))*y1):=by
 have e:R0 / R1*R1+R0 % R1=R0:=by rw[ZaU];exact Nat.div_add_mod R0 R1
 have bx:=QqT e h.bx;have by':=QqT e h.by'
 have r1:1<=R1:= ⋯
 refine⟨h.e1,?_,λt=>?_,h.l1,Zp (Nat.mod_lt _ ⋯) (Zbg h.l1),bx,by',h.x1l,?_,h.y1l,?_⟩
 ·have e':((R0 / R1:Nat):Int)*R1+((R0 % R1:Nat):Int)=R0:=by rw[← Zan,← ZaJ,e]
  have h0:=h.e0;have h1:=h.e1;generalize ((R0 / R1:Nat):Int)=q at *;generalize ((R0 % R1:Nat):Int)=z at *
  grind
 ·rw[← h.dv t];constructor
  ·rintro⟨h1,h2⟩;exact⟨(Nat.dvd_mod_iff h1).mp h2,h1⟩
  ·rintro⟨h1,h2⟩;exact⟨h2,(Nat.dvd_mod_iff h2).mpr h1⟩
 ·have:=Nat.mul_le_mul_left (1*x0+(0-((R0 / R1:Nat):Int))*x1).natAbs r1;omega
 ·have:=Nat.mul_le_mul_left (1*y0+(0-((R0 / R1:Nat):Int))*y1).natAbs r1;omega
def Qmy(d:Den):Prop:=∀a b:Nat,a<2^1999->b<2^1999->∃(g:Nat) (x y:Int),d [.int a,.int b]=some (.tup [.int g,.int x,.int y],true)/\(g:Int)=x*a+y*b/\g∣a/\g∣b/\x.natAbs<=2^1999/\y.natAbs<=2^1999
theorem QvB(ha:Qjs da):Qmy (Qx 5 (Qiy da)):=λa b la lb=>by
 have p:(2:Nat)^2000=2*2^1999:=by rw[Zcj,ZaU]
 have key:Run (Qiy da) [slI a,slI b,none,none,none] λo=>match o with | .rt d fr=>fr=true/\∃(g:Nat) (x y:Int),d= .tup [.int g,.int x,.int y]/\(g:Int)=x*a+y*b/\g∣a/\g∣b/\x.natAbs<=2^1999/\y.natAbs<=2^1999 | _=>False:=by
  refine rsa (d:=Qb 3 (Qch a 1 0)) rfl ?_;refine rsa (d:=Qb 3 (Qch b 0 1)) rfl ?_;refine Qbl (P:=λU=>∃(g:Nat) (x y z u:Int) (b2:Bool) (j3 j4:Option (D×Bool)),Wgh a b g 0 x y z u/\U=[slI a,slI b,some (Qb 3 (Qch g x y),b2),j3,j4]) ?_ ?_
  ·refine QeT (λn U=>∃(R0 R1:Nat) (x0 y0 x1 y1:Int) (b2 b3:Bool) (j4:Option (D×Bool)),R1=n/\Wgh a b R0 R1 x0 y0 x1 y1/\U=[slI a,slI b,some (Qb 3 (Qch R0 x0 y0),b2),some (Qb 3 (Qch R1 x1 y1),b3),j4]) ?_ b _ ⟨a,b,1,0,0,1,true,true,none,rfl,⟨⋯,⋯,λt=>Iff.rfl,⋯,⋯,by simp,by simp,by simp,by simp,by simp,by simp⟩,rfl⟩;rintro n U ⟨R0,R1,x0,y0,x1,y1,b2,b3,j4,rfl,W,rfl⟩;obtain⟨r2,v2,d2⟩:∃r:HS.R,Qg 2 [slI a,slI b,some (Qb 3 (Qch R0 x0 y0),b2),some (Qb 3 (Qch R1 x1 y1),b3),j4]=some r/\r.d=Qb 3 (Qch R0 x0 y0):=by cases b2<;>exact⟨_,rfl,rfl⟩
   obtain⟨r3,v3,d3⟩:∃r:HS.R,Qg 3 [slI a,slI b,some (Qb 3 (Qch R0 x0 y0),b2),some (Qb 3 (Qch R1 x1 y1),b3),j4]=some r/\r.d=Qb 3 (Qch R1 x1 y1):=by cases b3<;>exact⟨_,rfl,rfl⟩
   refine⟨!decide ((R1:Int)=0),QH (Qcy (Q6 v3 d3 rfl rfl (by decide)) rfl rfl rfl) rfl,λh=>?_,λh=>?_⟩
   ·have hr:R1=0:=by
     have:(R1:Int)=0:=by simpa using h
     omega
    subst hr;exact⟨R0,x0,y0,x1,y1,b2,_,_,W,rfl⟩
   ·have hr:R1≠0:=by
     have:¬(R1:Int)=0:=by simpa using h
     omega
    have hq:(R0 / R1)<2^2000:=ZT (Nat.div_le_self R0 R1) W.l0;have x0l:=W.x0l;have x1l:=W.x1l;have y0l:=W.y0l;have y1l:=W.y1l;have W':=W.step hr;have er:(Qb 3 λi=>1*Qch R0 x0 y0 i+(0-((R0 / R1:Nat):Int))*Qch R1 x1 y1 i)=Qb 3 (Qch ((R0 % R1:Nat):Int) (1*x0+(0-((R0 / R1:Nat):Int))*x1) (1*y0+(0-((R0 / R1:Nat):Int))*y1)):=Qc3 λi hi=>by
     match i,hi with
     | 0,_=>
      show 1*(R0:Int)+(0-((R0 / R1:Nat):Int))*R1=((R0 % R1:Nat):Int);have e:R0 / R1*R1+R0 % R1=R0:=by rw[ZaU];exact Nat.div_add_mod R0 R1
      have e':((R0 / R1:Nat):Int)*R1+((R0 % R1:Nat):Int)=R0:=by rw[← Zan,← ZaJ,e]
      generalize ((R0 / R1:Nat):Int)=q at *;generalize ((R0 % R1:Nat):Int)=z at *
      grind
     | 1,_=>rfl
     | 2,_=>rfl
    have ec:=ha 3 1 (0-((R0 / R1:Nat):Int)) (Qch R0 x0 y0) (Qch R1 x1 y1) (Qa7 (by decide)) (Qa7 (by rw[Zag,Int.natAbs_neg,Int.natAbs_natCast];exact hq)) λi _=>⟨QnK (by have:=W.l0;omega) ⋯ ⋯ i,QnK (by have:=W.l1;omega) ⋯ ⋯ i⟩;rw[er]at ec;refine rsa (Ql (r:=⟨[.int 1,Qb 3 (Qch R0 x0 y0),.int (0-((R0 / R1:Nat):Int)),Qb 3 (Qch R1 x1 y1)],_,_⟩) ((Qq rfl (Qq v2 (Qq (QcA (b:=((R0 / R1:Nat):Int)) rfl rfl (Qm7 (b:=R1) (Q6 v2 d2 rfl rfl (by decide)) rfl (Q6 v3 d3 rfl rfl (by decide)) rfl ⋯ (by have:=W.l1;omega)) rfl) (Qq v3 (QL _))))).trans (by rw[d2,d3])) ec rfl) ?_;generalize hnf:Qch ((R0 % R1:Nat):Int) (1*x0+(0-((R0 / R1:Nat):Int))*x1) (1*y0+(0-((R0 / R1:Nat):Int))*y1)=nf at ec er ⊢;cases b3
    ·refine run_seq (Qz (Qa3 rfl) ?_);refine run_seq (Qz (Qa3 rfl) (Qt ?_));refine⟨R0 % R1,Nat.mod_lt _ ⋯,R1,R0 % R1,x1,y1,_,_,false,false,slF (Qb 3 nf),rfl,W',?_⟩;rw[hnf];rfl
    ·refine run_seq (Qz (Qa3 rfl) ?_);refine run_seq (Qz (Qa3 rfl) (Qt ?_));refine⟨R0 % R1,Nat.mod_lt _ ⋯,R1,R0 % R1,x1,y1,_,_,false,false,slF (Qb 3 nf),rfl,W',?_⟩;rw[hnf];rfl
  ·rintro U ⟨g,x,y,z,u,b2,j3,j4,W,rfl⟩;have hd:=(W.dv g).mp ⟨Nat.dvd_refl g,Nat.dvd_zero g⟩;have x0l:=W.x0l;have y0l:=W.y0l;refine QC (Qbg (by cases b2<;>rfl) ⟨rfl,g,x,y,rfl,W.e0,hd.1,hd.2,⋯,⋯⟩)
 obtain⟨o,h1,h2⟩:=key;cases o with
 | rt d fr=>
  obtain⟨rfl,g,x,y,rfl,h⟩:=h2;exact⟨g,x,y,by show Option.bind (Qiy da [slI a,slI b,none,none,none]) outD=_;rw[h1];rfl,h⟩
 | _=>exact h2.elim
noncomputable def QgF(T:Mt2)(l a:Nat)(p q r s:Int):Nat->Nat->Int:=Qc4 T l (λj=>p*T l j+q*T a j) a λj=>r*T l j+s*T a j
noncomputable def Qeg(B:Mt2)(l a:Nat)(p q r s:Int):Nat->Nat->Int:=λi j=>if j=a then(0-q)*B i l+p*B i a else if j=l then s*B i l+(0-r)*B i a else B i j
theorem QiR(j:Nat):QgF T l a p q r s a j=r*T l j+s*T a j:=by unfold QgF Qc4;rw[if_pos rfl]
theorem QiQ(h:l≠a)(j:Nat):QgF T l a p q r s l j=p*T l j+q*T a j:=by unfold QgF Qc4;rw[if_neg h,if_pos rfl]
theorem Qf6(h1:i≠a)(h2:i≠l)(j:Nat):QgF T l a p q r s i j=T i j:=by unfold QgF Qc4;rw[if_neg h1,if_neg h2]
theorem QpR(i:Nat):Qeg B l a p q r s i a=(0-q)*B i l+p*B i a:=by unfold Qeg;rw[if_pos rfl]
theorem Qo1(h:l≠a)(i:Nat):Qeg B l a p q r s i l=s*B i l+(0-r)*B i a:=by unfold Qeg;rw[if_neg h,if_pos rfl]
theorem Qlc(h1:j≠a)(h2:j≠l)(i:Nat):Qeg B l a p q r s i j=B i j:=by unfold Qeg;rw[if_neg h1,if_neg h2]
theorem QqR(n:Nat)(α β:Int)(f g:Mt1):(Qn n λk=>α*f k+β*g k)=α*Qn n f+β*Qn n g:=by rw[Qam,QT,QT]
theorem QfH(n:Nat)(α β:Int)(f g h:Mt1):(Qn n λk=>(α*f k+β*g k)*h k)=α*(Qn n λk=>f k*h k)+β*Qn n λk=>g k*h k:=by
 rw[← QqR];exact Qj λk _=>by rw[ZM,ZE,ZE]
theorem Qn0(n:Nat)(α β:Int)(f g h:Mt1):(Qn n λk=>h k*(α*f k+β*g k))=α*(Qn n λk=>h k*f k)+β*Qn n λk=>h k*g k:=by
 rw[← QqR];exact Qj λk _=>by rw[Zay,ZO,ZO (h k)]
theorem Qxz(hl:l<n)(ha:a<n)(hla:l≠a)(hd:p*s-q*r=1)(u1:Qbq n T B)(u2:Qbq n B T):
  Qbq n (QgF T l a p q r s) (Qeg B l a p q r s)/\Qbq n (Qeg B l a p q r s) (QgF T l a p q r s):=by
 constructor
 ·intro i j hi hj;have two:∀c d:Nat,c<n->d<n->(Qn n λk=>T c k*B k d)=idF c d:=λc d hc hd=>u1 c d hc hd;have right:∀c,c<n->(Qn n λk=>T c k*Qeg B l a p q r s k j)=if j=a then(0-q)*idF c l+p*idF c a else if j=l then s*idF c l+(0-r)*idF c a else idF c j:=λc hc=>by
   by_cases ja:j=a
   ·subst ja;rw[if_pos rfl,Qj λk _=>by rw[QpR],Qn0,two c l hc hl,two c j hc hj]
   ·by_cases jl:j=l
    ·subst jl;rw[if_neg ja,if_pos rfl,Qj λk _=>by rw[Qo1 hla],Qn0,two c j hc hj,two c a hc ha]
    ·rw[if_neg ja,if_neg jl,Qj λk _=>by rw[Qlc ja jl],two c j hc hj]
  have ll:idF l l=1:=by unfold idF;rw[if_pos rfl]
  have aa:idF a a=1:=by unfold idF;rw[if_pos rfl]
  have la:idF l a=0:=by unfold idF;rw[if_neg hla]
  have al:idF a l=0:=by unfold idF;rw[if_neg (Ne.symm hla)]
  have ne:∀c d:Nat,c≠d->idF c d=0:=λc d h=>by unfold idF;rw[if_neg h]
  show(Qn n λk=>QgF T l a p q r s i k*Qeg B l a p q r s k j)=idF i j;by_cases ia:i=a
  ·subst ia;rw[Qj λk _=>by rw[QiR],QfH,right l hl,right i hi];by_cases ja:j=i
   ·subst ja;rw[if_pos rfl,if_pos rfl,ll,la,al,aa];grind
   ·rw[if_neg ja,if_neg ja];by_cases jl:j=l
    ·subst jl;rw[if_pos rfl,if_pos rfl,ll,la,al,aa];grind
    ·rw[if_neg jl,if_neg jl,ne l j (Ne.symm jl),ne i j (Ne.symm ja)];omega
  ·by_cases il:i=l
   ·subst il;rw[Qj λk _=>by rw[QiQ hla],QfH,right i hi,right a ha];by_cases ja:j=a
    ·subst ja;rw[if_pos rfl,if_pos rfl,ll,la,al,aa];grind
    ·rw[if_neg ja,if_neg ja];by_cases jl:j=i
     ·subst jl;rw[if_pos rfl,if_pos rfl,ll,la,al,aa];grind
     ·rw[if_neg jl,if_neg jl,ne i j (Ne.symm jl),ne a j (Ne.symm ja)];omega
   ·rw[Qj λk _=>by rw[Qf6 ia il],right i hi,ne i l il,ne i a ia];by_cases ja:j=a
    ·subst ja;rw[if_pos rfl,ne i j ia];omega
    ·rw[if_neg ja];by_cases jl:j=l
     ·subst jl;rw[if_pos rfl,ne i j il];omega
     ·rw[if_neg jl]
 ·intro i j hi hj;rw[← u2 i j hi hj];refine Qvd hl ha hla (λk _ k1 k2=>by rw[Qlc k2 k1,Qf6 k2 k1]) ?_;rw[Qo1 hla,QpR,QiQ hla,QiR];generalize B i l=bl;generalize B i a=ba;generalize T l j=tl;generalize T a j=ta
  grind
structure Qe4 (n last at':Nat) (x:Mt1) (T B:Mt2) (wh:Nat):Prop where
 u1:Qbq n T B
 u2:Qbq n B T
 tl:∀i j,last<i->i<n->j<n->T i j=idF i j
 tu:∀i j,i<=last->last<j->j<n->T i j=0
 bl:∀i j,i<n->last<j->j<n->B i j=idF i j
 un:∀i j,at'<=i->i<last->j<n->T i j=idF i j
 h0:∀i,i<at'->(Qn n λj=>T i j*x j)=0
 hl:(Qn n λj=>T last j*x j)=wh
 wl:wh<2^1999
 bT:∀i j,i<n->j<n->(T i j).natAbs<=2^(2000*at')
 bB:∀i j,i<n->j<n->(B i j).natAbs<=2^(2000*at')
theorem QrQ{p q a b:Int}{k:Nat}(hp:p.natAbs<=2^1999)(hq:q.natAbs<=2^1999)(ha:a.natAbs<=2^(2000*k))(hb:b.natAbs<=2^(2000*k)):(p*a+q*b).natAbs<=2^(2000*(k+1)):=by
 have h1:=ZbC (p*a) (q*b);rw[Zao,Zao]at h1;have h2:=ZaY hp ha;have h3:=ZaY hq hb;have h4:(2:Nat)^(2000*(k+1))=2*(2^1999*2^(2000*k)):=by
  rw[← Nat.pow_add,← Nat.pow_succ'];congr 1;omega
 omega
theorem Qe4.skip(h:Qe4 n last at' x T B wh)(hl:last<n)(ha:at'<last)(hx:x at'=0):Qe4 n last (at'+1) x T B wh:=by
 have up:(2:Nat)^(2000*at')<=2^(2000*(at'+1)):=Zq (by decide) ⋯;refine⟨h.u1,h.u2,h.tl,h.tu,h.bl,λi j h1 h2=>h.un i j ⋯ h2,λi hi=>?_,h.hl,h.wl,λi j hi hj=>Zt (h.bT i j hi hj) up,λi j hi hj=>Zt (h.bB i j hi hj) up⟩;by_cases e:i=at'
 ·subst e;rw[Qa6 (a:=i) ⋯ λj hj ne=>by rw[h.un i j (Zi _) ha hj];unfold idF;rw[if_neg (Ne.symm ne),ZF],hx,ZI]
 ·exact h.h0 i ⋯
theorem Qe4.step(h:Qe4 n last at' x T B wh)(hl:last<n)(ha:at'<last)(g0:g≠0)(hw:wh=g*one)(hx:x at'=(g*other:Nat))(hxl:g*other<2^1999)(hg:(g:Int)=p*wh+q*x at')
  (pl:p.natAbs<=2^1999) (ql:q.natAbs<=2^1999):Qe4 n last (at'+1) x (QgF T last at' p q (0-(other:Int)) one) (Qeg B last at' p q (0-(other:Int)) one) g:=by
 have hla:last≠at':= ⋯
 have an:at'<n:= ⋯
 have g0':(g:Int)≠0:= ⋯
 have onel:one<2^1999:=by
  have:=h.wl;have:one<=g*one:=Nat.le_mul_of_pos_left one ⋯;omega
 have otherl:other<2^1999:=by
  have:other<=g*other:=Nat.le_mul_of_pos_left other ⋯;omega
 have gl:g<2^1999∨one=0:=by
  by_cases z:one=0
  ·exact .inr z
  ·have:=h.wl;have:g<=g*one:=Zbt g ⋯;exact .inl ⋯
 have hd:p*one-q*(0-(other:Int))=1:=by
  rw[hw,hx,Zan,Zan]at hg;have:(g:Int)*(p*one-q*(0-(other:Int)))=g*1:=by grind
  exact Zaj g0' this
 have gl:g<2^1999:=by
  rcases gl with z | z
  ·exact z
  ·rw[z]at hd;have:other≠0:=λz=>by rw[z]at hd;simp at hd
   have:g<=g*other:=Zbt g ⋯;omega
 obtain⟨v1,v2⟩:=Qxz hl an hla hd h.u1 h.u2;have tA:∀j,j<n->T at' j=idF at' j:=λj hj=>h.un at' j (Zi _) ha hj;have hA:(Qn n λj=>T at' j*x j)=x at':=by
  rw[Qa6 an λj hj ne=>by rw[tA j hj];unfold idF;rw[if_neg (Ne.symm ne),ZF],tA at' an];unfold idF;rw[if_pos rfl,ZQ]
 have ol:(0-(other:Int)).natAbs<=2^1999:=by rw[Zag,Int.natAbs_neg,Int.natAbs_natCast];omega
 have ol':(0-(0-(other:Int))).natAbs<=2^1999:=by rw[Zag,Int.natAbs_neg];exact ol
 have ql':(0-q).natAbs<=2^1999:=by rw[Zag,Int.natAbs_neg];exact ql
 have oneb:(one:Int).natAbs<=2^1999:=by rw[Int.natAbs_natCast];omega
 have up:(2:Nat)^(2000*at')<=2^(2000*(at'+1)):=Zq (by decide) ⋯;refine⟨v1,v2,λi j h1 h2 h3=>by rw[Qf6 ⋯ ⋯];exact h.tl i j h1 h2 h3,λi j h1 h2 h3=>?_,λi j h1 h2 h3=>by rw[Qlc ⋯ ⋯];exact h.bl i j h1 h2 h3,λi j h1 h2 h3=>by rw[Qf6 ⋯ ⋯];exact h.un i j ⋯ h2 h3,λi hi=>?_,?_,gl,λi j hi hj=>?_,λi j hi hj=>?_⟩
 ·by_cases e1:i=at'
  ·subst e1;rw[QiR,h.tu last j (Zi _) h2 h3,h.tu i j ⋯ h2 h3];omega
  ·by_cases e2:i=last
   ·subst e2;rw[QiQ hla,h.tu i j (Zi _) h2 h3,h.tu at' j ⋯ h2 h3];omega
   ·rw[Qf6 e1 e2];exact h.tu i j h1 h2 h3
 ·by_cases e1:i=at'
  ·subst e1;rw[Qj λj _=>by rw[QiR],QfH,h.hl,hA,hw,hx,Zan,Zan]
   grind
  ·rw[Qj λj _=>by rw[Qf6 e1 ⋯]];exact h.h0 i ⋯
 ·rw[Qj λj _=>by rw[QiQ hla],QfH,h.hl,hA];exact hg.symm
 ·by_cases e1:i=at'
  ·subst e1;rw[QiR];exact QrQ ol oneb (h.bT last j hl hj) (h.bT i j hi hj)
  ·by_cases e2:i=last
   ·subst e2;rw[QiQ hla];exact QrQ pl ql (h.bT i j hi hj) (h.bT at' j an hj)
   ·rw[Qf6 e1 e2];exact Zt (h.bT i j hi hj) up
 ·by_cases e1:j=at'
  ·subst e1;rw[QpR];exact QrQ ql' pl (h.bB i last hi hl) (h.bB i j hi hj)
  ·by_cases e2:j=last
   ·subst e2;rw[Qo1 hla];exact QrQ oneb ol' (h.bB i j hi hj) (h.bB i at' hi an)
   ·rw[Qlc e1 e2];exact Zt (h.bB i j hi hj) up
theorem Qe4.start{n last:Nat}{x:Mt1}(hl:last<n){wh:Nat}(hw:x last=wh)(wl:wh<2^1999):Qe4 n last 0 x idF idF wh:=by
 have u:Qbq n idF idF:=λi j hi hj=>Qb0 _ _ hi;have b1:∀i j,(idF i j).natAbs<=2^(2000*0):=λi j=>by unfold idF;split<;>decide
 refine⟨u,u,λ_ _ _ _ _=>rfl,λi j h1 h2 _=>by unfold idF;rw[if_neg ⋯],λ_ _ _ _ _=>rfl,λ_ _ _ _ _=>rfl,λi hi=> ⋯,?_,wl,λi j _ _=>b1 i j,λi j _ _=>b1 i j⟩;rw[Qa6 hl λj _ ne=>by unfold idF;rw[if_neg (Ne.symm ne),ZF]];unfold idF;rw[if_pos rfl,ZQ];exact hw
theorem Qe4.tell(h:Qe4 n last last x T B wh):Qoq n last x T B wh:=⟨h.u1,h.u2,h.tl,h.tu,h.bl,λi hi=>by
 by_cases e:i=last
 ·rw[if_pos e,e];exact h.hl
 ·rw[if_neg e];exact h.h0 i ⋯⟩
theorem QhK{n N i:Nat}{f:Mt2}(h:i<n):((List.range n).map λi=>Qb N (f i))[i]? =some (Qb N (f i)):=by
 rw[Zr,ZK h];rfl
theorem Qw7{i k:Nat}(ht:U[t]? =some (slT (Qc n n T)))(hb:U[b]? =some (slT (Qc n n B)))(h1:t≠b)(h2:ln≠t)(h3:ln≠b)(h4:ln<U.length)
  (ei:fi U=some (reI i)) (ek:fk U=some (reI k)) (hi:i<n) (hk:k<n) (e1:(((U.set t none).set b none).set ln none).set ln (slF (.tup [Qb n (T i),Qb n (T k),Qb n (B i),Qb n (B k)]))=U1)
  (ei':fi U1=some (reI i)) (ek':fk U1=some (reI k)) (c1:g1 U1=some (reT (Qb n a1))) (c2:g2 U1=some (reT (Qb n a2))) (c3:g3 U1=some (reT (Qb n a3))) (c4:g4 U1=some (reT (Qb n a4)))
  (q:Q (.nx (((((U.set t none).set b none).set ln none).set t (slT (Qc n n (Qc4 T i a1 k a2)))).set b (slT (Qc n n (Qc4 B i a3 k a4)))))):Run (QiG t b ln fi fk g1 g2 g3 g4) U Q:=by
 refine⟨_,?_,q⟩;unfold QiG;rw[ht,hb];simp only[Qc];rw[if_pos ⟨h1,h2,h3,h4⟩,ei,Za,ek,Za];simp only[Zn,Zu];rw[Qby (show(0:Int)<=i by omega) ⋯,Qby (show(0:Int)<=k by omega) ⋯];simp only[Za,ZP];rw[QhK hi,QhK hk,QhK hi,QhK hk];simp only[Za];rw[show(QhD t b ln U).set ln (QoS (Qb n (T i)) (Qb n (T k)) (Qb n (B i)) (Qb n (B k)))=U1 from e1];unfold Qit;rw[ei',Za,ek',Za,c1,Za,c2,Za,c3,Za,c4,Za];have o0:∀a:Nat->Int,Qff (HS.R.mk (Qb n a) true [])=true:=λa=>rfl;simp only[o0,and_self,if_true];rw[Qes hi,Qes hk,Qes hi,Qes hk];rfl
noncomputable def Qeh(QaQ:Den)(Qgp:Den)(Qc1:Den)(Qat:Den):DS:=(Qd (Qo 2 (Qh 1 QaQ [] (Qa (dBf Q2 (Qa vv0 Qe)) Qe))) (Qd (Qo 3 (Qh 1 QaQ [] (Qa (dBf Q2 (Qa vv0 Qe)) Qe))) (Qd (Qo 4 (QaB (Qr vv0 vv1))) (Qd (QaV (QaH vv1) (.nm 5) (Qd (Qo 6 (Qh 2 Qgp [] (Qa vv4 (Qa (Qr vv0 vv5) Qe)))) (Qd (sIf (QB (dOp gEq (Qr vv6 kk0) kk0)) (Qd Qsb Qm) Qm) (Qd (Qo 7 (dOp Qa4 vv4 (Qr vv6 kk0))) (Qd (Qo 8 (dOp Qa4 (Qr vv0 vv5) (Qr vv6 kk0))) (Qd (QiG 2 3 9 vv1 vv5 (Qh 4 Qc1 [] (Qa (Qr vv6 kk1) (Qa (Qr vv9 kk0) (Qa (Qr vv6 kk2) (Qa (Qr vv9 kk1) Qe))))) (Qh 4 Qc1 [] (Qa (dOp Qax kk0 vv8) (Qa (Qr vv9 kk0) (Qa vv7 (Qa (Qr vv9 kk1) Qe))))) (Qh 4 Qc1 [] (Qa vv7 (Qa (Qr vv9 kk2) (Qa vv8 (Qa (Qr vv9 kk3) Qe))))) (Qh 4 Qc1 [] (Qa (dOp Qax kk0 (Qr vv6 kk2)) (Qa (Qr vv9 kk2) (Qa (Qr vv6 kk1) (Qa (Qr vv9 kk3) Qe)))))) (Qd (Qo 4 (QaB (Qr vv6 kk0))) Qm))))))) (Qd (QM (QaO (Qa vv2 (Qa (Qh 1 Qat [] (Qa vv3 Qe)) Qe)))) Qm)))))
def QmU(d:Den):Prop:=∀(n last:Nat) (x:Mt1),last<n->n<=8->(∀i,i<n->0<=x i/\x i<2^1999)->∃(T B:Mt2) (g:Nat),d [Qb n x,.int last]=some (.tup [Qc n n T,Qc n n B],true)/\Qoq n last x T B g/\(∀i j,i<n->j<n->(T i j).natAbs<=2^16000)/\(∀i j,i<n->j<n->(B i j).natAbs<=2^16000)
theorem QuS(hu:Qhi du)(hw:Qmy dw)(ha:Qjs da)(ht:QcJ dt):QmU (Qx 10 (Qeh du dw da dt)):=λn last x hl n8 hx=>by
 obtain⟨X,hX⟩:∃X:Nat->Nat,∀i,i<n->x i=X i:=⟨λi=>(x i).toNat,λi hi=>by have:=(hx i hi).1;show x i=((x i).toNat:Int);omega⟩;have hXl:∀i,i<n->X i<2^1999:=λi hi=>by have:=(hx i hi).2;rw[hX i hi]at this;omega
 have key:Run (Qeh du dw da dt) [slF (Qb n x),slI last,none,none,none,none,none,none,none,none] λo=>match o with | .rt d fr=>fr=true/\∃(T B:Mt2) (g:Nat),d= .tup [Qc n n T,Qc n n B]/\Qoq n last x T B g/\(∀i j,i<n->j<n->(T i j).natAbs<=2^16000)/\(∀i j,i<n->j<n->(B i j).natAbs<=2^16000) | _=>False:=by
  have elen:∀U:En,U[0]? =some (slF (Qb n x))->dBf Q2 (Qa (Qg 0) Qe) U=some (reI n):=λU hU=>QbO (QbD hU) rfl;refine rsa (Ql (Qq (elen _ rfl) (QL _)) (hu n ⋯) rfl) ?_;refine rsa (Ql (Qq (elen _ rfl) (QL _)) (hu n ⋯) rfl) ?_;refine run_seq (Qz ((Qa3 (Q6 rfl rfl rfl rfl hl)).trans (by rw[hX last hl])) ?_);rw[Qdn rfl];have symm:(λi j=>idF j i)=idF:=by
   funext i j;unfold idF;by_cases z:i=j
   ·rw[if_pos z,if_pos z.symm]
   ·rw[if_neg z,if_neg (Ne.symm z)]
  refine QC (Qay (List.range last) (λat' U=>∃(T B:Mt2) (wh:Nat) (j5 j6 j7 j8 j9:Option (D×Bool)),Qe4 n last at' x T B wh/\U=[slF (Qb n x),slI last,slT (Qc n n T),slT (Qc n n (λi j=>B j i)),slI wh,j5,j6,j7,j8,j9]) (QaR rfl rfl ⋯) rfl ⟨idF,idF,X last,none,none,none,none,none,Qe4.start hl (hX last hl) (hXl last hl),by rw[symm];rfl⟩ ?_ ?_)
  ·rintro k k' U hk ⟨T,B,wh,j5,j6,j7,j8,j9,C,rfl⟩;obtain⟨hkl,rfl⟩:=Qdx hk;have kn:k<n:= ⋯
   obtain⟨g,p,q,ew,eg,g1,g2,pl,ql⟩:=hw wh (X k) C.wl (hXl k kn);refine⟨[slF (Qb n x),slI last,slT (Qc n n T),slT (Qc n n (λi j=>B j i)),slI wh,slI k,j6,j7,j8,j9],rfl,?_⟩;refine rsa (Ql (r:=⟨[.int wh,.int (X k)],true,[]⟩) (Qq (r:=reI wh) rfl (Qq ((Q6 (f:=x) rfl rfl rfl rfl kn).trans (by rw[hX k kn])) (QL _))) ew rfl) ?_;change Run _ [slF (Qb n x),slI last,slT (Qc n n T),slT (Qc n n (λi j=>B j i)),slI wh,slI k,slT (.tup [.int g,.int p,.int q]),j7,j8,j9] _;refine QC (QU (QH (QaY rfl rfl rfl rfl) rfl) (λh=>?_) (λh=>Qt ?_))
   ·have hg:g=0:=by
     have:(g:Int)=0:=of_decide_eq_true h;omega
    subst hg;have hxk:x k=0:=by rw[hX k kn,Nat.eq_zero_of_zero_dvd g2];rfl
    exact QC ⟨_,rfl,T,B,wh,_,_,_,_,_,C.skip hl hkl hxk,rfl⟩
   have g0:g≠0:=λz=>by
    have:=of_decide_eq_false h;omega
   obtain⟨one,hone⟩:=g1;obtain⟨other,hother⟩:=g2;have gl:g<2^2000:=by
    have p:(2:Nat)^2000=2*2^1999:=by rw[Zcj,ZaU]
    have w1:=C.wl;have w2:=hXl k kn;by_cases z:wh=0
    ·by_cases z2:X k=0
     ·rw[z,z2]at eg;simp at eg;omega
     ·have:=Zbn ⋯ (⟨other,hother⟩:g∣X k);omega
    ·have:=Zbn ⋯ (⟨one,hone⟩:g∣wh);omega
   refine rsa (QeA rfl rfl rfl rfl ⋯ (by rw[Int.natAbs_natCast];exact gl) (by rw[hone,Zan])) ?_;refine rsa (QeA ((Q6 rfl rfl rfl rfl kn).trans (by rw[hX k kn])) rfl rfl rfl ⋯ (by rw[Int.natAbs_natCast];exact gl) (by rw[hother,Zan])) ?_;change Run _ [slF (Qb n x),slI last,slT (Qc n n T),slT (Qc n n (λi j=>B j i)),slI wh,slI k,slT (.tup [.int g,.int p,.int q]),slI one,slI other,j9] _;have C':=C.step hl hkl g0 hone (by rw[hX k kn,hother]) (by rw[← hother];exact hXl k kn) (by rw[hX k kn];exact eg) pl ql;have b8:∀z:Int,z.natAbs<=2^(2000*k)->QaA z:=λz hz=>Qka (k:=16001) (by
    have:(2:Nat)^(2000*k)<2^16001:=Nat.pow_lt_pow_right (by decide) ⋯;omega) (by decide)
   have bS:∀z:Int,z.natAbs<=2^1999->QaA z:=λz hz=>Qa7 (by
    have:(2:Nat)^1999<2^2000:=Nat.pow_lt_pow_right (by decide) (by decide);omega)
   have w1:=C.wl;have onel:(one:Int).natAbs<=2^1999:=by
    rw[Int.natAbs_natCast];have:one<=g*one:=Nat.le_mul_of_pos_left one ⋯;omega
   have otherl:(other:Int).natAbs<=2^1999:=by
    rw[Int.natAbs_natCast];have:other<=g*other:=Nat.le_mul_of_pos_left other ⋯;have:=hXl k kn;omega
   have neg:∀z:Int,z.natAbs<=2^1999->(0-z).natAbs<=2^1999:=λz hz=>by rw[Zag,Int.natAbs_neg];exact hz
   have eb:Qc4 (λi j=>B j i) last (λj=>(one:Int)*B j last+(other:Int)*B j k) k (λj=>(0-q)*B j last+p*B j k)=λi j=>Qeg B last k p q (0-(other:Int)) one j i:=by
    funext i j;unfold Qc4 Qeg;by_cases e1:i=k
    ·rw[if_pos e1,if_pos e1]
    ·rw[if_neg e1,if_neg e1];by_cases e2:i=last
     ·rw[if_pos e2,if_pos e2,show(0-(0-(other:Int)))=other by omega]
     ·rw[if_neg e2,if_neg e2]
   refine run_seq (Qw7
    rfl rfl (by decide) (by decide) (by decide) (show 9<10 by decide) rfl rfl hl kn rfl rfl rfl
    (Ql rfl (ha n p q (T last) (T k) (bS p pl) (bS q ql) λi hi=>⟨b8 _ (C.bT last i hl hi),b8 _ (C.bT k i kn hi)⟩) rfl)
    (Ql rfl (ha n (0-other) one (T last) (T k) (bS _ (neg _ otherl)) (bS _ onel) λi hi=>⟨b8 _ (C.bT last i hl hi),b8 _ (C.bT k i kn hi)⟩) rfl)
    (Ql rfl (ha n one other (λj=>B j last) (λj=>B j k) (bS _ onel) (bS _ otherl) λi hi=>⟨b8 _ (C.bB i last hi hl),b8 _ (C.bB i k hi kn)⟩) rfl)
    (Ql rfl (ha n (0-q) p (λj=>B j last) (λj=>B j k) (bS _ (neg _ ql)) (bS p pl) λi hi=>⟨b8 _ (C.bB i last hi hl),b8 _ (C.bB i k hi kn)⟩) rfl) ?_)
   rw[eb];refine run_seq (Qz rfl (Qt ?_));rw[Qdn rfl];exact⟨_,_,g,_,_,_,_,_,C',rfl⟩
  ·rintro U ⟨T,B,wh,j5,j6,j7,j8,j9,C,rfl⟩;rw[Zu]at C;have bound:(2:Nat)^(2000*last)<=2^16000:=Zq (by decide) ⋯;refine Qy (r:=⟨.tup [Qc n n T,Qc n n B],true,[2]⟩) ?_ ⟨rfl,T,B,wh,rfl,C.tell,λi j hi hj=>Zt (C.bT i j hi hj) bound,λi j hi hj=>Zt (C.bB i j hi hj) bound⟩;have ec:Qh 1 dt [] (Qa (Qg 3) Qe) [slF (Qb n x),slI last,slT (Qc n n T),slT (Qc n n λi j=>B j i),slI wh,j5,j6,j7,j8,j9]=some (reT (Qc n n B)):=Ql rfl (ht n _ ⋯) rfl;unfold QaO;rw[Qq rfl (Qq ec (QL _))];rfl
 obtain⟨o,h1,h2⟩:=key;cases o with
 | rt d fr=>
  obtain⟨rfl,T,B,g,rfl,h⟩:=h2;exact⟨T,B,g,by show Option.bind (Qeh du dw da dt [slF (Qb n x),slI last,none,none,none,none,none,none,none,none]) outD=_;rw[h1];rfl,h⟩
 | _=>exact h2.elim
noncomputable def Qqn(Qdv:Den):DS:=(Qd (QM (Qh 1 Qdv [] (Qa (QE (QF (QX vv0) (.nm 1) [none,none] QN (Qh 1 Qdv [] (Qa vv1 Qe))) (Qad (Qa vv1 Qe))) Qe))) Qm)
def Qjn(d:Den):Prop:=∀(k n:Nat) (f:Mt2) (L:Int),k<=100->∃g:Int,d [Qc k n f,.int L]=some (.int g,true)/\0<=g/\∀t,t∣g↔((∀i j,i<k->j<n->t∣f i j)/\t∣L)
theorem Qwm(hc:QhQ dc):Qjn (Qx 2 (Qqn dc)):=λk n f L hk=>by
 obtain⟨gi,hgi⟩:=Zcf λi:Nat=>hc ((List.range n).map (f i));have hrow:∀i t,t∣gi i↔∀j,j<n->t∣f i j:=λi t=>by
  rw[(hgi i).2.2 t];exact⟨λh j hj=>h _ (ZL.mpr ⟨j,Zf.mpr hj,rfl⟩),λh x hx=>by obtain⟨j,hj,rfl⟩:=ZL.mp hx;exact h j (Zf.mp hj)⟩
 obtain⟨g,eg,g0,hg⟩:=hc ((List.range (k+1)).map (up gi k L));rw[← Qf5]at eg;refine⟨g,QR (Qy (Ql (Qq (QfJ (QA (List.range k) (QW rfl rfl) rfl λi _=>⟨[none,slF (Qb n (f i))],rfl,reI (gi i),Ql rfl (by rw[Qf5];exact(hgi i).1) rfl,rfl,rfl⟩) rfl rfl ⋯) (QL _)) eg rfl) ⟨rfl,rfl⟩),g0,λt=>?_⟩;rw[hg t];constructor
 ·intro h;refine⟨λi j hi hj=>(hrow i t).mp (h _ (ZL.mpr ⟨i,Zf.mpr ⋯,by rw[Qcz,if_neg ⋯]⟩)) j hj,h _ (ZL.mpr ⟨k,Zf.mpr ⋯,by rw[Qcz,if_pos rfl]⟩)⟩
 ·rintro⟨h1,h2⟩ x hx;obtain⟨i,hi,rfl⟩:=ZL.mp hx;have hi:=Zf.mp hi;rw[Qcz];by_cases e:i=k
  ·rw[if_pos e];exact h2
  ·rw[if_neg e];exact(hrow i t).mpr λj hj=>h1 i j ⋯ hj
noncomputable def Qvy:DS:=(Qd (QM (QF (QX vv0) (.nm 1) [none,none,some 1] QN (dOp Q9 vv1 vv2))) Qm)
def QhP(d:Den):Prop:=∀(n:Nat) (a:Mt1) (L:Int),0<L->d [Qb n a,.int L]=some (Qb n λi=>a i % L,true)
theorem Quk:QhP (Qx 2 Qvy):=λn a L hL=>
 QR (Qy (QA (List.range n) (QW rfl rfl) rfl λi _=>⟨[none,slI (a i),slI L],rfl,reI (a i % L),Q7 rfl rfl rfl rfl hL,rfl,rfl⟩) ⟨rfl,rfl⟩)
noncomputable def Qvr:DS:=(Qd (QM (QF (QX vv0) (.nm 1) [none,none,some 1] QN (dOp Qa4 vv1 vv2))) Qm)
def QhO(d:Den):Prop:=∀(n:Nat) (a q:Mt1) (b:Int),b≠0->b.natAbs<2^2000->(∀i,i<n->a i=b*q i)->d [Qb n a,.int b]=some (Qb n q,true)
theorem QsO:QhO (Qx 2 Qvr):=λn a q b b0 bl h=>
 QR (Qy (QA (List.range n) (QW rfl rfl) rfl λi hi=>⟨[none,slI (a i),slI b],rfl,reI (q i),QeA rfl rfl rfl rfl b0 bl (h i (Zf.mp hi)),rfl,rfl⟩) ⟨rfl,rfl⟩)
noncomputable def Qqd:DS:=(Qd (QM (QF (QX vv0) (.nm 1) [none,none,some 1] QN (QZ vv2 vv1))) Qm)
def Qnh(d:Den):Prop:=∀(n:Nat) (a:Mt1) (c:Int),QaA c->(∀i,i<n->QaA (a i))->d [Qb n a,.int c]=some (Qb n λi=>c*a i,true)
theorem Quw:Qnh (Qx 2 Qqd):=λn a c hc ha=>
 QR (Qy (QA (List.range n) (QW rfl rfl) rfl λi hi=>⟨[none,slI (a i),slI c],rfl,reI (c*a i),Q5 rfl rfl rfl rfl (QdG hc (ha i (Zf.mp hi))),rfl,rfl⟩) ⟨rfl,rfl⟩)
noncomputable def pairF(u v:Mt1):Nat->Nat->Int
 | 0=>u
 | _=>v
noncomputable def Qmh(Qb2:Den)(Qey:Den):DS:=(Qd (Qo 3 (Qh 2 Qb2 [] (Qa (Qad (Qa vv0 (Qa vv1 Qe))) (Qa vv2 Qe)))) (Qd (Qo 4 (QaB vv0)) (Qd (QbS (QB (dOp gNe (Qh 2 Qb2 [] (Qa (Qad (Qa vv4 Qe)) (Qa vv2 Qe))) vv3)) (Qd (Qo 4 (Qh 2 Qey [] (Qa (QF (Qaz vv4 vv1) (.tp [1,2]) [none,none,none] QN (QE vv1 vv2)) (Qa vv2 Qe)))) Qm)) (Qd (QM vv4) Qm))))
def QmQ(d:Den):Prop:=∀(n:Nat) (u v:Mt1) (L:Int),0<L->(∀i,i<n->0<=u i/\u i<L)->∃(x:Mt1) (fr:Bool) (k:Nat),d [Qb n u,Qb n v,.int L]=some (Qb n x,fr)/\(∀i,i<n->0<=x i/\x i<L)/\(∀i,i<n->L∣x i-(u i+k*v i))/\∀t,t∣L->(∀i,i<n->t∣x i)->(∀i,i<n->t∣u i)/\∀i,i<n->t∣v i
theorem Quy(hi:Qjn di)(hw:QhP dw):QmQ (Qx 5 (Qmh di dw)):=λn u v L hL hu=>by
 obtain⟨w,ew,w0,hwd⟩:=hi 2 n (pairF u v) L (by decide);have hwd:∀t,t∣w↔((∀i,i<n->t∣u i)/\(∀i,i<n->t∣v i)/\t∣L):=λt=>by
  rw[hwd t];constructor
  ·rintro⟨h1,h2⟩;exact⟨λi hi=>h1 0 i (by decide) hi,λi hi=>h1 1 i (by decide) hi,h2⟩
  ·rintro⟨h1,h2,h3⟩;refine⟨λi j hi hj=>?_,h3⟩
   match i,hi with
   | 0,_=>exact h1 j hj
   | 1,_=>exact h2 j hj
 obtain⟨Ln,hLn⟩:∃Ln:Nat,L=Ln:=⟨L.toNat,⋯⟩;obtain⟨T,hT⟩:=QyM u v (L:=Ln) ⋯;have hT:∀t:Int,t∣L->(∀i,i<n->t∣u i+T*v i)->(∀i,i<n->t∣u i)/\∀i,i<n->t∣v i:=λt h1 h2=>by
  have:=hT t.natAbs (by rw[hLn]at h1;have:=Zae.mpr h1;rwa[Int.natAbs_natCast]at this) λi hi=>Int.natAbs_dvd.mpr (h2 i hi);exact⟨λi hi=>Int.natAbs_dvd.mp (this.1 i hi),λi hi=>Int.natAbs_dvd.mp (this.2 i hi)⟩
 have key:Run (Qmh di dw) [slF (Qb n u),slF (Qb n v),slI L,none,none] λo=>match o with | .rt d fr=>∃(x:Mt1) (k:Nat),d=Qb n x/\(∀i,i<n->0<=x i/\x i<L)/\(∀i,i<n->L∣x i-(u i+k*v i))/\∀t,t∣L->(∀i,i<n->t∣x i)->(∀i,i<n->t∣u i)/\∀i,i<n->t∣v i | _=>False:=by
  refine rsa (Ql rfl ew rfl) ?_;refine run_seq (Qz (Qa3 rfl) ?_);refine Qbl (P:=λU=>∃(x:Mt1) (k:Nat) (b4:Bool),(∀i,i<n->0<=x i/\x i<L)/\(∀i,i<n->L∣x i-(u i+k*v i))/\(∀t,t∣L->(∀i,i<n->t∣x i)->(∀i,i<n->t∣u i)/\∀i,i<n->t∣v i)/\U=[slF (Qb n u),slF (Qb n v),slI L,slI w,some (Qb n x,b4)]) ?_ ?_
  ·refine QeT (λm U=>∃(x:Mt1) (k:Nat) (b4:Bool),k+m=T/\(∀i,i<n->0<=x i/\x i<L)/\(∀i,i<n->L∣x i-(u i+k*v i))/\U=[slF (Qb n u),slF (Qb n v),slI L,slI w,some (Qb n x,b4)]) ?_ T _ ⟨u,0,false,⋯,hu,λi hi=>by simp,rfl⟩;rintro m U ⟨x,k,b4,hk,hx,hd,rfl⟩;obtain⟨g,eg,g0,hg⟩:=hi 1 n (pairF x x) L (by decide);have hg:∀t,t∣g↔((∀i,i<n->t∣x i)/\t∣L):=λt=>by
    rw[hg t];refine⟨λh=>⟨λi hi=>h.1 0 i (by decide) hi,h.2⟩,λh=>⟨λi j hi hj=>?_,h.2⟩⟩
    match i,hi with
    | 0,_=>exact h.1 j hj
   have back:∀t,t∣L->((∀i,i<n->t∣x i)↔∀i,i<n->t∣u i+k*v i):=λt ht=>by
    constructor
    ·intro h i hi;have:=Zbs (h i hi) (Int.dvd_trans ht (hd i hi));rwa[Int.sub_sub_self]at this
    ·intro h i hi;have:=ZaK (Int.dvd_trans ht (hd i hi)) (h i hi);rwa[ZaG]at this
   obtain⟨r4,v4,d4⟩:∃r:HS.R,Qg 4 [slF (Qb n u),slF (Qb n v),slI L,slI w,some (Qb n x,b4)]=some r/\r.d=Qb n x:=by cases b4<;>exact⟨_,rfl,rfl⟩
   have ecall:Qh 2 di [] (Qa (Qad (Qa (Qg 4) Qe)) (Qa (Qg 2) Qe)) [slF (Qb n u),slF (Qb n v),slI L,slI w,some (Qb n x,b4)]=some (reI g):=Ql (r:=⟨[Qc 1 n (pairF x x),.int L],r4.fr && true && (true && true),r4.M++[]++([]++[])⟩) ((Qq (QoP (Qq v4 (QL _)) (show 1<=64 by decide)) (Qq rfl (QL _))).trans (by rw[d4];rfl)) eg rfl;refine⟨!decide (g=w),QH (Qcy ecall rfl rfl rfl) rfl,λh=>?_,λh=>?_⟩
   ·have e:g=w:=by simpa using h
    refine⟨x,k,b4,hx,hd,λt h1 h2=>?_,rfl⟩;have:=(hg t).mpr ⟨h2,h1⟩;rw[e,hwd t]at this;exact⟨this.1,this.2.1⟩
   ·have e:g≠w:=by simpa using h
    have hkT:k≠T:=λz=>e (Int.dvd_antisymm g0 w0 ((hwd g).mpr (by
     have h1:=(hg g).mp (Int.dvd_refl g);have h2:=(back g h1.2).mp h1.1;rw[z]at h2;have h3:=hT g h1.2 h2;exact⟨h3.1,h3.2,h1.2⟩)) ((hg w).mpr (by
     have h1:=(hwd w).mp (Int.dvd_refl w);exact⟨(back w h1.2.2).mpr λi hi=>ZaK (h1.1 i hi) (Int.dvd_mul_of_dvd_right (h1.2.1 i hi)),h1.2.2⟩)))
    refine run_seq (Qz (Ql (Qq (QA (List.range n) (QaG v4 d4 rfl rfl) rfl λi hi=>⟨[none,slI (x i),slI (v i)],rfl,reI (x i+v i),rfl,rfl,rfl⟩) (Qq rfl (QL _))) (hw n _ L hL) rfl) (Qt ?_));rw[Qae];refine⟨m-1,⋯,λi=>(x i+v i) % L,k+1,true,⋯,λi hi=>⟨ZA _ ⋯,Zz _ hL⟩,λi hi=>?_,rfl⟩;have h1:=hd i hi;have h2:L∣(x i+v i)-(x i+v i) % L:=Int.dvd_self_sub_emod;have:=Zbs h1 h2;rwa[show x i-(u i+(k:Int)*v i)-(x i+v i-(x i+v i) % L)=(x i+v i) % L-(u i+((k+1:Nat):Int)*v i) by rw[ZaJ,ZM];omega]at this
  ·rintro U ⟨x,k,b4,hx,hd,hc,rfl⟩;cases b4
   ·exact QC (Qbg rfl ⟨x,k,rfl,hx,hd,hc⟩)
   ·exact QC (Qbg rfl ⟨x,k,rfl,hx,hd,hc⟩)
 obtain⟨o,h1,h2⟩:=key;cases o with
 | rt d fr=>
  obtain⟨x,k,rfl,h⟩:=h2;exact⟨x,fr,k,by show Option.bind (Qmh di dw [slF (Qb n u),slF (Qb n v),slI L,none,none]) outD=_;rw[h1];rfl,h⟩
 | _=>exact h2.elim
noncomputable def Qfd(Qcn:Den)(QjI:Den):DS:=(Qd (Qo 2 (Qh 2 Qcn [] (Qa vv0 (Qa kk0 Qe)))) (Qd (QaV (Qei kk1 (dBf Q2 (Qa vv0 Qe))) (.nm 3) (Qd (Qo 2 (Qh 3 QjI [] (Qa vv2 (Qa (Qh 2 Qcn [] (Qa vv0 (Qa vv3 Qe))) (Qa vv1 Qe))))) Qm)) (Qd (QM vv2) Qm)))
structure Qrs (n m:Nat) (f:Mt2) (L:Int) (x cc:Mt1):Prop where
 bd:∀i,i<n->0<=x i/\x i<L
 mix:∀i,i<n->L∣x i-Qn n λj=>cc j*f i j
 cop:∀t,t∣L->(∀i,i<n->t∣x i)->∀i j,i<n->j<m->t∣f i j
def QoZ(d:Den):Prop:=∀(n:Nat) (f:Mt2) (L:Int),0<n->n<=8->0<L->(∀i j,i<n->j<n->0<=f i j/\f i j<L)->∃(x cc:Mt1) (fr:Bool),d [Qc n n f,.int L]=some (Qb n x,fr)/\Qrs n n f L x cc
theorem QxI(hl:Qgd dl)(hm:QmQ dm):QoZ (Qx 4 (Qfd dl dm)):=λn f L n0 n8 hL hf=>by
 have key:Run (Qfd dl dm) [slF (Qc n n f),slI L,none,none] λo=>match o with | .rt d fr=>∃(x cc:Mt1),d=Qb n x/\Qrs n n f L x cc | _=>False:=by
  refine rsa (Ql rfl (hl n n f 0 n0) rfl) ?_;refine QC (Qay (List.range (n-1)) (λk U=>∃(x cc:Mt1) (b2:Bool) (j3:Option (D×Bool)),Qrs n (k+1) f L x cc/\U=[slF (Qc n n f),slI L,some (Qb n x,b2),j3]) (QnZ rfl rfl (Qdz rfl rfl) rfl ⋯ ⋯ (by decide) (by decide)) rfl ⟨λi=>f i 0,λj=>if j=0 then 1 else 0,true,none,⟨λi hi=>hf i 0 hi n0,λi hi=>?_,λt h1 h2 i j hi hj=>?_⟩,rfl⟩ ?_ ?_)
  ·rw[QaP n0,ZQ,ZbB];exact Int.dvd_zero _
  ·rw[show j=0 by omega];exact h2 i hi
  ·rintro k k' U hk ⟨x,cc,b2,j3,I,rfl⟩;obtain⟨hkn,rfl⟩:=Qdx hk;refine⟨[slF (Qc n n f),slI L,some (Qb n x,b2),slI ((1:Int)+k)],rfl,?_⟩;obtain⟨y,fr,K,em,y1,y2,y3⟩:=hm n x (λi=>f i (k+1)) L hL I.bd;have eK:(1:Int)+k=((k+1:Nat):Int):= ⋯
   obtain⟨r2,v2,d2⟩:∃r:HS.R,Qg 2 [slF (Qc n n f),slI L,some (Qb n x,b2),slI ((1:Int)+k)]=some r/\r.d=Qb n x:=by cases b2<;>exact⟨_,rfl,rfl⟩
   have ecol:Qh 2 dl [] (Qa (Qg 0) (Qa (Qg 3) Qe)) [slF (Qc n n f),slI L,some (Qb n x,b2),slI ((1:Int)+k)]=some (reT (Qb n λi=>f i (k+1))):=Ql (r:=⟨[Qc n n f,.int ((k+1:Nat):Int)],false,[]⟩) (by rw[← eK];rfl) (hl n n f (k+1) ⋯) rfl;have ecl:=QhW (fs:=Qa (Qg 2) (Qa (Qh 2 dl [] (Qa (Qg 0) (Qa (Qg 3) Qe))) (Qa (Qg 1) Qe))) (r:=⟨[Qb n x,Qb n λi=>f i (k+1),.int L],r2.fr && (true && (true && true)),r2.M++([]++([]++[]))⟩) ((Qq v2 (Qq ecol (Qq rfl (QL _)))).trans (by rw[d2])) em rfl;refine run_seq (Qz ecl (Qt ?_));refine⟨y,λj=>cc j+(if j=k+1 then(K:Int)else 0),fr,slI ((1:Int)+k),⟨y1,λi hi=>?_,λt h1 h2 i j hi hj=>?_⟩,?_⟩
   ·have h1:=y2 i hi;have h2:=I.mix i hi;have:=ZaK h1 h2;rw[Qj λj _=>ZM _ _ _,Qam,QaP ⋯];rwa[show y i-(x i+(K:Int)*f i (k+1))+(x i-Qn n λj=>cc j*f i j)=y i-((Qn n λj=>cc j*f i j)+(K:Int)*f i (k+1)) by omega]at this
   ·obtain⟨h3,h4⟩:=y3 t h1 h2;by_cases e:j=k+1
    ·rw[e];exact h4 i hi
    ·exact I.cop t h1 h3 i j hi ⋯
   ·cases fr
    ·cases b2
     ·have:r2=(reF (Qb n x)):=by injection v2 with z;exact z.symm
      rw[this];rfl
     ·have:r2=⟨Qb n x,true,[2]⟩:=by injection v2 with z;exact z.symm
      rw[this];rfl
    ·rfl
  ·rintro U ⟨x,cc,b2,j3,I,rfl⟩;rw[Zu,show n-1+1=n by omega]at I;cases b2
   ·exact QC (Qbg rfl ⟨x,cc,rfl,I⟩)
   ·exact QC (Qbg rfl ⟨x,cc,rfl,I⟩)
 obtain⟨o,h1,h2⟩:=key;cases o with
 | rt d fr=>
  obtain⟨x,cc,rfl,h⟩:=h2;exact⟨x,cc,fr,by show Option.bind (Qfd dl dm [slF (Qc n n f),slI L,none,none]) outD=_;rw[h1];rfl,h⟩
 | _=>exact h2.elim
theorem Qp5(ha:fa U=some ra)(ea:ra.d=Qc n m f):QdX fa U=some ⟨(List.range n).map λ(i:Nat)=> .tup [.int i,Qb m (f i)],ra.M⟩:=by
 unfold QdX;rw[ha,Za,ea];have:Qdm ((List.range n).map λi=>Qb m (f i))=(List.range n).map λ(i:Nat)=>D.tup [.int i,Qb m (f i)]:=by
  unfold Qdm;refine List.ext_getElem (by simp) λi h1 h2=>?_;simp
 show some (IR.mk (Qdm ((List.range n).map λi=>Qb m (f i))) ra.M)=_;rw[this]
theorem Qv2{k:Nat}(hx:U[x]? =some (slT (Qc n N g)))(hi:fi U=some (reI k))(ha:fa U=some (reT (Qb N p)))(hk:k<n)
  (q:Q (.nx (U.set x (slT (Qc n N (λi j=>if i=k then p j else g i j)))))):Run (QbL x Qap fi fa) U Q:=by
 refine⟨_,?_,q⟩;unfold QbL;rw[ha,Za,hx];have hn:(HS.R.mk (Qb N p) true []).norm=(reT (Qb N p)):=by unfold R.norm Qb;rfl
 simp only[Qap,Za,hi,Qc,Qbh,Zn,Zu,hn];rw[Qby (show(0:Int)<=k by omega) ⋯];simp only[Za,ZP];rw[Qes hk];simp[kill,Qbk]
theorem QAq(hn:n<=8):bnd (2^240) n<2^1999:=by
 have h:∀k,k<9->bnd (2^240) k<2^1999:=by decide+kernel
 exact h n ⋯
theorem QbK.Qyj{n N k:Nat}{A m R:Mt2}{d:Int}(h:QbK n N k A m R d)(hn:n<=8)(hA:∀j,j<N->∀r,r<n->(A j r).natAbs<=2^240):d.natAbs<2^1999/\∀i j,i<n->j<N->(R i j).natAbs<2^1999:=by
 have b:=QAq hn;refine⟨?_,λi j hi hj=>?_⟩
 ·rw[← h.clr.det];exact ZT (QdC h.col) b
 ·rw[h.clr.ent i j hi hj];exact ZT (QdC (h.col.put (hA j hj))) b
noncomputable def Qn1(Qc7:Den)(QaL:Den):DS:=(Qd (Qo 1 (dBf Q2 (Qa vv0 Qe))) (Qd (Qo 2 (Qh 1 QaL [] (Qa (QF (QdX vv0) (.tp [1,2]) [none,none,none,some 1] QN (QE vv2 (Qh 2 Qc7 [] (Qa vv3 (Qa vv1 Qe))))) Qe))) (Qd (QM (QaO (Qa (QF (QX (Qr vv2 kk0)) (.nm 1) [none,none,some 1] QN (QbX vv1 (Qba vv2) Qa9)) (Qa (Qr vv2 kk1) Qe)))) Qm)))
def Ql6(d:Den):Prop:=∀(n:Nat) (f:Mt2),n<=8->(∀i j,i<n->j<n->(f i j).natAbs<=2^240)->(det n λj i=>f i j)≠0->∃P:Nat->Nat->Int,d [Qc n n f]=some (.tup [Qc n n P,.int (det n λj i=>f i j)],true)/\(∀i j,i<n->j<n->prodF n f P i j=(det n λj i=>f i j)*idF i j)/\(∀i j,i<n->j<n->(P i j).natAbs<2^1999)/\(det n λj i=>f i j).natAbs<2^1999
theorem QuR(hu:QlJ du)(hc:Qg0 dc):Ql6 (Qx 3 (Qn1 du dc)):=λn f n8 hf hd=>by
 obtain⟨A,hA⟩:∃A:Nat->Nat->Int,A=λj r=>if j<n then f r j else if j-n=r then 1 else 0:=⟨_,rfl⟩;have aLow:∀j r,j<n->A j r=f r j:=λj r hj=>by rw[hA];show(if j<n then _ else _)=_;rw[if_pos hj]
 have aUp:∀c r,A (n+c) r=idF c r:=λc r=>by rw[hA];show(if n+c<n then _ else if n+c-n=r then 1 else 0)=_;rw[if_neg ⋯,show n+c-n=c by omega];rfl
 have bA:∀j,j<n+n->∀r,r<n->(A j r).natAbs<=2^240:=λj hj r hr=>by
  by_cases z:j<n
  ·rw[aLow j r z];exact hf r j hr z
  ·rw[show j=n+(j-n) by omega,aUp];unfold idF;split<;>decide
 have dA:det n A=det n λj i=>f i j:=Q3 λj hj r _=>aLow j r hj;obtain⟨m,R,b,ec,C⟩:=hc n (n+n) A n8 ⋯ bA (by rw[dA];exact hd);obtain⟨sb,sR⟩:=C.Qyj n8 bA;have hb:b=det n λj i=>f i j:=by rw[← dA];exact C.clr.all
 subst hb;refine⟨λi j=>R i (n+j),QR ?_,λi j hi hj=>?_,λi j hi hj=>sR i (n+j) hi ⋯,sb⟩
 ·refine rsa (Qdz rfl rfl) ?_;have et:Qc n (n+n) (λi j=>A j i)= .lst ((List.range n).map λi=>Qb (n+n) λj=>if j<n then f i j else(λk=>if k=i then 1 else 0) (j-n)):=by
   unfold Qc;refine congrArg D.lst (ZD λi _=>Qc3 λj _=>?_);rw[hA]
  refine run_seq (Qz ((Qb1 (Qq (r:=reT (Qc n (n+n) λi j=>A j i)) ?_ (QL _)) ec rfl).trans rfl) ?_)
  ·rw[et];exact QA (List.range n) (Qp5 rfl rfl) rfl λi _=>⟨[none,slI i,slF (Qb n (f i)),slI n],rfl,reT (Qb (n+n) λj=>if j<n then f i j else(λk=>if k=i then 1 else 0) (j-n)),QfR (g:=λk=>if k=i then 1 else 0) rfl rfl (Ql rfl (hu n i ⋯) rfl) rfl ⋯,rfl,rfl⟩
  ·refine Qy (r:=reT (.tup [Qc n n λi j=>R i (n+j),.int (det n λj i=>f i j)])) ?_ ⟨rfl,rfl⟩
   have e1:QF (QX (Qr (Qg 2) (dC (.int 0)))) (.nm 1) [none,none,some 1] QN (QbX (Qg 1) (Qba (Qg 2)) Qa9) [slF (Qc n n f),slI n,slF (.tup [Qc n (n+n) R,.int (det n λj i=>f i j)])]=some (reT (Qc n n λi j=>R i (n+j))):=
    QA (List.range n) (QW rfl rfl) rfl λi _=>⟨[none,slF (Qb (n+n) (R i)),slI n],rfl,reT (Qb n λj=>R i (n+j)),(QkT rfl rfl rfl rfl ⋯).trans (by rw[show n+n-n=n by omega]),rfl,rfl⟩
   change QaO (Qa (QF (QX (Qr (Qg 2) (dC (.int 0)))) (.nm 1) [none,none,some 1] QN (QbX (Qg 1) (Qba (Qg 2)) Qa9)) (Qa (Qr (Qg 2) (dC (.int 1))) Qe)) [slF (Qc n n f),slI n,slF (.tup [Qc n (n+n) R,.int (det n λj i=>f i j)])]=_;unfold QaO;rw[Qq e1 (Qq rfl (QL _))];rfl
 ·have t:=C.clr.tell (j:=n+j) ⋯ hi;rw[aUp]at t;have e:idF j i=idF i j:=by
   unfold idF;by_cases z:i=j
   ·rw[if_pos z,if_pos z.symm]
   ·rw[if_neg z,if_neg (Ne.symm z)]
  rw[← e,t,QeD];exact Qj λl hl=>by rw[C.clr.own l hl,aLow l i hl,Zah]
theorem RT.start(hW:0<W)(hw:W∣w)(hA:∀i j,i<n->j<n->prodF n A P i j=w*idF i j):RT n n A P W 1 W idF idF P λ_=>1:=by
 have u:Qbq n idF idF:=λi j hi hj=>Qb0 _ _ hi;refine⟨Zi n,u,u,hW,ZQ W,λi j h1 h2=> ⋯,λi j hi hj=>?_,λi j hi hj=>?_,λ_ _=>rfl,λj h1 h2=> ⋯,λi j h1 h2=> ⋯,λi j h1 h2=> ⋯,λj h1 h2=> ⋯,λh=> ⋯⟩
 ·rw[Qaj (a':=A) (b':=P) (λk hk=>Qf8 A i hk) (λ_ _=>rfl),hA i j hi hj];exact Zaz hw
 ·rw[Qb0 P j hi,ZQ,ZbB];exact Int.dvd_zero _
noncomputable def Qef(QaQ:Den)(Qb2:Den)(Qdr:Den)(Qey:Den)(Qdl:Den)(Qdb:Den)(Qbv:Den):DS:=(Qd (Qo 2 (dBf Q2 (Qa vv0 Qe))) (Qd (Qo 3 (Qh 1 QaQ [] (Qa vv2 Qe))) (Qd (Qo 4 (Qh 1 QaQ [] (Qa vv2 Qe))) (Qd (Qo 5 (QZ (Qad (Qa kk1 Qe)) vv2)) (Qd (Qo 6 (QaB vv0)) (Qd (Qo 7 (dBf QpD (Qa vv1 Qe))) (Qd (QaV (Qfw (dOp Qax vv2 kk1) (Qh6 kk1) (Qh6 kk1)) (.nm 8) (Qd (Qo 9 (Qh 2 Qb2 [] (Qa vv6 (Qa vv7 Qe)))) (Qd (Qo 7 (dOp Qa4 vv7 vv9)) (Qd (sIf (QB (dOp gEq vv7 kk1)) (Qd Qr1 Qm) Qm) (Qd (Qo 6 (QF (QX vv6) (.nm 1) [none,none,some 7,some 9] QN (Qh 2 Qey [] (Qa (Qh 2 Qdr [] (Qa vv1 (Qa vv3 Qe))) (Qa vv2 Qe))))) (Qd (QbL 5 Qap vv8 vv7) (Qd (Qo 10 (Qh 2 Qdb [] (Qa (Qh 2 Qdl [] (Qa vv6 (Qa vv7 Qe))) (Qa vv8 Qe)))) (Qd (Qo 3 (Qh 2 Qbv [] (Qa vv3 (Qa (Qr Qnf kk1) Qe)))) (Qd (Qo 4 (Qh 2 Qbv [] (Qa (Qr Qnf kk0) (Qa vv4 Qe)))) (Qd (Qo 6 (Qh 2 Qbv [] (Qa (Qr Qnf kk0) (Qa vv6 Qe)))) (Qd (QbL 6 Qap vv8 (QZ (Qad (Qa kk0 Qe)) vv2)) Qm))))))))))) (Qd (QM (QaO (Qa vv3 (Qa vv4 (Qa vv5 Qe))))) Qm))))))))
def QaC(n k:Nat)(f:Mt2):Prop:=∀i j,i<n->j<n->(f i j).natAbs<=2^k
theorem QaC.bits(h:QaC n k f)(hk:k<2^20):Qse n f:=λi j hi hj=>Qka (k:=k+1) (by
 have:=h i j hi hj;have:(2:Nat)^k<2^(k+1):=Nat.pow_lt_pow_right (by decide) ⋯;omega) ⋯
theorem QaC.prod(hn:n<=8)(h1:QaC n k f)(h2:QaC n l g):QaC n (k+l+3) (prodF n f g):=λi j hi hj=>by
 have h:(prodF n f g i j).natAbs<=n*2^(k+l):=QkF λm hm=>by
  rw[Zao,Nat.pow_add];exact ZaY (h1 i m hi hm) (h2 m j hm hj)
 have h3:n*2^(k+l)<=8*2^(k+l):=Zbf _ hn;have h4:(2:Nat)^(k+l+3)=8*2^(k+l):=by rw[Nat.pow_add,ZaU]
 omega
theorem QaC.mono(h:QaC n k f)(hk:k<=l):QaC n l f:=λi j hi hj=>Zt (h i j hi hj) (Zq (by decide) hk)
theorem QaC.id(n k:Nat):QaC n k idF:=λi j _ _=>by
 have:0<(2:Nat)^k:=Nat.pow_pos (by decide);unfold idF;split
 ·show 1<=_;omega
 ·exact Zaa _
def Qmp(d:Den):Prop:=∀(n:Nat) (A P:Mt2) (w:Int),0<n->n<=8->w≠0->w.natAbs<2^1999->(∀i j,i<n->j<n->prodF n A P i j=w*idF i j)->∃(R Rb:Mt2) (len:Mt1),d [Qc n n P,.int w]=some (.tup [Qc n n R,Qc n n Rb,Qb n len],true)/\Qju n A P (w.natAbs:Int) R Rb len/\QaC n 130000 R/\QaC n 130000 Rb/\∀j,j<n->(len j).natAbs<2^1999
structure RTI (n k:Nat) (A P:Mt2) (W c L:Int) (R Rb S:Mt2) (len:Mt1):Prop where
 kn:k<=n
 rt:RT n (n-k) A P W c L R Rb S len
 bR:QaC n (16003*k) R
 bB:QaC n (16003*k) Rb
 Ll:L<2^1999
 ll:∀j,j<n->(len j).natAbs<2^1999
theorem QvM(hu:Qhi du)(hi:Qjn di)(hs:QhO ds)(hw:QhP dw)(hf:QoZ df)(hc:QmU dc)(hp:Qgu dp):Qmp (Qx 11 (Qef du di ds dw df dc dp)):=λn A P w n0 n8 w0 wl hA=>by
 obtain⟨W,hW⟩:∃W:Int,W=w.natAbs:=⟨_,rfl⟩;have W0:0<W:= ⋯
 have Ww:W∣w:=by rw[hW];exact Int.natAbs_dvd.mpr (Int.dvd_refl w)
 have Wl:W<2^1999:=by rw[hW];exact_mod_cast wl
 rw[← hW];have key:Run (Qef du di ds dw df dc dp) [slF (Qc n n P),slI w,none,none,none,none,none,none,none,none,none] λo=>match o with | .rt d fr=>fr=true/\∃(R Rb:Mt2) (len:Mt1),d= .tup [Qc n n R,Qc n n Rb,Qb n len]/\Qju n A P W R Rb len/\QaC n 130000 R/\QaC n 130000 Rb/\(∀j,j<n->(len j).natAbs<2^1999) | _=>False:=by
  refine rsa (Qdz rfl rfl) ?_;refine rsa (Ql rfl (hu n ⋯) rfl) ?_;refine rsa (Ql rfl (hu n ⋯) rfl) ?_;refine rsa (QeY rfl rfl ⋯) ?_;refine run_seq (Qz (Qa3 rfl) ?_);refine run_seq (Qz (r:=reI W) ?_ ?_)
  ·show some (HS.R.mk (.int (if w<0 then-w else w)) true [])=_;rw[hW,show(if w<0 then-w else w)=(w.natAbs:Int) by split<;>omega]
  rw[Qae];change Run _ [slF (Qc n n P),slI w,slI n,slT (Qc n n idF),slT (Qc n n idF),slT (Qb n λ_=>1),slF (Qc n n P),slI W,none,none,none] _;refine Qbl (P:=λU=>∃(R Rb:Mt2) (len:Mt1) (j6 j7 j8 j9 j10:Option (D×Bool)),Qju n A P W R Rb len/\QaC n 130000 R/\QaC n 130000 Rb/\(∀j,j<n->(len j).natAbs<2^1999)/\U=[slF (Qc n n P),slI w,slI n,slT (Qc n n R),slT (Qc n n Rb),slT (Qb n len),j6,j7,j8,j9,j10]) ?_ ?_
  ·refine Qay (List.range n) (λk U=>∃(R Rb S:Mt2) (len:Mt1) (c L:Int) (b6:Bool) (j8 j9 j10:Option (D×Bool)),RTI n k A P W c L R Rb S len/\U=[slF (Qc n n P),slI w,slI n,slT (Qc n n R),slT (Qc n n Rb),slT (Qb n len),some (Qc n n S,b6),slI L,j8,j9,j10]) (QnS (QcA rfl rfl rfl rfl) rfl rfl rfl rfl rfl ⋯) rfl ⟨idF,idF,P,λ_=>1,1,W,false,none,none,none,⟨⋯,by rw[Zci];exact RT.start W0 Ww hA,QaC.id n _,QaC.id n _,Wl,λj hj=>by show(1:Int).natAbs<2^1999;exact Zp (by decide) (Zq (by decide) (show 1<=1999 by decide))⟩,rfl⟩ ?_ ?_
   ·rintro k k' U hk ⟨R,Rb,S,len,c,L,b6,j8,j9,j10,I,rfl⟩;obtain⟨hkn,rfl⟩:=Qdx hk;obtain⟨last,hlast⟩:∃last,last=n-1-k:=⟨_,rfl⟩;have el:(n:Int)-1-k=(last:Int):= ⋯
    have ek:n-k=last+1:= ⋯
    have hln:last<n:= ⋯
    obtain⟨kn,rt,bR,bB,Ll,ll⟩:=I;rw[ek]at rt;refine⟨[slF (Qc n n P),slI w,slI n,slT (Qc n n R),slT (Qc n n Rb),slT (Qb n len),some (Qc n n S,b6),slI L,slI (last:Int),j9,j10],by rw[el];rfl,?_⟩;obtain⟨part,ep,p0,hpd⟩:=hi n n S L ⋯;have pp:=(hpd part).mp (Int.dvd_refl part);have L0:=rt.L0;obtain⟨L',eL⟩:=pp.2;have pz:part≠0:=λz=>by rw[z,ZF]at eL;omega
    have p1:0<part:= ⋯
    have pL:part.natAbs<2^2000:=by
     have h1:=Int.le_of_dvd L0 pp.2;have h2:(2:Int)^1999<2^2000:=by decide
     have h3:((part.natAbs:Nat):Int)<((2^2000:Nat):Int):=by rw[Int.natAbs_of_nonneg p0];push_cast;omega
     omega
    have L0':0<L':=by
     refine ZX λz=>?_;have:=ZaM (b:=L') ⋯ ⋯;omega
    have Ll':L'<2^1999:=by
     have:L'<=L:=by
      have:=Zai (show 1<=part by omega) (show 0<=L' by omega);omega
     omega
    have ll':L'.natAbs<2^1999:=by
     have h3:((L'.natAbs:Nat):Int)<((2^1999:Nat):Int):=by rw[Int.natAbs_of_nonneg ⋯];push_cast;omega
     omega
    obtain⟨r6,v6,d6⟩:∃r:HS.R,Qg 6 [slF (Qc n n P),slI w,slI n,slT (Qc n n R),slT (Qc n n Rb),slT (Qb n len),some (Qc n n S,b6),slI L,slI (last:Int),j9,j10]=some r/\r.d=Qc n n S:=by cases b6<;>exact⟨_,rfl,rfl⟩
    refine rsa (Ql (r:=⟨[Qc n n S,.int L],r6.fr && (true && true),r6.M++([]++[])⟩) ((Qq v6 (Qq rfl (QL _))).trans (by rw[d6])) ep rfl) ?_;refine rsa (QeA rfl rfl rfl rfl pz pL eL) ?_;change Run _ [slF (Qc n n P),slI w,slI n,slT (Qc n n R),slT (Qc n n Rb),slT (Qb n len),some (Qc n n S,b6),slI L',slI (last:Int),slI part,j10] _;have hS:=λi j (hi:i<n) (hj:j<n)=>pp.1 i j hi hj;refine QC (QU (QH (QaY rfl rfl rfl rfl) rfl) (λh=>?_) (λh=>Qt ?_))
    ·have h1:L'=1:=of_decide_eq_true h;have:L=part:=by rw[eL,h1,Zab]
     refine QC ⟨_,rfl,R,Rb,len,_,_,_,_,_,rt.stop λi j hi hj=>by rw[this];exact hS i j hi hj,bR.mono ⋯,bB.mono ⋯,ll,rfl⟩
    have hone:L'≠1:=of_decide_eq_false h;have hSq:∀i j,i<n->j<n->S i j=part*(S i j / part):=λi j hi hj=>(Int.mul_ediv_cancel' (hS i j hi hj)).symm;obtain⟨r6',v6',d6'⟩:∃r:HS.R,Qg 6 [slF (Qc n n P),slI w,slI n,slT (Qc n n R),slT (Qc n n Rb),slT (Qb n len),some (Qc n n S,b6),slI L',slI (last:Int),slI part,j10]=some r/\r.d=Qc n n S:=by cases b6<;>exact⟨_,rfl,rfl⟩
    refine rsa (QA (List.range n) (QW v6' d6') rfl λi hi=>⟨[none,slF (Qb n (S i)),slI L',slI part],rfl,reT (Qb n λj=>S i j / part % L'),Ql (Qq (Ql rfl (hs n (S i) (λj=>S i j / part) part pz pL λj hj=>hSq i j (Zf.mp hi) hj) rfl) (Qq rfl (QL _))) (hw n _ L' L0') rfl,rfl,rfl⟩) ?_;refine run_seq (QkD rfl rfl rfl rfl rfl ⋯ ⋯ ?_);rw[ZP];change Run _ [slF (Qc n n P),slI w,slI n,slT (Qc n n R),slT (Qc n n Rb),slT (Qb n (up len last L')),slT (Qc n n λi j=>S i j / part % L'),slI L',slI (last:Int),slI part,j10] _;have bS1:∀i j,i<n->j<n->0<=S i j / part % L'/\S i j / part % L'<L':=λi j _ _=>⟨ZA _ ⋯,Zz _ L0'⟩;obtain⟨x,cc,fr,ef,FI⟩:=hf n (λi j=>S i j / part % L') L' n0 n8 L0' bS1;obtain⟨T,B,g,ec,sp,bT,bBk⟩:=hc n last x hln n8 λi hi=>⟨(FI.bd i hi).1,by have:=(FI.bd i hi).2;omega⟩;have hz:∀i j,last<i->i<n->j<n->S i j / part % L'=0:=λi j h1 h2 h3=>by rw[rt.low i j ⋯ h2 h3];simp
    have rt':=rt.step p1 eL hSq (λi j _ _=>Int.dvd_self_sub_emod) hz (λt h1 h2=>by
     have a1:part*t∣part:=(hpd (part*t)).mpr ⟨λi j hi hj=>by rw[hSq i j hi hj];exact Int.mul_dvd_mul_left part (h2 i j hi hj),by rw[eL];exact Int.mul_dvd_mul_left part h1⟩;have a2:t∣1:=Int.dvd_of_mul_dvd_mul_left pz (by rw[Zab];exact a1);have:=Zae.mpr a2;exact Nat.eq_one_of_dvd_one this) FI.mix (λi h1 h2=>by
     have a1:=FI.mix i h2;rw[Qj λj hj=>by rw[hz i j h1 h2 hj,ZI],Qaw,Int.sub_zero]at a1;have a2:=FI.bd i h2;rw[← Zbd a2.1 a2.2];exact Int.emod_eq_zero_of_dvd a1) FI.cop sp
    have ecf:=QhW (fs:=Qa (Qg 6) (Qa (Qg 7) Qe)) (U:=[slF (Qc n n P),slI w,slI n,slT (Qc n n R),slT (Qc n n Rb),slT (Qb n (up len last L')),slT (Qc n n λi j=>S i j / part % L'),slI L',slI (last:Int),slI part,j10]) rfl ef rfl;have efree:∃r:HS.R,Qh 2 df [] (Qa (Qg 6) (Qa (Qg 7) Qe)) [slF (Qc n n P),slI w,slI n,slT (Qc n n R),slT (Qc n n Rb),slT (Qb n (up len last L')),slT (Qc n n λi j=>S i j / part % L'),slI L',slI (last:Int),slI part,j10]=some r/\r.d=Qb n x:=by
     cases fr
     ·exact⟨_,ecf,rfl⟩
     ·exact⟨_,ecf,rfl⟩
    obtain⟨rf,vf,dfx⟩:=efree;refine rsa (Ql (r:=⟨[Qb n x,.int last],rf.fr && (true && true),rf.M++([]++[])⟩) ((Qq vf (Qq rfl (QL _))).trans (by rw[dfx])) ec rfl) ?_;change Run _ [slF (Qc n n P),slI w,slI n,slT (Qc n n R),slT (Qc n n Rb),slT (Qb n (up len last L')),slT (Qc n n λi j=>S i j / part % L'),slI L',slI (last:Int),slI part,slT (.tup [Qc n n T,Qc n n B])] _;have BT:QaC n 16000 T:=bT;have BB:QaC n 16000 B:=bBk;have kk:16003*k+16000+3=16003*(k+1):= ⋯
    have B1:QaC n 1999 λi j=>S i j / part % L':=λi j hi hj=>by
     show(S i j / part % L').natAbs<=2^1999;have h3:(((S i j / part % L').natAbs:Nat):Int)<((2^1999:Nat):Int):=by rw[Int.natAbs_of_nonneg (bS1 i j hi hj).1];push_cast;have:=(bS1 i j hi hj).2;omega
     omega
    refine rsa (Ql rfl (hp n R B ⋯ (bR.bits ⋯) (BB.bits (by decide))) rfl) ?_;refine rsa (Ql rfl (hp n T Rb ⋯ (BT.bits (by decide)) (bB.bits ⋯)) rfl) ?_;refine rsa (Ql rfl (hp n T _ ⋯ (BT.bits (by decide)) (B1.bits (by decide))) rfl) ?_;change Run _ [slF (Qc n n P),slI w,slI n,slT (Qc n n (prodF n R B)),slT (Qc n n (prodF n T Rb)),slT (Qb n (up len last L')),slT (Qc n n (prodF n T λi j=>S i j / part % L')),slI L',slI (last:Int),slI part,slT (.tup [Qc n n T,Qc n n B])] _;refine run_seq (Qv2 rfl rfl (QeY rfl rfl ⋯) hln (Qt ?_));refine⟨_,_,_,up len last L',c*part,L',true,_,_,_,⟨⋯,?_,?_,?_,Ll',λj hj=>?_⟩,rfl⟩
    ·rw[show n-(k+1)=last by omega];exact rt'
    ·rw[← kk];exact bR.prod n8 BB
    ·rw[← kk,show 16003*k+16000+3=16000+16003*k+3 by omega];exact BT.prod n8 bB
    ·rw[Qcz];split
     ·exact ll'
     ·exact ll j hj
   ·rintro U ⟨R,Rb,S,len,c,L,b6,j8,j9,j10,I,rfl⟩;rw[Zu]at I;obtain⟨kn,rt,bR,bB,Ll,ll⟩:=I;rw[Nat.sub_self]at rt;exact⟨R,Rb,len,_,_,_,_,_,rt.done,bR.mono ⋯,bB.mono ⋯,ll,rfl⟩
  ·rintro U ⟨R,Rb,len,j6,j7,j8,j9,j10,rg,b1,b2,ll,rfl⟩;exact Qy rfl ⟨rfl,R,Rb,len,rfl,rg,b1,b2,ll⟩
 obtain⟨o,h1,h2⟩:=key;cases o with
 | rt d fr=>
  obtain⟨rfl,R,Rb,len,rfl,h⟩:=h2;exact⟨R,Rb,len,by show Option.bind (Qef du di ds dw df dc dp [slF (Qc n n P),slI w,none,none,none,none,none,none,none,none,none]) outD=_;rw[h1];rfl,h⟩
 | _=>exact h2.elim
theorem QwT{n:Nat}{m:Mt2}{y:Mt1}(hd:det n m≠0)(h:∀r,r<n->sm n (λl=>y l*m l r)=0):∀k,k<n->y k=0:=λk hk=>by
 have e1:det n (cup m k λr=>sm n λl=>y l*m l r)=y k*det n m:=by
  rw[QdD hk y m n,Qdf hk λi hi ne=>by rw[QeZ hi hk ne (by rw[QJ,QD _ _ ne]),ZI],Qal]
 have e2:det n (cup m k λr=>sm n λl=>y l*m l r)=0:=by
  rw[Q3 (k:=cup m k λr=>0*m k r) λj hj r hr=>by
   by_cases e:j=k
   ·subst e;rw[QJ,QJ,h r hr,ZF]
   ·rw[QD _ _ e,QD _ _ e],Qfv hk,ZF]
 rw[e2]at e1;rcases Int.mul_eq_zero.mp e1.symm with z | z
 ·exact z
 ·exact absurd z hd
theorem Quf{n:Nat}{A P:Mt2}{w:Int}(hd:(det n λj i=>A i j)≠0)(h:∀i j,i<n->j<n->prodF n A P i j=w*idF i j):∀i j,i<n->j<n->prodF n P A i j=w*idF i j:=λi j hi hj=>by
 have:=QwT hd (λr hr=>by
  rw[QeD];have e1:(Qn n λl=>(prodF n P A l j-w*idF l j)*A r l)=prodF n A (prodF n P A) r j-w*prodF n A idF r j:=by
   unfold prodF;rw[← QT,← QhV];exact Qj λl _=>by grind
  rw[e1,← Qas,Qaj (a':=λi j=>w*idF i j) (b':=A) (λk hk=>h r k hr hk) (λ_ _=>rfl),Qf8 _ _ hj];have e2:prodF n (λi j=>w*idF i j) A r j=w*prodF n idF A r j:=by
   unfold prodF;rw[← QT];exact Qj λl _=>ZE _ _ _
  rw[e2,Qb0 _ _ hr,ZbB]) i hi
 omega
structure QhJ (n:Nat) (f Lf R Lb Rb:Mt2) (len:Mt1):Prop where
 u1:Qbq n R Rb
 u2:Qbq n Rb R
 v1:Qbq n Lf Lb
 v2:Qbq n Lb Lf
 mid:∀i j,i<n->j<n->prodF n (prodF n Lf f) R i j=len i*idF i j
 pos:∀j,j<n->0<len j
 nxt:∀j,j+1<n->len j∣len (j+1)
theorem Qwa{n:Nat}{f P R Rb Lf Lb:Mt2}{w W:Int}{len:Mt1}(w0:w≠0)(hd:(det n λj i=>f i j)≠0)(hP:∀i j,i<n->j<n->prodF n f P i j=w*idF i j)(rg:Qju n f P W R Rb len)
  (hL:∀i j,i<n->j<n->len i*prodF n Rb P i j=w*Lf i j) (hB:∀i j,i<n->j<n->prodF n f R i j=len j*Lb i j):QhJ n f Lf R Lb Rb len:=by
 have hPA:=Quf hd hP;have key:∀i j,i<n->j<n->prodF n (prodF n Rb P) (prodF n f R) i j=w*idF i j:=λi j hi hj=>by
  rw[Qas,← Qas n P f R,Qaj (a':=Rb) (b':=λi j=>w*R i j) (λ_ _=>rfl) λk hk=>?_]
  ·have:prodF n Rb (λi j=>w*R i j) i j=w*prodF n Rb R i j:=by
    unfold prodF;rw[← QT];exact Qj λl _=>ZO _ _ _
   rw[this,rg.u2 i j hi hj]
  ·rw[Qaj (a':=λi j=>w*idF i j) (b':=R) (λl hl=>hPA k l hk hl) (λ_ _=>rfl)];have:prodF n (λi j=>w*idF i j) R k j=w*prodF n idF R k j:=by
    unfold prodF;rw[← QT];exact Qj λl _=>ZE _ _ _
   rw[this,Qb0 _ _ hk]
 have kL:∀i j,i<n->j<n->w*prodF n Lf (prodF n f R) i j=len i*(w*idF i j):=λi j hi hj=>by
  rw[← key i j hi hj];unfold prodF;rw[← QT,← QT];refine Qj λk hk=>?_;have:=hL i k hi hk;unfold prodF at this;rw[← ZE,← this,ZE]
 refine⟨rg.u1,rg.u2,λi j hi hj=>?_,λi j hi hj=>?_,λi j hi hj=>?_,rg.pos,rg.nxt⟩
 ·have h1:=kL i j hi hj;have h2:prodF n Lf (prodF n f R) i j=len j*prodF n Lf Lb i j:=by
   unfold prodF;rw[← QT];refine Qj λk hk=>?_;have:=hB k j hk hj;unfold prodF at this;rw[this,ZO]
  have lj:=rg.pos j hj;have h3:w*len j*prodF n Lf Lb i j=w*len j*idF i j:=by
   rw[ZE,← h2,h1];unfold idF;by_cases e:i=j
   ·subst e;rw[if_pos rfl];grind
   ·rw[if_neg e];grind
  exact Zaj (Int.mul_ne_zero w0 ⋯) h3
 ·have h1:w*prodF n Lb Lf i j=w*idF i j:=by
   rw[← hP i j hi hj];have e:prodF n f P i j=prodF n (prodF n f R) (prodF n Rb P) i j:=by
    have hk':∀k,k<n->prodF n (prodF n R Rb) P k j=P k j:=λk hk=>by
     rw[Qaj (a':=idF) (b':=P) (λl hl=>rg.u1 k l hk hl) (λ_ _=>rfl),Qb0 _ _ hk]
    rw[Qas,← Qas n R Rb P];exact Qaj (λ_ _=>rfl) λk hk=>(hk' k hk).symm
   rw[e];show w*Qn n (λk=>Lb i k*Lf k j)=Qn n λk=>prodF n f R i k*prodF n Rb P k j;rw[← QT];exact Qj λk hk=>by rw[hB i k hi hk,ZO,← hL k j hk hj];grind
  exact Zaj w0 h1
 ·rw[Qas];have h1:=kL i j hi hj;have:w*prodF n Lf (prodF n f R) i j=w*(len i*idF i j):=by rw[h1];exact ZO _ _ _
  exact Zaj w0 this
noncomputable def Qn2(Qdk:Den)(QcZ:Den)(QeN:Den)(QaQ:Den)(Qdr:Den)(Qbv:Den)(Qat:Den):DS:=(Qd (Qo 1 (Qh 1 Qdk [] (Qa vv0 Qe))) (Qd (Qo 2 (Qh 2 QcZ [] (Qa (Qr vv1 kk0) (Qa (Qr vv1 kk1) Qe)))) (Qd (Qo 3 (QaB (Qr vv2 kk0))) (Qd (Qo 4 (QaB (Qr vv2 kk1))) (Qd (Qo 5 (QaB (Qr vv2 kk2))) (Qd (Qo 6 (QF (Qaz (Qh 1 QaQ [] (Qa (dBf Q2 (Qa vv0 Qe)) Qe)) vv5) (.tp [1,2]) [none,none,none] QN (Qh 2 QeN [] (Qa vv1 (Qa vv2 Qe))))) (Qd (Qo 7 (QF (QX (Qh 2 Qbv [] (Qa vv6 (Qa (Qh 2 Qbv [] (Qa vv4 (Qa (Qr vv1 kk0) Qe))) Qe)))) (.nm 1) [none,none,some 1] QN (Qh 2 Qdr [] (Qa vv1 (Qa (Qr vv2 kk1) Qe))))) (Qd (Qo 8 (Qh 1 Qat [] (Qa (QF (Qaz (Qh 1 Qat [] (Qa (Qh 2 Qbv [] (Qa vv0 (Qa vv3 Qe))) Qe)) vv5) (.tp [1,2]) [none,none,none] QN (Qh 2 Qdr [] (Qa vv1 (Qa vv2 Qe)))) Qe))) (Qd (QM (QaO (Qa vv7 (Qa vv6 (Qa vv3 (Qa vv8 (Qa vv4 Qe))))))) Qm)))))))))
noncomputable def QaK(len:Mt1):Nat->Nat->Int:=λi j=>len i*idF i j
def Qjk(d:Den):Prop:=∀(n:Nat) (f:Mt2),0<n->n<=8->(∀i j,i<n->j<n->(f i j).natAbs<=2^240)->(det n λj i=>f i j)≠0->∃(Lf R Lb Rb:Mt2) (len:Mt1),d [Qc n n f]=some (.tup [Qc n n Lf,Qc n n (QaK len),Qc n n R,Qc n n Lb,Qc n n Rb],false)/\QhJ n f Lf R Lb Rb len/\QaC n 200000 Lf/\QaC n 130000 R/\QaC n 200000 Lb/\QaC n 130000 Rb/\∀j,j<n->(len j).natAbs<2^1999
theorem QuN(hb:Ql6 db)(hr:Qmp dr)(hn:Qnh dn)(hu:Qhi du)(hs:QhO ds)(hp:Qgu dp)(ht:QcJ dt):Qjk (Qx 9 (Qn2 db dr dn du ds dp dt)):=λn f n0 n8 hf hd=>by
 obtain⟨P,eb,hP,bP,wl⟩:=hb n f n8 hf hd;obtain⟨w,hw⟩:∃w,w=det n λj i=>f i j:=⟨_,rfl⟩;rw[← hw]at eb wl hd;have hP:∀i j,i<n->j<n->prodF n f P i j=w*idF i j:=λi j hi hj=>by rw[hP i j hi hj,← hw]
 obtain⟨R,Rb,len,er,rg,bR,bB,ll⟩:=hr n f P w n0 n8 hd wl hP;have wl':w.natAbs<2^2000:=Zch wl (Nat.pow_lt_pow_right (by decide) (by decide));have ll':∀j,j<n->(len j).natAbs<2^2000:=λj hj=>Zch (ll j hj) (Nat.pow_lt_pow_right (by decide) (by decide));obtain⟨Lf,hL⟩:∃Lf:Nat->Nat->Int,∀i j,i<n->j<n->len i*prodF n Rb P i j=w*Lf i j:=by
  refine⟨λi j=>len i*prodF n Rb P i j / w,λi j hi hj=>(Int.mul_ediv_cancel' ?_).symm⟩;exact Int.natAbs_dvd.mp (rg.row j i hj hi)
 obtain⟨Lb,hB⟩:∃Lb:Nat->Nat->Int,∀i j,i<n->j<n->prodF n f R i j=len j*Lb i j:=
  ⟨λi j=>prodF n f R i j / len j,λi j hi hj=>(Int.mul_ediv_cancel' (rg.col i j hi hj)).symm⟩
 have BP:QaC n 1999 P:=λi j hi hj=>Zbg (bP i j hi hj);have BQ:=bB.prod n8 BP;have Bf:QaC n 240 f:=hf;have BM:=Bf.prod n8 bR;have Bm:QaC n 1999 (QaK len):=λi j hi hj=>by
  unfold QaK idF;split
  ·rw[Zab];exact Zbg (ll i hi)
  ·rw[ZI];exact Zaa _
 have BmQ:=Bm.prod n8 BQ;have mQ:∀i j,i<n->j<n->prodF n (QaK len) (prodF n Rb P) i j=w*Lf i j:=λi j hi hj=>by
  rw[← hL i j hi hj];show(Qn n λk=>QaK len i k*prodF n Rb P k j)=_;rw[Qa6 hi λk hk ne=>by unfold QaK idF;rw[if_neg (Ne.symm ne),ZI,ZF]];unfold QaK idF;rw[if_pos rfl,Zab]
 have dvL:∀a b c:Int,a=b*c->b≠0->c.natAbs<=a.natAbs:=λa b c h hb=>by
  rw[h,Zao];exact Nat.le_mul_of_pos_left _ ⋯
 have BL:QaC n 200000 Lf:=λi j hi hj=>Zt (dvL _ _ _ (mQ i j hi hj) hd) (BmQ.mono (by decide) i j hi hj);have BLb:QaC n 200000 Lb:=λi j hi hj=>Zt (dvL _ _ _ (hB i j hi hj) (by have:=rg.pos j hj;omega)) (BM.mono (by decide) i j hi hj);refine⟨Lf,R,Lb,Rb,len,QR ?_,Qwa hd (by rw[← hw];exact hd) hP rg hL hB,BL,bR,BLb,bB,ll⟩;refine rsa (Ql rfl eb rfl) ?_;refine rsa (Ql rfl er rfl) ?_;refine run_seq (Qz (Qa3 rfl) ?_);refine run_seq (Qz (Qa3 rfl) ?_);refine run_seq (Qz (Qa3 rfl) ?_);change Run _ [slF (Qc n n f),slT (.tup [Qc n n P,.int w]),slF (.tup [Qc n n R,Qc n n Rb,Qb n len]),slF (Qc n n R),slF (Qc n n Rb),slF (Qb n len),none,none,none] _;refine rsa (QA (List.range n) (QaG (Ql (Qq (Qdz rfl rfl) (QL _)) (hu n ⋯) rfl) rfl rfl rfl) rfl λi hi=>⟨[none,slF (Qb n (idF i)),slI (len i)],rfl,reT (Qb n (QaK len i)),Ql rfl (hn n (idF i) (len i) (Qa7 (ll' i (Zf.mp hi))) λj _=>Qa7 (by unfold idF;split<;>exact Zp (by decide) (Zq (by decide) (show 1<=2000 by decide)))) rfl,rfl,rfl⟩) ?_;change Run _ [slF (Qc n n f),slT (.tup [Qc n n P,.int w]),slF (.tup [Qc n n R,Qc n n Rb,Qb n len]),slF (Qc n n R),slF (Qc n n Rb),slF (Qb n len),slT (Qc n n (QaK len)),none,none] _;have eQ:Qh 2 dp [] (Qa (Qg 4) (Qa (Qr (Qg 1) (dC (.int 0))) Qe)) [slF (Qc n n f),slT (.tup [Qc n n P,.int w]),slF (.tup [Qc n n R,Qc n n Rb,Qb n len]),slF (Qc n n R),slF (Qc n n Rb),slF (Qb n len),slT (Qc n n (QaK len)),none,none]=some (reT (Qc n n (prodF n Rb P))):=Ql rfl (hp n Rb P ⋯ (bB.bits (by decide)) (BP.bits (by decide))) rfl;have eMQ:Qh 2 dp [] (Qa (Qg 6) (Qa (Qh 2 dp [] (Qa (Qg 4) (Qa (Qr (Qg 1) (dC (.int 0))) Qe))) Qe)) [slF (Qc n n f),slT (.tup [Qc n n P,.int w]),slF (.tup [Qc n n R,Qc n n Rb,Qb n len]),slF (Qc n n R),slF (Qc n n Rb),slF (Qb n len),slT (Qc n n (QaK len)),none,none]=some (reT (Qc n n (prodF n (QaK len) (prodF n Rb P)))):=Ql (Qq rfl (Qq eQ (QL _))) (hp n _ _ ⋯ (Bm.bits (by decide)) (BQ.bits (by decide))) rfl;refine rsa (QA (List.range n) (QW eMQ rfl) rfl λi hi=>⟨[none,slF (Qb n (prodF n (QaK len) (prodF n Rb P) i)),slF (.tup [Qc n n P,.int w])],rfl,reT (Qb n (Lf i)),Ql rfl (hs n _ (Lf i) w hd wl' λj hj=>mQ i j (Zf.mp hi) hj) rfl,rfl,rfl⟩) ?_;change Run _ [slF (Qc n n f),slT (.tup [Qc n n P,.int w]),slF (.tup [Qc n n R,Qc n n Rb,Qb n len]),slF (Qc n n R),slF (Qc n n Rb),slF (Qb n len),slT (Qc n n (QaK len)),slT (Qc n n Lf),none] _;have eM:Qh 2 dp [] (Qa (Qg 0) (Qa (Qg 3) Qe)) [slF (Qc n n f),slT (.tup [Qc n n P,.int w]),slF (.tup [Qc n n R,Qc n n Rb,Qb n len]),slF (Qc n n R),slF (Qc n n Rb),slF (Qb n len),slT (Qc n n (QaK len)),slT (Qc n n Lf),none]=some (reT (Qc n n (prodF n f R))):=Ql rfl (hp n f R ⋯ (Bf.bits (by decide)) (bR.bits (by decide))) rfl;have eT:Qh 1 dt [] (Qa (Qh 2 dp [] (Qa (Qg 0) (Qa (Qg 3) Qe))) Qe) [slF (Qc n n f),slT (.tup [Qc n n P,.int w]),slF (.tup [Qc n n R,Qc n n Rb,Qb n len]),slF (Qc n n R),slF (Qc n n Rb),slF (Qb n len),slT (Qc n n (QaK len)),slT (Qc n n Lf),none]=some (reT (Qc n n (λj i=>prodF n f R i j))):=Ql (Qq eM (QL _)) (ht n _ ⋯) rfl;refine rsa (Ql (Qq (QA (List.range n) (QaG eT rfl rfl rfl) rfl λi hi=>⟨[none,slF (Qb n (λj=>prodF n f R j i)),slI (len i)],rfl,reT (Qb n λj=>Lb j i),Ql rfl (hs n _ (λj=>Lb j i) (len i) (by have:=rg.pos i (Zf.mp hi);omega) (ll' i (Zf.mp hi)) λj hj=>hB j i hj (Zf.mp hi)) rfl,rfl,rfl⟩) (QL _)) (ht n _ ⋯) rfl) ?_;exact Qy rfl ⟨rfl,rfl⟩
def Qkc(d:Den):Prop:=∀(N k:Nat) (a p q:Mt1) (b:Int),k<N->b≠0->b.natAbs<2^2000->(∀j,j<N->QaA (a j)/\QaA (p j))->(∀j,j<N->p k*a j-a k*p j=b*q j)->d [Qb N a,Qb N p,.int k,.int b]=some (Qb N q,true)
theorem Qs4:Qkc (Qx 4 Qqj):=λN k a p q b hk hb hb2 hs hq=>
 QR (Qy (QA (List.range N) (QaG rfl rfl rfl rfl) rfl λi hi=>⟨[none,slI (a i),slI (p i),slI k,slI b,slF (Qb N a),slF (Qb N p)],rfl,reI (q i),by
  have hi':=Zf.mp hi;refine QeA (QcA (Q5 (Q6 rfl rfl rfl rfl hk) rfl rfl rfl (QdG (hs k hk).2 (hs i hi').1)) rfl (Q5 (Q6 rfl rfl rfl rfl hk) rfl rfl rfl (QdG (hs k hk).1 (hs i hi').2)) rfl) rfl rfl rfl hb hb2 (hq i hi'),rfl,rfl⟩) ⟨rfl,rfl⟩)
theorem Qxx(hm:Qpv n m)(hi:i<n)(ha:∀r,r<n->(a r).natAbs<=B):(det n (cup m i a)).natAbs<=n*(B*bnd (2^240) n):=by
 have e:det n (cup m i a)=sm n λs=>a s*det n (cup m i (QG s)):=by
  rw[← QdD hi a QG n];refine Q3 λj hj r hr=>?_;by_cases q:j=i
  ·subst q;rw[QJ,QJ,Qdf hr λs _ ne=>by unfold QG;rw[if_neg ne,ZI]];unfold QG;rw[if_pos rfl,Zab]
  ·rw[QD _ _ q,QD _ _ q]
 rw[e,QeD];refine QkF λs hs=>?_;rw[Zao];exact ZaY (ha s hs) (QdC (hm.put λr _=>by unfold QG;split<;>decide))
theorem QbK.QsI{n N k:Nat}{A m R:Mt2}{d:Int}(h:QbK n N k A m R d)(hn:n<=8)(hA:∀j,j<n->∀r,r<n->(A j r).natAbs<=2^240)(hB:∀j,j<N->∀r,r<n->(A j r).natAbs<=2^200000):d.natAbs<2^2000/\∀i j,i<n->j<N->QaA (R i j):=by
 have b:=Qld hn;refine⟨by rw[← h.clr.det];exact ZT (QdC h.col) b,λi j hi hj=>?_⟩;rw[h.clr.ent i j hi hj];refine Qka (k:=202004) ?_ (by decide);refine ZT (Qxx h.col hi (hB j hj)) ?_;have h1:n*(2^200000*bnd (2^240) n)<=8*(2^200000*2^2000):=ZaY hn (Nat.mul_le_mul_left _ (Zbg b));refine ZT h1 ?_;rw[← Nat.pow_add,show(8:Nat)=2^3 from rfl,← Nat.pow_add];exact Nat.pow_lt_pow_right (by decide) (by decide)
theorem QbK.QBq{n N k:Nat}{A m R R':Mt2}{d:Int}(h:QbK n N k A m R d)(hk:k<n)(kN:k<N)(hA:∀j,j<n->∀r,r<n->(A j r).natAbs<=2^240)(hp:R k k≠0)(h1:∀j,j<N->R' k j=R k j)(h2:∀i j,i<n->i≠k->j<N->∀q,R k k*R i j-R i k*R k j=d*q->R' i j=q):QbK n N (k+1) A (cup m k (A k)) R' (R k k):=
 ⟨h.clr.step hk kN hp h1 h2,h.col.put (hA k hk)⟩
def Qfm(d:Den):Prop:=∀(n N:Nat) (A:Mt2),n<=8->n<=N->(∀j,j<n->∀r,r<n->(A j r).natAbs<=2^240)->(∀j,j<N->∀r,r<n->(A j r).natAbs<=2^200000)->∃R,d [Qc n N (λi j=>A j i)]=some (.tup [Qc n N R,.int (det n A)],false)/\(det n A≠0->∃m,QbK n N n A m R (det n A))
theorem Qqo(hp:Qki dp)(ht:Qkc dt):Qfm (Qx 5 (Qi4 dp dt)):=λn N A n8 hN hA hB=>by
 have key:Run (Qi4 dp dt) [slF (Qc n N (λi j=>A j i)),none,none,none,none] λo=>match o with | .rt d fr=>fr=false/\∃R,d= .tup [Qc n N R,.int (det n A)]/\(det n A≠0->∃m,QbK n N n A m R (det n A)) | _=>False:=by
  refine run_seq (Qz (Qa3 rfl) ?_);refine rsa rfl ?_;refine QC (Qay (List.range n) (λk U=>∃m R b j3 j4,QbK n N k A m R b/\U=[slF (Qc n N (λi j=>A j i)),slF (Qc n N R),slI b,j3,j4]) (QaR (Qdz rfl rfl) rfl ⋯) rfl ⟨_,_,_,none,none,QbK.start n N A,rfl⟩ ?_ ?_)
  ·rintro k k' U hk ⟨m0,R0,b,j3,j4,C0,rfl⟩;obtain⟨hkn,rfl⟩:=Qdx hk;have kN:k<N:= ⋯
   obtain⟨R,ep,hR⟩:=hp n N k R0 hkn ⋯ kN;have hC:∃m,QbK n N k A m R b/\(R k k=0->det n A=0):=by
    rcases hR with⟨rfl,hz⟩ | ⟨i,h1,h2,h3,rfl⟩
    ·exact⟨m0,C0,λz=>C0.clr.stuck hkn kN (hz z)⟩
    ·obtain⟨m',C'⟩:=C0.swap hkn h2 h1;refine⟨m',C',λz=>absurd z ?_⟩;unfold Qc4;rw[if_neg ⋯,if_pos rfl];exact h3
   obtain⟨m,C,hzero⟩:=hC;obtain⟨sb,sR⟩:=C.QsI n8 hA hB;refine⟨[slF (Qc n N (λi j=>A j i)),slF (Qc n N R0),slI b,slI k,j4],rfl,?_⟩;refine run_seq (Qz (r:=reF (Qc n N R)) ((Qb1 (r:=⟨[Qc n N R0,.int k],false,[]⟩) rfl ep rfl).trans rfl) ?_);refine run_seq (Qz ((Qa3 (Qc6 rfl rfl rfl rfl ⋯ ⋯)).trans rfl) ?_);refine QC (QU (QH (QaY (Q6 rfl rfl rfl rfl kN) rfl rfl rfl) rfl) (λh=>?_) (λh=>Qt ?_))
   ·have dz:=hzero (of_decide_eq_true h);refine QC (Qbg rfl ?_);exact⟨rfl,R,by rw[dz],λz=>absurd dz z⟩
   have pv:R k k≠0:=of_decide_eq_false h;have ex:∀i j,∃q,i<n->i≠k->j<N->R k k*R i j-R i k*R k j=b*q:=λi j=>by
    by_cases h:i<n/\i≠k/\j<N
    ·exact⟨_,λh1 h2 h3=>C.clr.exact hkn kN h1 h3 h2⟩
    ·exact⟨0,λh1 h2 h3=>absurd ⟨h1,h2,h3⟩ h⟩
   have zz:∀j,R k k*R k j-R k k*R k j=b*0:=λj=>by rw[ZbB,ZI]
   have eT:∀i,i<n->dt [Qb N (R i),Qb N (R k),.int k,.int b]=slT (Qb N (λj=>if i=k then 0 else(ex i j).choose)):=λi hi=>
    ht N k (R i) (R k) _ b kN C.clr.nz sb (λj hj=>⟨sR i j hi hj,sR k j hkn hj⟩) λj hj=>by
     by_cases e:i=k
     ·rw[if_pos e,e];exact zz j
     ·rw[if_neg e];exact(ex i j).choose_spec hi e hj
   refine rsa (QA (List.range n) (QW rfl rfl) rfl λi hi=>⟨[none,slF (Qb N (R i)),slI k,slI b,slF (Qb N (R k))],rfl,reT (Qb N (λj=>if i=k then 0 else(ex i j).choose)),Ql rfl (eT i (Zf.mp hi)) rfl,rfl,rfl⟩) ?_;refine run_seq (Qto rfl rfl rfl hkn ?_);refine run_seq (Qz ((Qa3 (Q6 rfl rfl rfl rfl kN)).trans rfl) (Qt ?_));rw[Qdn rfl];refine⟨_,_,_,_,_,C.QBq (R':=λi j=>if i=k then R k j else(λi j=>if i=k then 0 else(ex i j).choose) i j) hkn kN hA pv (λj _=>by show(if k=k then R k j else _)=_;rw[if_pos rfl]) (λi j hi ne hj q hq=>?_),rfl⟩;show(if i=k then R k j else if i=k then 0 else(ex i j).choose)=q;rw[if_neg ne,if_neg ne];exact Zaj C.clr.nz (((ex i j).choose_spec hi ne hj).symm.trans hq)
  ·rintro U ⟨m,R,b,j3,j4,C,rfl⟩;rw[Zu]at C;have hb:=C.clr.all;subst hb;exact Qy rfl ⟨rfl,R,rfl,λ_=>⟨m,C⟩⟩
 obtain⟨o,h1,h2⟩:=key;cases o with
 | rt d fr=>
  obtain⟨rfl,R,rfl,C⟩:=h2;exact⟨R,by show Option.bind (Qi4 dp dt [slF (Qc n N (λi j=>A j i)),none,none,none,none]) outD=_;rw[h1];rfl,C⟩
 | _=>exact h2.elim
def QgN(d:Den):Prop:=∀(n N:Nat) (A:Mt2),n<=8->n<=N->(∀j,j<n->∀r,r<n->(A j r).natAbs<=2^240)->(∀j,j<N->∀r,r<n->(A j r).natAbs<=2^200000)->det n A≠0->∃m R b,d [Qc n N (λi j=>A j i)]=some (.tup [Qc n N R,.int b],false)/\QbK n N n A m R b
theorem Qpf(hc:Qfm dc):QgN (Qx 2 (Qd7 dc)):=λn N A n8 hN hA hB hd=>by
 obtain⟨R,ec,hC⟩:=hc n N A n8 hN hA hB;obtain⟨m,C⟩:=hC hd;refine⟨m,R,det n A,QR ?_,C⟩;refine run_seq (Qz ((Qb1 (r:=⟨[Qc n N (λi j=>A j i)],false,[]⟩) rfl ec rfl).trans rfl) ?_);refine QC (QU (b:=false) (QH (QaY rfl rfl rfl rfl) (by simp[hd])) (λh=>by cases h) (λ_=>Qt ?_));exact Qy rfl ⟨rfl,rfl⟩
def Qjc(d:Den):Prop:=∀(n:Nat) (f:Mt2) (row:Mt1),n<=8->(∀j r,j<n->r<n->(f j r).natAbs<=2^240)->(∀r,r<n->(row r).natAbs<=2^200000)->det n f≠0->∃tops q,d [Qc n n f,Qb n row]=some (.tup [Qb n tops,.int q],true)/\0<q/\q.natAbs<2^2000/\(∀r,r<n->q*row r=sm n λl=>tops l*f l r)/\((∀r,r<n->(row r).natAbs<=2^240)->∀l,l<n->(tops l).natAbs<2^2000)/\(∀t,t∣q->(∀l,l<n->t∣tops l)->t.natAbs=1)
theorem QrW(ht:QcJ dt)(hc:QgN dc)(hl:Qgd dl)(hm:QhQ dm):Qjc (Qx 6 (QpN dt dc dl dm)):=λn f row n8 hf hr hL=>by
 have hA:∀j,j<n->∀r,r<n->((λj r=>if j=n then row r else f j r) j r).natAbs<=2^240:=λj hj r hr'=>by
  show(if j=n then row r else f j r).natAbs<=_;rw[if_neg ⋯];exact hf j r hj hr'
 have hB:∀j,j<n+1->∀r,r<n->((λj r=>if j=n then row r else f j r) j r).natAbs<=2^200000:=λj hj r hr'=>by
  show(if j=n then row r else f j r).natAbs<=_;split
  ·exact hr r hr'
  ·exact Zt (hf j r ⋯ hr') (Zq (by decide) (by decide))
 have hL':det n (λj r=>if j=n then row r else f j r)≠0:=by
  rw[Q3 (k:=f) λj hj r _=>by rw[if_neg ⋯]];exact hL
 obtain⟨m,R,b,ec,C⟩:=hc n (n+1) _ n8 ⋯ hA hB hL';obtain⟨sb,sR⟩:=C.QsI n8 hA hB;obtain⟨g,eg,g0,hg⟩:=hm ((List.range (n+1)).map (up (λi=>R i n) n b));have gb:g∣b:=(hg g).mp ⟨1,⋯⟩ b (ZL.mpr ⟨n,Zf.mpr ⋯,by rw[Qcz,if_pos rfl]⟩);have gR:∀i,i<n->g∣R i n:=λi hi=>(hg g).mp ⟨1,⋯⟩ _ (ZL.mpr ⟨i,Zf.mpr ⋯,by rw[Qcz,if_neg ⋯]⟩);have bz:=C.clr.nz;have gz:g≠0:=λz=>by rw[z]at gb;obtain⟨x,hx⟩:=gb;rw[ZF]at hx;exact bz hx
 obtain⟨p,hp⟩:∃p,p=if b<0 then 0-g else g:=⟨_,rfl⟩;have pz:p≠0:=by rw[hp];split<;>omega
 have pd:∀x,g∣x->∃y,x=p*y:=λx Z=>by
  obtain⟨y,hy⟩:=Z;rw[hp];split
  ·exact⟨-y,by rw[hy,Zag,Int.neg_mul_neg]⟩
  ·exact⟨y,hy⟩
 obtain⟨q,hq⟩:=pd b gb;have tp:∀i,∃y,i<n->R i n=p*y:=λi=>by
  by_cases h:i<n
  ·obtain⟨y,hy⟩:=pd _ (gR i h);exact⟨y,λ_=>hy⟩
  ·exact⟨0,λh'=>absurd h' h⟩
 have gle:g.natAbs<=b.natAbs:=Zae.mpr gb |> λh=>Zbn ⋯ h;have ple:p.natAbs<2^2000:=by rw[hp];split<;>omega
 have q0:0<q:=by
  by_cases h:b<0
  ·rw[if_pos h]at hp;refine ZX λz=>?_;have:=Int.mul_nonneg_of_nonpos_of_nonpos (a:=p) (b:=q) ⋯ ⋯;omega
  ·rw[if_neg h]at hp;refine ZX λz=>?_;have:=ZaM (a:=p) (b:=q) ⋯ ⋯;omega
 have qle:q.natAbs<2^2000:=by
  have:q∣b:=⟨p,by rw[hq,Zah]⟩;have:=Zbn ⋯ (Zae.mpr this);omega
 have low:∀t,t∣q->(∀l,l<n->t∣(tp l).choose)->t.natAbs=1:=λt tq all=>by
  have bg:p*t∣g:=(hg (p*t)).mpr λx hx=>by
   obtain⟨i,hi,rfl⟩:=ZL.mp hx;rw[Qcz];split
   ·obtain⟨y,hy⟩:=tq;exact⟨y,by rw[hq,hy,ZE]⟩
   ·rename_i z;have hi':i<n:=by have:=Zf.mp hi;omega
    obtain⟨y,hy⟩:=all i hi';exact⟨y,by rw[(tp i).choose_spec hi',hy,ZE]⟩
  have pg:p.natAbs=g.natAbs:=by rw[hp];split<;>omega
  have h1:=Zbn ⋯ (Zae.mpr bg);rw[Zao,pg]at h1;have t0:t≠0:=λz=>by
   obtain⟨y,hy⟩:=tq;rw[z,ZF]at hy;omega
  have h2:t.natAbs<2:=by
   refine ZX λh=>?_;have h3:=Nat.mul_le_mul_left g.natAbs (show 2<=t.natAbs by omega);omega
  omega
 have tops_small:(∀r,r<n->(row r).natAbs<=2^240)->∀l,l<n->((tp l).choose).natAbs<2^2000:=λhr2 l hl=>by
  have h:=(tp l).choose_spec hl;have:=(C.small n8 λj hj r hr'=>by
   show(if j=n then row r else f j r).natAbs<=_;split
   ·exact hr2 r hr'
   ·exact hf j r ⋯ hr').2 l n hl ⋯
  by_cases z:(tp l).choose=0
  ·rw[z];exact ZT (Zaa _) this
  ·have d:(tp l).choose∣R l n:=⟨p,by rw[Zah];exact h⟩;have nz:R l n≠0:=by rw[h];exact Int.mul_ne_zero pz z
   have:=Zbn ⋯ (Zae.mpr d);omega
 refine⟨λi=>(tp i).choose,q,QR ?_,q0,qle,λr hr'=>?_,tops_small,low⟩
 ·refine rsa (Qdz (n:=n) rfl rfl) ?_;refine QC (QU (QH (r:=reT (.bl false)) ((Qcy ((Qcx rfl rfl).trans (by rw[Zn,Zu])) rfl rfl rfl).trans (by simp)) rfl) (λh=>by cases h) (λ_=>Qt ?_));have et:=ht n f ⋯;have eZ:QF (Qaz (Qh 1 dt [] (Qa (Qg 0) Qe)) (Qg 1)) (.tp [1,2]) [none,none,none] QN (QE (Qg 1) (Qad (Qa (Qg 2) Qe))) [slF (Qc n n f),slF (Qb n row),slI n,none,none,none]=some (reT (Qc n (n+1) (λi j=>(λj r=>if j=n then row r else f j r) j i))):=by
   refine(QA (List.range n) (QaG (Ql (r:=⟨[Qc n n f],false,[]⟩) rfl et rfl) rfl rfl rfl) rfl λi hi=>⟨[none,slF (Qb n (λj=>f j i)),slI (row i)],rfl,reT (Qb (n+1) (up (λj=>f j i) n (row i))),QfJ rfl rfl rfl ⋯,rfl,rfl⟩).trans ?_;have eT:Qc n (n+1) (λi j=>(λj r=>if j=n then row r else f j r) j i)= .lst ((List.range n).map λi=>Qb (n+1) (up (λj=>f j i) n (row i))):=by
    unfold Qc;refine congrArg D.lst (ZD λi _=>?_);unfold Qb;exact congrArg D.lst (ZD λj _=>by rw[Qcz])
   rw[eT]
  refine run_seq (Qz ((Qb1 (Qq eZ (QL _)) ec rfl).trans rfl) ?_);refine rsa (Ql rfl (hl n (n+1) R n ⋯) rfl) ?_;refine rsa (Ql (Qq (QfJ rfl rfl rfl ⋯) (QL _)) (by show dm [Qb (n+1) (up (λi=>R i n) n b)]=_;rw[Qf5];exact eg) rfl) ?_;refine Qbl (P:=λU=>U=[slF (Qc n n f),slF (Qb n row),slI n,slF (.tup [Qc n (n+1) R,.int b]),slT (Qb n (λi=>R i n)),slI p]) ?_ ?_
  ·refine QU (QH (Qag rfl rfl rfl) rfl) (λh=>?_) (λh=>?_)
   ·refine run_seq (Qz rfl (Qt ?_));rw[Qae,hp,if_pos (of_decide_eq_true h)];rfl
   ·refine Qt ?_;rw[hp,if_neg (of_decide_eq_false h)];rfl
  ·rintro U rfl;refine Qy (r:=reT (.tup [Qb n λi=>(tp i).choose,.int q])) ?_ ⟨rfl,rfl⟩;unfold QaO;refine(congrArg (λz=>Option.bind z _) (Qq (QA (List.range n) (QW rfl rfl) rfl λi hi=>⟨[none,slI (R i n),slI p],rfl,reT (.int (tp i).choose),QeA rfl rfl rfl rfl pz ple ((tp i).choose_spec (Zf.mp hi)),rfl,rfl⟩) (Qq (QeA rfl rfl rfl rfl pz ple hq) (QL _)))).trans ?_;rfl
 ·have t:=C.clr.tell (j:=n) ⋯ hr';have t:b*row r=sm n λl=>R l n*m l r:=by
   have e:(if n=n then row r else f n r)=row r:=if_pos rfl;rw[← e];exact t
  rw[Qbn (g:=λl=>((tp l).choose*f l r)*p) λl hl=>by
   rw[C.clr.own l hl];show R l n*(if l=n then row r else f l r)=_;rw[if_neg ⋯,Zah _ p,← ZE,← (tp l).choose_spec hl],Qnk,hq]at t
  refine Zaj pz ?_;rw[← ZE,t,Zah]
def QmZ(d:Den):Prop:=∀(m:Nat) (R L:Lpp) (f:Mt1),m<=8->Qbi m R L->(∀j,j<m->(f j).natAbs<=2^200000)->∃c,d [QI m R L,Qb m f]=some (Qb m c,true)/\∀r,r<m-> -(2^67)<=Qi m (Qs m (Qp R L)) f c r/\Qi m (Qs m (Qp R L)) f c r<=2^67
theorem Qwf(ht:Qie dt)(hs:Qjc ds):QmZ (Qx 3 (Qn9 dt ds)):=λm R L f m8 hw hf=>by
 have hg:=hw.good;have tp:=hw.tp;have et:=ht m R L ⋯ ⋯ hg.1 hg.2.1;generalize Qs m (Qp R L)=T at *;obtain⟨tops,q,es,q0,q1,hq,_⟩:=hs m (λi j=>0-T i j) f m8 (λj r hj hr=>by have:=tp.bnd j r hj hr;have:(2:Nat)^64<=2^240:=Zq (by decide) (by decide);omega) hf (Qqz (λj hj r hr=>by have:=tp.bnd j r hj hr;have:(2:Nat)^64<=2^200:=Zq (by decide) (by decide);omega) (Qmw tp));refine⟨λl=>tops l / q,QR ?_,Qth m8 tp.bnd q0 hq⟩;refine rsa (Ql (Qq (Ql rfl et rfl) (Qq rfl (QL _))) es rfl) ?_;refine Qy (QA (List.range m) (QW rfl rfl) rfl λi _=>⟨[none,slI (tops i),slF (.tup [Qb m tops,.int q])],rfl,reI (tops i / q),Qm7 rfl rfl rfl rfl q0 q1,rfl,rfl⟩) ⟨rfl,rfl⟩
def Qh8(d:Den):Prop:=∀(m:Nat) (R L:Lpp) (f:Mt1),0<m->m<=8->Qbi m R L->(∀j,j<m->(f j).natAbs<=2^200000)->∃k v,d [QI m R L,Qb m f]=some (.tup [Qb m (Qi m (Qs m (Qp R L)) f k),Qb m k],true)/\Dbl m (Qs m (Qp R L)) v/\Rec m (Qs m (Qp R L)) v (Qi m (Qs m (Qp R L)) f k)/\Stb m (Qs m (Qp R L)) (Qi m (Qs m (Qp R L)) f k)/\∀j,j<m->0<=Qi m (Qs m (Qp R L)) f k j
set_option maxHeartbeats 0 in
theorem Qtn(hn:Qhx dn)(hc:QmZ dc)(ha:Qm1 da)(hd:Qi5 dd)(hs:Ql1 ds):Qh8 (Qx 10 (QxR dn dc da dd ds)):=λm R L f m0 m8 hw hf=>by
 have hg:=hw.good;have tp:=hw.tp;obtain⟨c,ec,bc⟩:=hc m R L f m8 hw hf;have ea:=ha m R L f c ⋯ ⋯ hg.1 hg.2.1;have ed:=hd m R L ⋯ ⋯ hg.1 hg.2.1;have sp:∀j,j<m->Qct R L j=0-Qs m (Qp R L) j j:=λj hj=>(hw.neg hj).symm;rw[show(Qb m λi=>2*Qct R L i)=Qb m λi=>2*(0-Qs m (Qp R L) i i)from congrArg D.lst (ZD λi hi=>by show D.int (2*Qct R L i)=D.int (2*(0-Qs m (Qp R L) i i));rw[sp i (Zf.mp hi)])]at ed;obtain⟨v,ev,hv⟩:=hs m R L (λi=>2*(0-Qs m (Qp R L) i i)) m0 ⋯ hw λj hj=>by
  have:=tp.neg j hj;have:=tp.bnd j j hj hj;have:(2:Int)^66<=2^200:=by decide
  omega
 have DD:Dbl m (Qs m (Qp R L)) v:=⟨hv⟩;have still:=hs m R L;generalize Qs m (Qp R L)=T at *;generalize hlow:Qi m T f c=low at *;have big:=λj hj=>DD.big (j:=j) hj;have hmo:∀j,j<m->2*(0-T j j)-Qi m T (λi=>2*(0-T i i)) v j=QO m T v j:=λj hj=>rfl;generalize hmore:QO m T v=mo at *;have vb:∀l,l<m->(v l).natAbs<2^2000:=Qpd (N:=m) m8 (g:=mo) (λj hj r hr=>by have:=tp.bnd j r hj hr;have:(2:Nat)^64<=2^200:=Zq (by decide) (by decide);omega) (Qmw tp) (λr hr=>by
  have b:=big r hr;have:=tp.neg r hr;have:=tp.bnd r r hr hr;have:(2:Nat)^66<=2^200:=Zq (by decide) (by decide);omega) λr hr=>by
  rw[← hmore,Qgn,QeD,← QcO];exact Qj λi _=>by rw[Zag,ZaD]
 obtain⟨top,⟨i0,hi0,etop⟩,hmax,evmax⟩:=Qri (m:=1+m) ⋯ (λi=>if i<1 then 0 else 0-low (i-1) / mo (i-1));have top0:0<=top:=by have:=hmax 0 ⋯;rw[if_pos ⋯]at this;exact this
 have topj:∀j,j<m->0-low j / mo j<=top:=λj hj=>by
  have:=hmax (j+1) ⋯;rw[if_neg ⋯,Zbq]at this;exact this
 have mo0:∀j,j<m->0<mo j:=λj hj=>by have:=big j hj;have:=tp.neg j hj;omega
 have mo1:∀j,j<m->mo j<2^66:=λj hj=>by have:=big j hj;have:=tp.bnd j j hj hj;omega
 have topU:top<=2^67:=by
  rw[etop];split
  ·decide
  ·rename_i h;have hj:i0-1<m:= ⋯
   have b:=bc (i0-1) hj;have p:=mo0 (i0-1) hj;have: -(2^67)<=low (i0-1) / mo (i0-1):=by
    rw[Int.le_ediv_iff_mul_le p];have:=ZU (show(1:Int)<=mo (i0-1) by omega) (show(0:Int)<=2^67 by decide);rw[Zad];omega
   omega
 have y0:∀j,j<m->0<=low j+top*mo j:=λj hj=>by
  have h1:=Zai (topj j hj) (show 0<=mo j from Int.le_of_lt (mo0 j hj));have h2:=ZaN (low j) (mo j);have h3:=ZA (low j) (by have:=mo0 j hj;omega:mo j≠0);rw[Zag,Zad,Zah (low j / mo j)]at h1;omega
 have hi:∀j,j<m->0<=low j+(top+1)*mo j/\low j+(top+1)*mo j<2^200:=λj hj=>by
  have h1:=y0 j hj;have h2:=mo0 j hj;have h3:=mo1 j hj;have h4:=Int.mul_le_mul (show top+1<=2^67+1 by omega) (show mo j<=2^66 by omega) ⋯ (by decide);have h5:(2:Int)^67+(2^67+1)*2^66<2^200:=by decide
  have h6:=(bc j hj).2;rw[ZM,ZQ]at h4 ⊢;omega
 obtain⟨u,eu,hu⟩:=still (λj=>low j+(top+1)*mo j) m0 ⋯ hw hi;have key:∀j,Qi m T (λj=>low j+(top+1)*mo j) u j=Qi m T f (λi=>c i-(top+1)*v i+u i) j:=λj=>by
  rw[← hlow,← hmore];unfold Qi;show f j+Qn m (λi=>c i*T i j)+(top+1)*QO m T v j+Qn m (λi=>u i*T i j)=f j+Qn m λi=>(c i-(top+1)*v i+u i)*T i j;rw[Qgn,ZaD,← QT];have:(λi=>(c i-(top+1)*v i+u i)*T i j)=λi=>(c i*T i j+ -((top+1)*(v i*T i j)))+u i*T i j:=by
   funext i;rw[ZM,Int.sub_mul,ZE];omega
  rw[this,Qam,Qam,QcO];omega
 have row:Qb m (Qi m T (λj=>low j+(top+1)*mo j) u)=Qb m (Qi m T f (λi=>c i-(top+1)*v i+u i)):=congrArg D.lst (ZD λj _=>by rw[key j]);refine⟨λi=>c i-(top+1)*v i+u i,v,QR ?_,DD,⟨λj=>low j+top*mo j,u,y0,?_,λj _=>?_⟩,λj hj=>?_,λj hj=>?_⟩
 ·refine run_seq (QeC (Ql rfl (hn m R L [f]) rfl) ?_);refine rsa (Ql rfl ec rfl) ?_;refine rsa (Ql rfl ea rfl) ?_;refine rsa (Ql (Qq rfl (Qq (Ql rfl ed rfl) (QL _))) ev rfl) ?_;refine rsa (d:=Qb m mo) (QA (List.range m) (QaG (Ql rfl ed rfl) rfl rfl rfl) rfl λj hj=>⟨[none,slI (2*(0-T j j)),slI (Qi m T (λi=>2*(0-T i i)) v j)],rfl,reI (2*(0-T j j)-Qi m T (λi=>2*(0-T i i)) v j),rfl,by rw[← hmo j (Zf.mp hj)],rfl⟩) ?_;refine rsa (QY (evmax (QfR rfl rfl (QA (List.range m) (QaG rfl rfl rfl rfl) rfl λj hj=>⟨[none,slI (low j),slI (mo j)],rfl,reI (0-low j / mo j),QcA rfl rfl (Qm7 rfl rfl rfl rfl (mo0 j (Zf.mp hj)) (by have:=mo0 j (Zf.mp hj);have:=mo1 j (Zf.mp hj);have:(2:Nat)^66<=2^2000:=Zq (by decide) (by decide);omega)) rfl,rfl,rfl⟩) rfl ⋯) rfl) rfl rfl rfl) ?_;refine rsa (QA (List.range m) (QaG rfl rfl rfl rfl) rfl λj hj=>⟨[none,slI (low j),slI (mo j),slI (top+1)],rfl,reI (low j+(top+1)*mo j),QY rfl rfl (Q5 rfl rfl rfl rfl (QdG (Qa7 (by have:(2:Nat)^68<=2^2000:=Zq (by decide) (by decide);omega)) (Qa7 (by have:=mo0 j (Zf.mp hj);have:=mo1 j (Zf.mp hj);have:(2:Nat)^66<=2^2000:=Zq (by decide) (by decide);omega)))) rfl,rfl,rfl⟩) ?_;refine rsa (Ql rfl eu rfl) ?_;refine run_seq (Qz (QA (List.range m) (QkC rfl rfl rfl rfl rfl rfl) rfl λi hi=>⟨[none,slI (c i),slI (v i),slI (u i),slI (top+1)],rfl,reI (c i-(top+1)*v i+u i),QY (QcA rfl rfl (Q5 rfl rfl rfl rfl ?_) rfl) rfl rfl rfl,rfl,rfl⟩) ?_)
  rotate_left
  ·rw[Qae];refine Qy (r:=⟨.tup [Qb m (Qi m T (λj=>low j+(top+1)*mo j) u),Qb m λi=>c i-(top+1)*v i+u i],true,[8,9]⟩) rfl ⟨by rw[row],rfl⟩
  ·exact QdG (Qa7 (by have:(2:Nat)^68<=2^2000:=Zq (by decide) (by decide);omega)) (Qa7 (vb i (Zf.mp hi)))
 ·refine⟨hu.leg.Qof λj hj=>?_,λj hj=>?_,λj hj=>?_⟩
  ·show _=low j+top*mo j+QO m T v j;rw[hmore,ZM,ZQ];omega
  ·have:=hu.pos j hj;rw[QaT (g:=λj=>low j+top*mo j+QO m T v j) j (by show _=low j+top*mo j+QO m T v j;rw[hmore,ZM,ZQ];omega) λi _=>rfl]at this;exact this
  ·have:=hu.stb j hj;rw[QaT (g:=λj=>low j+top*mo j+QO m T v j) j (by show _=low j+top*mo j+QO m T v j;rw[hmore,ZM,ZQ];omega) λi _=>rfl]at this;exact this
 ·rw[← key j];exact QaT j (by show _=low j+top*mo j+QO m T v j;rw[hmore,ZM,ZQ];omega) λi _=>rfl
 ·rw[← key j];exact hu.stb j hj
 ·rw[← key j];exact hu.pos j hj
theorem QBp.small(h:Qh8 d):QlZ d:=λm R L f m0 m8 hw hf=>h m R L f m0 m8 hw λj hj=>Zt (hf j hj) (Zq (by decide) (by decide))
theorem QuY.g(h:Qfm d):Qh9 d:=λn N A n8 hN hA=>h n N A n8 hN (λj hj=>hA j ⋯) λj hj r hr=>Zt (hA j hj r hr) (Zq (by decide) (by decide))
structure QaS (m n0:Nat) (T Lf Rt Lb Rb:Mt2) (len:Mt1):Prop where
 le:n0<=m
 sm:QhJ m (QcG T) Lf Rt Lb Rb len
 one:∀j,j<n0->len j=1
 big:∀j,n0<=j->j<m->1<len j
 bR:QaC m 130000 Rt
 bB:QaC m 130000 Rb
 ll:∀j,j<m->(len j).natAbs<2^1999
def Qhq(dr:Den)(m:Nat)(T Lf Rt Lb Rb:Mt2)(len:Mt1):Prop:=dr [Qc m m (QcG T)]=some (.tup [Qc m m Lf,Qc m m (QaK len),Qc m m Rt,Qc m m Lb,Qc m m Rb],false)
theorem QlG{len:Mt1}:∀(m:Nat),(∀j,j<m->0<len j)->(∀j,j+1<m->len j∣len (j+1))->∃n0,n0<=m/\(∀j,j<n0->len j=1)/\∀j,n0<=j->j<m->1<len j
 | 0,_,_=>⟨0,Zi _,λj hj=> ⋯,λj _ hj=> ⋯⟩
 | m+1,hp,hn=>by
  obtain⟨n0,h1,h2,h3⟩:=QlG m (λj hj=>hp j ⋯) λj hj=>hn j ⋯;by_cases e:n0=m
  ·subst e;by_cases z:len n0=1
   ·exact⟨n0+1,Zi _,λj hj=>by
     by_cases q:j=n0
     ·rw[q];exact z
     ·exact h2 j ⋯,λj a b=> ⋯⟩
   ·exact⟨n0,⋯,h2,λj a b=>by rw[show j=n0 by omega];have:=hp n0 ⋯;omega⟩
  ·refine⟨n0,⋯,h2,λj a b=>?_⟩;by_cases q:j=m
   ·subst q;have d:=hn (j-1) ⋯;rw[show j-1+1=j by omega]at d;have b1:=h3 (j-1) ⋯ ⋯;have:=Int.le_of_dvd (hp j ⋯) d;omega
   ·exact h3 j a ⋯
theorem Qbi.QBh{m:Nat}{R L:Lpp}(hw:Qbi m R L):(det m λj i=>QcG (Qs m (Qp R L)) i j)≠0:=by
 rw[Quu];exact Qqz hw.big (Qmw hw.tp)
theorem Qti{dr:Den}(hr:Qjk dr){m:Nat}{R L:Lpp}(m0:0<m)(m8:m<=8)(hw:Qbi m R L):∃n0 Lf Rt Lb Rb len,QaS m n0 (Qs m (Qp R L)) Lf Rt Lb Rb len/\Qhq dr m (Qs m (Qp R L)) Lf Rt Lb Rb len:=by
 obtain⟨Lf,Rt,Lb,Rb,len,e,sm,_,b2,_,b4,ll⟩:=hr m (QcG (Qs m (Qp R L))) m0 m8 (λi j hi hj=>Zt (hw.big i hi j hj) (Zq (by decide) (by decide))) hw.QBh;obtain⟨n0,h1,h2,h3⟩:=QlG m sm.pos sm.nxt;exact⟨n0,Lf,Rt,Lb,Rb,len,⟨h1,sm,h2,h3,b2,b4,ll⟩,e⟩
theorem Qfp{len:Mt1}{m n0:Nat}(h1:n0<=m)(h2:∀j,j<n0->len j=1)(h3:∀j,n0<=j->j<m->1<len j):(List.range m).filter (λj=>decide (1<len j))=(List.range (m-n0)).map (n0+ ·):=by
 rw[show m=n0+(m-n0) by omega,List.range_add,List.filter_append,Zcl.mpr λj hj=>?_,ZbL,ZbP.mpr λj hj=>?_]
 ·rw[show n0+(m-n0)-n0=m-n0 by omega]
 ·obtain⟨i,hi,rfl⟩:=ZL.mp hj;have:=h3 (n0+i) ⋯ (by have:=Zf.mp hi;omega);simpa using this
 ·rw[h2 j (Zf.mp hj)];decide
noncomputable def Qkw:DS:=(Qd (QM (QF (QdX vv0) (.tp [1,2]) [none,none,none] QN (Qr vv2 vv1))) Qm)
def Qjo(d:Den):Prop:=∀(n:Nat) (len:Mt1),d [Qc n n (QaK len)]=some (Qb n len,true)
theorem QAM:Qjo (Qx 1 Qkw):=λn len=>
 QR (Qy (QA (List.range n) (Qp5 rfl rfl) rfl λi hi=>⟨[none,slI i,slF (Qb n (QaK len i))],rfl,reI (len i),(Q6 rfl rfl rfl rfl (Zf.mp hi)).trans (by unfold QaK idF;rw[if_pos rfl,Zab]),rfl,rfl⟩) ⟨rfl,rfl⟩)
noncomputable def Qcr(len:Mt1)(n0:Nat):Nat->Int:=λj=>len (n0+j)
noncomputable def Q4(m:Nat)(Rt:Mt2)(f:Mt1)(j:Nat):Int:=Qn m λi=>f i*Rt i j
noncomputable def QaI(m n0:Nat)(Rt:Mt2)(len:Mt1)(f:Mt1):Nat->Int:=λj=>Q4 m Rt f (n0+j) % len (n0+j)
def Qhc(d:Den):Prop:=∀(m:Nat) (R L:Lpp),m<=8->Qbi m R L->d [QI m R L]=some (Qc m m (QcG (Qs m (Qp R L))),true)
theorem QjF(h:Qie d):Qhc d:=λm R L m8 hw=>by
 have hg:=hw.good;exact h m R L ⋯ ⋯ hg.1 hg.2.1
noncomputable def Qma(Qao:Den)(QS:Den)(Q0:Den):DS:=(Qd (Qo 1 (Qh 1 QS [] (Qa (Qh 1 Qao [] (Qa vv0 Qe)) Qe))) (Qd (QM (QF (QX (Qh 1 Q0 [] (Qa (Qr vv1 kk1) Qe))) (.nm 1) [none,none] (QB (dOp gGt vv1 kk1)) vv1)) Qm))
def Qpn(dr d:Den):Prop:=∀(m:Nat) (R L:Lpp) (n0:Nat) (Lf Rt Lb Rb:Mt2) (len:Mt1),m<=8->Qbi m R L->QaS m n0 (Qs m (Qp R L)) Lf Rt Lb Rb len->Qhq dr m (Qs m (Qp R L)) Lf Rt Lb Rb len->d [QI m R L]=some (Qb (m-n0) (Qcr len n0),true)
theorem Qyf{dt dr dm:Den}(ht:Qhc dt)(hm:Qjo dm):Qpn dr (Qx 2 (Qma dt dr dm)):=λm R L n0 Lf Rt Lb Rb len m8 hw nr re=>by
 have et:=ht m R L m8 hw;generalize Qs m (Qp R L)=T at *;refine QR ?_;refine run_seq (Qz ((Qb1 (Qq (Ql (r:=⟨[QI m R L],false,[]⟩) rfl et rfl) (QL _)) re rfl).trans rfl) ?_);change Nx _ (.nx [slF (QI m R L),slF (.tup [Qc m m Lf,Qc m m (QaK len),Qc m m Rt,Qc m m Lb,Qc m m Rb])]);refine Qy (r:=reT (Qb (m-n0) (Qcr len n0))) ?_ ⟨rfl,rfl⟩;refine(QcC (List.range m) (QW (Ql (r:=⟨[Qc m m (QaK len)],false,[]⟩) rfl (hm m len) rfl) rfl) rfl λi hi=>⟨[none,slI (len i)],rfl,rfl,λ_=>⟨(reI (len i)),rfl,rfl,rfl⟩⟩).trans ?_;rw[Qfp nr.le nr.one nr.big,Zam];rfl
noncomputable def Qpj(QaW:Den)(Qao:Den)(QS:Den)(Qat:Den)(QaZ:Den)(Q0:Den):DS:=(Qd (Qbs (Qh 2 QaW [] (Qa vv0 (Qa (Qad (Qa vv1 Qe)) Qe)))) (Qd (Qo 2 (Qh 1 QS [] (Qa (Qh 1 Qao [] (Qa vv0 Qe)) Qe))) (Qd (Qo 3 (Qh 2 QaZ [] (Qa vv1 (Qa (Qh 1 Qat [] (Qa (Qr vv2 kk2) Qe)) Qe)))) (Qd (QM (QF (Qaz vv3 (Qh 1 Q0 [] (Qa (Qr vv2 kk1) Qe))) (.tp [1,2]) [none,none,none] (QB (dOp gGt vv2 kk1)) (dOp Q9 vv1 vv2))) Qm))))
def QhY(dr d:Den):Prop:=∀(m:Nat) (R L:Lpp) (n0:Nat) (Lf Rt Lb Rb:Mt2) (len f:Mt1),m<=8->Qbi m R L->QaS m n0 (Qs m (Qp R L)) Lf Rt Lb Rb len->Qhq dr m (Qs m (Qp R L)) Lf Rt Lb Rb len->(∀i,i<m->QaA (f i))->d [QI m R L,Qb m f]=some (Qb (m-n0) (QaI m n0 Rt len f),true)
theorem Qtk{dn dt dr du dl dm:Den}(hn:Qhx dn)(ht:Qhc dt)(hu:QcJ du)(hl:QfZ dl)(hm:Qjo dm):QhY dr (Qx 4 (Qpj dn dt dr du dl dm)):=λm R L n0 Lf Rt Lb Rb len f m8 hw nr re hf=>by
 have et:=ht m R L m8 hw;have en:=hn m R L [f];generalize Qs m (Qp R L)=T at *;refine QR ?_;refine run_seq (QeC (Ql rfl en rfl) ?_);refine run_seq (Qz ((Qb1 (Qq (Ql (r:=⟨[QI m R L],false,[]⟩) rfl et rfl) (QL _)) re rfl).trans rfl) ?_);change Run _ [slF (QI m R L),slF (Qb m f),slF (.tup [Qc m m Lf,Qc m m (QaK len),Qc m m Rt,Qc m m Lb,Qc m m Rb]),none] _;refine rsa (Ql (Qq (r:=reF (Qb m f)) rfl (Qq (Ql (r:=⟨[Qc m m Rt],false,[]⟩) rfl (hu m Rt ⋯) rfl) (QL _))) (hl m m f (λj i=>Rt i j) hf λj i hj hi=>nr.bR.bits (by decide) i j hi hj) rfl) ?_;change Run _ [slF (QI m R L),slF (Qb m f),slF (.tup [Qc m m Lf,Qc m m (QaK len),Qc m m Rt,Qc m m Lb,Qc m m Rb]),slT (Qb m (Q4 m Rt f))] _;refine Qy (r:=reT (Qb (m-n0) (QaI m n0 Rt len f))) ?_ ⟨rfl,rfl⟩;refine(QcC (List.range m) (QaG rfl rfl (Ql (r:=⟨[Qc m m (QaK len)],false,[]⟩) rfl (hm m len) rfl) rfl) rfl λi hi=>⟨[none,slI (Q4 m Rt f i),slI (len i)],rfl,rfl,λ_=>⟨(reI (Q4 m Rt f i % len i)),Q7 rfl rfl rfl rfl (nr.sm.pos i (Zf.mp hi)),rfl,rfl⟩⟩).trans ?_;rw[Qfp nr.le nr.one nr.big,Zam];rfl
noncomputable def Qcf:DS:=(Qd (sIf (QB (dOp gNe (dBf Q2 (Qa vv0 Qe)) (dBf Q2 (Qa vv1 Qe)))) (Qd Qw Qm) Qm) (Qd (QaV (Qaz vv0 vv1) (.tp [2,3]) (Qd (sIf (bOr (QB (dOp gLt vv2 kk0)) (QB (dOp gGe vv2 vv3))) (Qd Qw Qm) Qm) Qm)) Qm))
def Qkr(d:Den):Prop:=∀(k:Nat) (p l:Mt1),(∀j,j<k->0<=p j/\p j<l j)->d [Qb k p,Qb k l]=some (.non,true)
theorem Qtf:Qkr (Qx 4 Qcf):=λk p l h=>by
 have key:Run Qcf (Qau 4 [Qb k p,Qb k l]) (Nx λ_=>True):=by
  refine run_seq (QU (QH (r:=reT (.bl false)) ((Qcy (QbO rfl rfl) rfl (QbO rfl rfl) rfl).trans (by simp)) rfl) (λh=>by cases h) (λ_=>Qt ?_));refine run_seq (Qay (List.range k) (λ_ U=>∃j2 j3,U=[slF (Qb k p),slF (Qb k l),j2,j3]) (QaG rfl rfl rfl rfl) rfl ⟨none,none,rfl⟩ ?_ ?_)
  ·rintro i i' U hi ⟨j2,j3,rfl⟩;obtain⟨hik,rfl⟩:=Qdx hi;refine⟨[slF (Qb k p),slF (Qb k l),slI (p i),slI (l i)],rfl,?_⟩;have:=h i hik;exact run_seq (QU (b:=false) ((QbA (QH (Qag rfl rfl rfl) rfl) (QH (Qag rfl rfl rfl) rfl)).trans (by rw[decide_eq_false ⋯,decide_eq_false ⋯];rfl)) (λh=>by cases h) (λ_=>Qt (Qt ⟨_,_,rfl⟩)))
  ·rintro U ⟨j2,j3,rfl⟩;exact Qt trivial
 obtain⟨o,h1,h2⟩:=key;cases o with
 | nx U=>show Option.bind (Qcf (Qau 4 [Qb k p,Qb k l])) outD=_;rw[h1];rfl
 | _=>exact h2.elim
noncomputable def Qb4(m n0:Nat)(Rb:Mt2)(p:Mt1):Nat->Int:=Q4 m Rb λi=>if i<n0 then 0 else p (i-n0)
noncomputable def Qgq(Qao:Den)(QS:Den)(Q0:Den)(QaN:Den)(Qat:Den)(QaZ:Den)(QbN:Den):DS:=(Qd (Qo 2 (Qh 1 QS [] (Qa (Qh 1 Qao [] (Qa vv0 Qe)) Qe))) (Qd (Qo 3 (Qh 1 Q0 [] (Qa (Qr vv2 kk1) Qe))) (Qd (Qbs (Qh 2 QaN [] (Qa vv1 (Qa (QF (QX vv3) (.nm 1) [none,none] (QB (dOp gGt vv1 kk1)) vv1) Qe)))) (Qd (Qo 4 (QE (QZ (Qad (Qa kk0 Qe)) (dOp Qax (dBf Q2 (Qa vv3 Qe)) (dBf Q2 (Qa vv1 Qe)))) vv1)) (Qd (QM (Qr (Qh 2 QbN [] (Qa vv0 (Qa (Qh 2 QaZ [] (Qa vv4 (Qa (Qh 1 Qat [] (Qa (Qr vv2 kk4) Qe)) Qe))) Qe))) kk0)) Qm)))))
def QhR(dr d:Den):Prop:=∀(m:Nat) (R L:Lpp) (n0:Nat) (Lf Rt Lb Rb:Mt2) (len p:Mt1),0<m->m<=8->Qbi m R L->QaS m n0 (Qs m (Qp R L)) Lf Rt Lb Rb len->Qhq dr m (Qs m (Qp R L)) Lf Rt Lb Rb len->(∀j,j<m-n0->0<=p j/\p j<Qcr len n0 j)→
 ∃k,d [QI m R L,Qb (m-n0) p]=some (Qb m (Qi m (Qs m (Qp R L)) (Qb4 m n0 Rb p) k),true)/\QoN m (Qs m (Qp R L)) (Qb4 m n0 Rb p) k
theorem QsT(ht:Qhc dt)(hm:Qjo dm)(hn:Qkr dn)(hu:QcJ du)(hl:QfZ dl)(ha:Qh8 da):QhR dr (Qx 5 (Qgq dt dr dm dn du dl da)):=λm R L n0 Lf Rt Lb Rb len p m0 m8 hw nr re hp=>by
 have et:=ht m R L m8 hw;have bsp:∀i,i<m->(if i<n0 then(0:Int)else p (i-n0)).natAbs<=2^1999:=λi hi=>by
  split
  ·exact Zaa _
  ·rename_i z;have h1:=hp (i-n0) ⋯;have h2:=nr.ll i hi;have h3:Qcr len n0 (i-n0)=len i:=by unfold Qcr;rw[show n0+(i-n0)=i by omega]
   rw[h3]at h1;omega
 have bits:∀i,i<m->QaA (if i<n0 then(0:Int)else p (i-n0)):=λi hi=>Qa7 (ZT (bsp i hi) (Nat.pow_lt_pow_right (by decide) (by decide)));have bf:∀j,j<m->(Qb4 m n0 Rb p j).natAbs<=2^200000:=λj hj=>by
  have h1:(Qb4 m n0 Rb p j).natAbs<=m*(2^1999*2^130000):=QkF λi hi=>by
   rw[Zao];exact ZaY (bsp i hi) (nr.bB i j hi hj)
  refine Zt h1 (Zt (Zbf _ m8) ?_);rw[← Nat.pow_add,show(8:Nat)=2^3 from rfl,← Nat.pow_add];exact Zq (by decide) (by decide)
 obtain⟨k,v,ek,h1,h2,h3,h4⟩:=ha m R L (Qb4 m n0 Rb p) m0 m8 hw bf;refine⟨k,QR ?_,⟨⟨v,h1,h2⟩,h3,h4⟩⟩;generalize Qs m (Qp R L)=T at *;refine run_seq (Qz ((Qb1 (Qq (Ql (r:=⟨[QI m R L],false,[]⟩) rfl et rfl) (QL _)) re rfl).trans rfl) ?_);change Run _ [slF (QI m R L),slF (Qb (m-n0) p),slF (.tup [Qc m m Lf,Qc m m (QaK len),Qc m m Rt,Qc m m Lb,Qc m m Rb]),none,none] _;refine rsa (Ql rfl (hm m len) rfl) ?_;change Run _ [slF (QI m R L),slF (Qb (m-n0) p),slF (.tup [Qc m m Lf,Qc m m (QaK len),Qc m m Rt,Qc m m Lb,Qc m m Rb]),slT (Qb m len),none] _;have ec:QF (QX (Qg 3)) (.nm 1) [none,none] (QB (dOp gGt (Qg 1) (dC (.int 1)))) (Qg 1) [slF (QI m R L),slF (Qb (m-n0) p),slF (.tup [Qc m m Lf,Qc m m (QaK len),Qc m m Rt,Qc m m Lb,Qc m m Rb]),slT (Qb m len),none]=some (reT (Qb (m-n0) (Qcr len n0))):=by
  refine(QcC (List.range m) (QW rfl rfl) rfl λi hi=>⟨[none,slI (len i)],rfl,rfl,λ_=>⟨(reI (len i)),rfl,rfl,rfl⟩⟩).trans ?_;rw[Qfp nr.le nr.one nr.big,Zam];rfl
 refine run_seq (QeC (Ql (Qq rfl (Qq ec (QL _))) (hn (m-n0) p (Qcr len n0) hp) rfl) ?_);have le:=nr.le;have erep:=QeY (fb:=dOp Qax (dBf Q2 (Qa (Qg 3) Qe)) (dBf Q2 (Qa (Qg 1) Qe))) (U:=[slF (QI m R L),slF (Qb (m-n0) p),slF (.tup [Qc m m Lf,Qc m m (QaK len),Qc m m Rt,Qc m m Lb,Qc m m Rb]),slT (Qb m len),none]) (z:=0) ((QcA (QbO rfl rfl) rfl (QbO rfl rfl) rfl).trans (by rw[show(m:Int)-((m-n0:Nat):Int)=n0 by omega])) rfl ⋯;refine rsa ((QfR erep rfl rfl rfl ⋯).trans (by rw[show n0+(m-n0)=m by omega])) ?_;change Run _ [slF (QI m R L),slF (Qb (m-n0) p),slF (.tup [Qc m m Lf,Qc m m (QaK len),Qc m m Rt,Qc m m Lb,Qc m m Rb]),slT (Qb m len),slT (Qb m (λi=>if i<n0 then 0 else p (i-n0)))] _;have eb:Qh 2 dl [] (Qa (Qg 4) (Qa (Qh 1 du [] (Qa (Qr (Qg 2) (dC (.int 4))) Qe)) Qe)) [slF (QI m R L),slF (Qb (m-n0) p),slF (.tup [Qc m m Lf,Qc m m (QaK len),Qc m m Rt,Qc m m Lb,Qc m m Rb]),slT (Qb m len),slT (Qb m (λi=>if i<n0 then 0 else p (i-n0)))]=some (reT (Qb m (Qb4 m n0 Rb p))):=Ql (Qq rfl (Qq (Ql rfl (hu m Rb ⋯) rfl) (QL _))) (hl m m _ (λj i=>Rb i j) bits λj i hj hi=>nr.bB.bits (by decide) i j hi hj) rfl;exact Qy (QqQ (Ql (Qq rfl (Qq eb (QL _))) ek rfl) rfl).1 ⟨rfl,rfl⟩
section
variable {m n0:Nat}{T Lf Rt Lb Rb:Mt2}{len:Mt1}
theorem QhJ.ar{n:Nat}{f Lf R Lb Rb:Mt2}{len:Mt1}(h:QhJ n f Lf R Lb Rb len){i j:Nat}(hi:i<n)(hj:j<n):prodF n f R i j=Lb i j*len j:=by
 have e1:prodF n Lb (prodF n (prodF n Lf f) R) i j=prodF n f R i j:=by
  rw[Qas n Lf f R,← Qas,Qaj (a':=idF) (b':=prodF n f R) (λk hk=>h.v2 i k hi hk) (λ_ _=>rfl),Qb0 _ _ hi]
 rw[← e1];show(Qn n λk=>Lb i k*prodF n (prodF n Lf f) R k j)=_;rw[Qa6 hj λk hk ne=>by rw[h.mid k j hk hj];unfold idF;rw[if_neg ne,ZI,ZI],h.mid j j hj hj];unfold idF;rw[if_pos rfl,Zab]
theorem QhJ.la{n:Nat}{f Lf R Lb Rb:Mt2}{len:Mt1}(h:QhJ n f Lf R Lb Rb len){i j:Nat}(hi:i<n)(hj:j<n):prodF n Lf f i j=len i*Rb i j:=by
 have e1:prodF n (prodF n (prodF n Lf f) R) Rb i j=prodF n Lf f i j:=by
  rw[Qas,Qaj (a':=prodF n Lf f) (b':=idF) (λ_ _=>rfl) (λk hk=>h.u1 k j hk hj),Qf8 _ _ hj]
 rw[← e1];show(Qn n λk=>prodF n (prodF n Lf f) R i k*Rb k j)=_;rw[Qa6 hi λk hk ne=>by rw[h.mid i k hi hk];unfold idF;rw[if_neg (Ne.symm ne),ZI,ZF],h.mid i i hi hi];unfold idF;rw[if_pos rfl,Zab]
theorem Qu3(f g:Mt1)(x y:Int)(j:Nat):Q4 m Rt (λi=>x*f i+y*g i) j=x*Q4 m Rt f j+y*Q4 m Rt g j:=by
 unfold Q4;exact QfH m x y f g λi=>Rt i j
theorem QuW(nr:QaS m n0 T Lf Rt Lb Rb len)(f c:Mt1){j:Nat}(hj:j<m):len j∣Q4 m Rt (Qi m T f c) j-Q4 m Rt f j:=by
 have e:Q4 m Rt (Qi m T f c) j-Q4 m Rt f j= -Qn m λl=>c l*prodF m (QcG T) Rt l j:=by
  unfold Q4;rw[← QhV,Qj (g:=λi=>Qn m λl=>c l*(T l i*Rt i j)) λi _=>by
   unfold Qi;rw[ZM,← QdJ,Qj λl _=>ZE _ _ _];omega,Qcj,← QcO]
  refine Qj λl _=>?_;rw[QT,← ZaD];congr 1;show _= -Qn m λi=>QcG T l i*Rt i j;rw[← QcO];exact Qj λi _=>by unfold QcG;rw[Zag,Zad,ZbJ]
 rw[e];exact Int.dvd_neg.mpr (Qf2 λl hl=>Int.dvd_mul_of_dvd_right (by rw[nr.sm.ar hl hj];exact Int.dvd_mul_left _ _))
theorem Qtd(nr:QaS m n0 T Lf Rt Lb Rb len)(s:Mt1){j:Nat}(hj:j<m):Q4 m Rt (Q4 m Rb s) j=s j:=by
 have e:Q4 m Rt (Q4 m Rb s) j=Qn m λi=>s i*prodF m Rb Rt i j:=by
  unfold Q4 prodF;rw[Qj (g:=λl=>Qn m λi=>s i*(Rb i l*Rt l j)) λl _=>by rw[← QdJ];exact Qj λi _=>ZE _ _ _,Qcj];exact Qj λi _=>QT m _ _
 rw[e,Qa6 hj λi hi ne=>by rw[nr.sm.u2 i j hi hj];unfold idF;rw[if_neg ne,ZI],nr.sm.u2 j j hj hj];unfold idF;rw[if_pos rfl,Zab]
theorem Qud(nr:QaS m n0 T Lf Rt Lb Rb len){y:Mt1}(h:∀j,j<m->len j∣Q4 m Rt y j):∃c:Nat->Int,∀r,r<m->y r=Qn m λl=>c l*QcG T l r:=by
 obtain⟨z,hz⟩:∃z:Nat->Int,∀j,j<m->Q4 m Rt y j=len j*z j:=⟨λj=>Q4 m Rt y j / len j,λj hj=>(Int.mul_ediv_cancel' (h j hj)).symm⟩;refine⟨λl=>Qn m λj=>z j*Lf j l,λr hr=>?_⟩;have e1:(Qn m λj=>Q4 m Rt y j*Rb j r)=y r:=by
  have:(Qn m λj=>Q4 m Rt y j*Rb j r)=Qn m λi=>y i*prodF m Rt Rb i r:=by
   unfold Q4 prodF;rw[Qj (g:=λj=>Qn m λi=>y i*(Rt i j*Rb j r)) λj _=>by rw[← QdJ];exact Qj λi _=>ZE _ _ _,Qcj];exact Qj λi _=>QT m _ _
  rw[this,Qa6 hr λi hi ne=>by rw[nr.sm.u1 i r hi hr];unfold idF;rw[if_neg ne,ZI],nr.sm.u1 r r hr hr];unfold idF;rw[if_pos rfl,Zab]
 rw[← e1];have e2:(Qn m λl=>(Qn m λj=>z j*Lf j l)*QcG T l r)=Qn m λj=>z j*prodF m Lf (QcG T) j r:=by
  unfold prodF;rw[Qj (g:=λl=>Qn m λj=>z j*(Lf j l*QcG T l r)) λl _=>by rw[← QdJ];exact Qj λj _=>ZE _ _ _,Qcj];exact Qj λj _=>QT m _ _
 show _=Qn m λl=>(Qn m λj=>z j*Lf j l)*QcG T l r;rw[e2];exact Qj λj hj=>by rw[hz j hj,nr.sm.la hj hr];grind
theorem QsW(nr:QaS m n0 T Lf Rt Lb Rb len){f g:Mt1}(h:∀j,j<m-n0->QaI m n0 Rt len f j=QaI m n0 Rt len g j):∀j,j<m->len j∣Q4 m Rt f j-Q4 m Rt g j:=λj hj=>by
 by_cases z:j<n0
 ·rw[nr.one j z];exact Int.one_dvd _
 ·have e:=h (j-n0) ⋯;unfold QaI at e;rw[show n0+(j-n0)=j by omega]at e;have h1:=ZaN (Q4 m Rt f j) (len j);have h2:=ZaN (Q4 m Rt g j) (len j);exact⟨Q4 m Rt f j / len j-Q4 m Rt g j / len j,by rw[ZbI];omega⟩
end
theorem QiF:∀xs ys:List Int,PyData.eqvAll (pys (xs.map D.int)) (pys (ys.map D.int))=decide (xs=ys)
 | [],[]=>rfl
 | [],y::ys=>rfl
 | x::xs,[]=>rfl
 | x::xs,y::ys=>by
  have ih:=QiF xs ys;show(PyData.eqv (D.int x).py (D.int y).py && PyData.eqvAll (pys (xs.map D.int)) (pys (ys.map D.int)))=_;rw[ih];show((x == y) && decide (xs=ys))=_;by_cases a:x=y
  ·subst a;by_cases b:xs=ys
   ·subst b;simp
   ·simp[b]
  ·simp[a]
theorem Qv6:deq (Qb m f) (Qb k g)=decide ((List.range m).map f=(List.range k).map g):=by
 rw[Qf5,Qf5];exact QiF _ _
theorem Qqe{x y l:Int}(h:l∣x-y):x % l=y % l:=(Zbi).mpr (Int.emod_eq_zero_of_dvd h)
theorem QnR{m n0:Nat}{T Lf Rt Lb Rb:Mt2}{len:Mt1}(nr:QaS m n0 T Lf Rt Lb Rb len)(f:Mt1):∀j,j<m-n0->0<=QaI m n0 Rt len f j/\QaI m n0 Rt len f j<Qcr len n0 j:=λj hj=>by
 have:=nr.big (n0+j) ⋯ ⋯;unfold QaI Qcr;exact⟨ZA _ ⋯,Zz _ ⋯⟩
theorem Qum{i:Nat}(hr:fr U=some rr)(er:rr.d=Qb m f)(ha:fa U=some (reI i))(hv:fv U=some (reI v))(hi:i<m)(hm:m<=100):QE (QE (QbX fr Qa9 (Qba fa)) (Qad (Qa fv Qe))) (QbX fr (Qba (QE fa (dC (.int 1)))) Qa9) U=some (reT (Qb m (up f i v))):=by
 have e1:=QfJ (Qjm hr er ha rfl ⋯) rfl hv ⋯;have e2:=QkT (fb:=QE fa (dC (.int 1))) (n:=i+1) hr er (QY ha rfl (Qbo _ _) rfl) rfl ⋯;refine(QfR e1 rfl e2 rfl ⋯).trans ?_;rw[show i+1+(m-(i+1))=m by omega];congr 2;refine Qc3 λj hj=>?_;by_cases z:j<i+1
 ·rw[if_pos z]
 ·rw[if_neg z,Qcz,if_neg ⋯,show i+1+(j-(i+1))=j by omega]
theorem Qlx{m:Nat}{Rt:Mt2}{f g:Mt1}(h:∀i,i<m->f i=g i)(j:Nat):Q4 m Rt f j=Q4 m Rt g j:=Qj λi hi=>by rw[h i hi]
section
variable {m n0:Nat}{T Lf Rt Lb Rb:Mt2}{len:Mt1}
theorem QnW(nr:QaS m n0 T Lf Rt Lb Rb len)(f c:Mt1):∀j,j<m-n0->QaI m n0 Rt len (Qi m T f c) j=QaI m n0 Rt len f j:=λj hj=>Qqe (QuW nr f c ⋯)
theorem QtU(nr:QaS m n0 T Lf Rt Lb Rb len)(f g:Mt1):(∀j,j<m-n0->QaI m n0 Rt len f j=QaI m n0 Rt len g j)↔∃c:Nat->Int,∀r,r<m->f r-g r=Qn m λl=>c l*QcG T l r:=by
 constructor
 ·intro h;refine Qud nr λj hj=>?_;have e:=Qu3 (m:=m) (Rt:=Rt) f g 1 (-1) j;rw[ZQ,Qlx (g:=λi=>f i-g i) (λi _=> ⋯)]at e;rw[e,show Q4 m Rt f j+ -1*Q4 m Rt g j=Q4 m Rt f j-Q4 m Rt g j by omega];exact QsW nr h j hj
 ·rintro⟨c,hc⟩ j hj;have e:∀r,r<m->f r=Qi m T g (λl=> -c l) r:=λr hr=>by
   show f r=g r+Qn m λl=> -c l*T l r;have:=hc r hr;rw[Qj (g:=λl=> -c l*T l r) λl _=>by unfold QcG;rw[Zag,ZaD,Zad]]at this;omega
  unfold QaI;rw[Qlx e];exact QnW nr g (λl=> -c l) j hj
end
section
variable {m n0:Nat}{T Lf Rt Lb Rb:Mt2}{len:Mt1}
theorem Qlh(nr:QaS m n0 T Lf Rt Lb Rb len){p:Mt1}(hp:∀j,j<m-n0->0<=p j/\p j<Qcr len n0 j):∀j,j<m-n0->QaI m n0 Rt len (Qb4 m n0 Rb p) j=p j:=λj hj=>by
 have le:=nr.le;have e:=Qtd nr (λi=>if i<n0 then 0 else p (i-n0)) (j:=n0+j) ⋯;have e2:Q4 m Rt (Qb4 m n0 Rb p) (n0+j)=p j:=by
  refine Eq.trans ?_ (e.trans ?_)
  ·rfl
  ·show(if n0+j<n0 then(0:Int)else p (n0+j-n0))=p j;rw[if_neg ⋯,show n0+j-n0=j by omega]
 have:=hp j hj;unfold QaI;rw[e2];exact Zbd this.1 this.2
theorem QxT(nr:QaS m n0 T Lf Rt Lb Rb len)(tp:TP m T){f k k2:Mt1}(rk:QoN m T f k)(r2:QoN m T (Qb4 m n0 Rb (QaI m n0 Rt len f)) k2):∀j,j<m->Qi m T (Qb4 m n0 Rb (QaI m n0 Rt len f)) k2 j=Qi m T f k j:=by
 obtain⟨c,hc⟩:=(QtU nr (Qb4 m n0 Rb (QaI m n0 Rt len f)) f).mp (Qlh nr (QnR nr f));refine QAx tp rk r2 (d:=λi=>(k2 i-c i)-k i) λj hj=>?_;have e:=hc j hj;rw[Qj (g:=λl=> -c l*T l j) λl _=>by unfold QcG;rw[Zag,ZaD,Zad],QyV]at e;unfold Qi;rw[QsX,QsX];omega
end
noncomputable def QdP:DX:=(Qbm (sIf (QB (dOp gNe (dBf Q2 (Qa vv0 Qe)) (dBf Q2 (Qa vv1 Qe)))) (Qd Qw Qm) Qm) (xIf (QB (dOp gNe (dBf Q2 (Qa vv0 Qe)) (dBf Q2 (Qa vv1 Qe)))) (Qbm Qw (QdZ "NoRow" (Qa (dC (.str "a place in the rings has one number for each ring")) Qe)) xNo) xNo) (Qbm (QaV (Qaz vv0 vv1) (.tp [2,3]) (Qd (sIf (bOr (QB (dOp gLt vv2 kk0)) (QB (dOp gGe vv2 vv3))) (Qd Qw Qm) Qm) Qm)) (Qkp (Qaz vv0 vv1) (.tp [2,3]) (Qd (sIf (bOr (QB (dOp gLt vv2 kk0)) (QB (dOp gGe vv2 vv3))) (Qd Qw Qm) Qm) Qm) (Qbm (sIf (bOr (QB (dOp gLt vv2 kk0)) (QB (dOp gGe vv2 vv3))) (Qd Qw Qm) Qm) (xIf (bOr (QB (dOp gLt vv2 kk0)) (QB (dOp gGe vv2 vv3))) (Qbm Qw (QdZ "NoRow" (Qa (dC (.str "a place in the rings has numbers from 0 to below the lengths")) Qe)) xNo) xNo) xNo)) xNo))
theorem QBd:ApF (Qx 4 Qcf) (Qee 4 QdP):=Qwu (by unfold Qcf QdP;repeat (first | exact Qd5 | exact Qdt | assumption | apply QeR | apply Qk0 | apply QpA | apply QfA | apply Qs9 | apply ap_ret))
def Qfu(r:Nat)(l:Mt1)(o:D):Prop:=(∃xs,o= .lst xs/\xs.length≠r)∨∃q i,o=Qb r q/\i<r/\¬(0<=q i/\q i<l i)
def Qml(xd:List D->Option Str):Prop:=∀(r:Nat) (l:Mt1) (o:D),Qfu r l o->xd [o,Qb r l]=some "NoRow"
theorem Qnu{P:Nat->Prop}:∀{i:Nat},¬P i->∃j,j<=i/\¬P j/\∀k,k<j->P k
 | i,h=>by
  by_cases e:∀k,k<i->P k
  ·exact⟨i,Zi _,h,e⟩
  ·obtain⟨k,hk⟩:=Classical.not_forall.mp e;obtain⟨h1,h2⟩:=Classical.not_imp.mp hk;obtain⟨j,a,b⟩:=Qnu h2;exact⟨j,⋯,b⟩
termination_by i=>i
theorem Qr8:Qml (Qee 4 QdP):=λr l o ho=>by
 have apB:Ap (Qd (sIf (bOr (QB (dOp gLt (Qg 2) (dC (.int 0)))) (QB (dOp gGe (Qg 2) (Qg 3)))) (Qd Qw Qm) Qm) Qm) (Qbm (sIf (bOr (QB (dOp gLt (Qg 2) (dC (.int 0)))) (QB (dOp gGe (Qg 2) (Qg 3)))) (Qd Qw Qm) Qm) (xIf (bOr (QB (dOp gLt (Qg 2) (dC (.int 0)))) (QB (dOp gGe (Qg 2) (Qg 3)))) (Qbm Qw (QdZ "NoRow" (Qa (dC (.str "a place in the rings has numbers from 0 to below the lengths")) Qe)) xNo) xNo) xNo):=QeR (Qk0 (QeR Qdt Qd5) Qd5) Qd5;rcases ho with⟨xs,rfl,hx⟩ | ⟨q,i,rfl,hi,hq⟩
 ·exact QrI (Qfz (Qk0 (QeR Qdt Qd5) Qd5) (QwO (b:=true) (QH (Qcy (Qcx rfl rfl) rfl (QbO rfl rfl) rfl) (by simp;omega)) (λ_=>Qfz Qdt (QoU rfl (Zi _))) (λh=>by cases h)))
 ·obtain⟨j,hj,bad,good⟩:=Qnu (P:=λi=>0<=q i/\q i<l i) hq;refine QrI (Qme (QU (QH (r:=reT (.bl false)) ((Qcy (QbO rfl rfl) rfl (QbO rfl rfl) rfl).trans (by simp)) rfl) (λh=>by cases h) (λ_=>Qt ?_)));refine Qfz (QpA apB) (Qzw apB (List.range r) (λ_ U=>∃j2 j3,U=[slF (Qb r q),slF (Qb r l),j2,j3]) j (by simp;omega) (QaG rfl rfl rfl rfl) rfl ⟨none,none,rfl⟩ ?_ ?_)
  ·rintro i x U hi' hx ⟨j2,j3,rfl⟩;obtain⟨h1,rfl⟩:=Zk.mp hx;rw[List.getElem_range];have:=good i hi';refine⟨[slF (Qb r q),slF (Qb r l),slI (q i),slI (l i)],rfl,?_⟩;exact run_seq (QU (b:=false) ((QbA (QH (Qag rfl rfl rfl) rfl) (QH (Qag rfl rfl rfl) rfl)).trans (by rw[decide_eq_false ⋯,decide_eq_false ⋯];rfl)) (λh=>by cases h) (λ_=>Qt (Qt ⟨_,_,rfl⟩)))
  ·rintro x U hx ⟨j2,j3,rfl⟩;obtain⟨h1,rfl⟩:=Zk.mp hx;rw[List.getElem_range];refine⟨[slF (Qb r q),slF (Qb r l),slI (q j),slI (l j)],rfl,?_⟩;refine Qfz (Qk0 (QeR Qdt Qd5) Qd5) (QwO (b:=true) ((QbA (QH (Qag rfl rfl rfl) rfl) (QH (Qag rfl rfl rfl) rfl)).trans (congrArg some ?_)) (λ_=>Qfz Qdt (QoU rfl (Zi _))) (λh=>by cases h));by_cases z:q j<0
   ·rw[decide_eq_true z];rfl
   ·rw[decide_eq_false z,decide_eq_true ⋯];rfl
noncomputable def Qgs(Qat:Den)(QaZ:Den)(QbN:Den)(QaN:Den)(Q0:Den)(Qao:Den)(QS:Den)(x_need_place:List D->Option Str):DX:=(Qbm (Qo 2 (Qh 1 QS [] (Qa (Qh 1 Qao [] (Qa vv0 Qe)) Qe))) xNo (Qbm (Qo 3 (Qh 1 Q0 [] (Qa (Qr vv2 kk1) Qe))) xNo (Qbm (Qbs (Qh 2 QaN [] (Qa vv1 (Qa (QF (QX vv3) (.nm 1) [none,none] (QB (dOp gGt vv1 kk1)) vv1) Qe)))) (QcH 2 x_need_place (Qa vv1 (Qa (QF (QX vv3) (.nm 1) [none,none] (QB (dOp gGt vv1 kk1)) vv1) Qe))) (Qbm (Qo 4 (QE (QZ (Qad (Qa kk0 Qe)) (dOp Qax (dBf Q2 (Qa vv3 Qe)) (dBf Q2 (Qa vv1 Qe)))) vv1)) xNo (Qbm (QM (Qr (Qh 2 QbN [] (Qa vv0 (Qa (Qh 2 QaZ [] (Qa vv4 (Qa (Qh 1 Qat [] (Qa (Qr vv2 kk4) Qe)) Qe))) Qe))) kk0)) xNo xNo)))))
theorem QBw{dt dr dm dn du dl da:Den}{xn:List D->Option Str}(h2:ApF dn xn):ApF (Qx 5 (Qgq dt dr dm dn du dl da)) (Qee 5 (Qgs du dl da dn dm dt dr xn)):=Qwu (by unfold Qgq Qgs;repeat (first | exact Qd5 | exact Qdt | assumption | apply QeR | apply Qk0 | apply QpA | apply QfA | apply Qs9 | apply ap_ret))
def Qm2(dr:Den)(xd:List D->Option Str):Prop:=∀(m:Nat) (R L:Lpp) (n0:Nat) (Lf Rt Lb Rb:Mt2) (len:Mt1) (xs:List D),m<=8->Qbi m R L->QaS m n0 (Qs m (Qp R L)) Lf Rt Lb Rb len->Qhq dr m (Qs m (Qp R L)) Lf Rt Lb Rb len->Qfu (m-n0) (Qcr len n0) (.lst xs)->xd [QI m R L,.lst xs]=some "NoRow"
theorem Qsf{dt dr dm dn du dl da:Den}{xn:List D->Option Str}(ap:ApF dn xn)(ht:Qhc dt)(hm:Qjo dm)(hx:Qml xn):Qm2 dr (Qee 5 (Qgs du dl da dn dm dt dr xn)):=λm R L n0 Lf Rt Lb Rb len xs m8 hw nr re ho=>by
 have et:=ht m R L m8 hw;generalize Qs m (Qp R L)=T at *;refine QrI (Qme (Qz ((Qb1 (Qq (Ql (r:=⟨[QI m R L],false,[]⟩) rfl et rfl) (QL _)) re rfl).trans rfl) ?_));change Qdy _ [slF (QI m R L),slF (.lst xs),slF (.tup [Qc m m Lf,Qc m m (QaK len),Qc m m Rt,Qc m m Lb,Qc m m Rb]),none,none] _;refine Qme (Qz (Ql rfl (hm m len) rfl) ?_);rw[Qae];change Qdy _ [slF (QI m R L),slF (.lst xs),slF (.tup [Qc m m Lf,Qc m m (QaK len),Qc m m Rt,Qc m m Lb,Qc m m Rb]),slT (Qb m len),none] _;refine Qfz (QfA ap) (Qyg (Qq rfl (Qq (r:=reT (Qb (m-n0) (Qcr len n0))) ?_ (QL _))) rfl (hx _ _ _ ho));refine(QcC (List.range m) (QW rfl rfl) rfl λi hi=>⟨[none,slI (len i)],rfl,rfl,λ_=>⟨(reI (len i)),rfl,rfl,rfl⟩⟩).trans ?_;rw[Qfp nr.le nr.one nr.big,Zam];rfl
noncomputable def QeX(Qah:Den)(x_heap_at:List D->Option Str)(sub:Str->Str->Option Bool):DS:=(Qd (Qo 2 (dC (.bl false))) (Qd (QhE (Qd (Qbs (Qh 2 Qah [] (Qa vv0 (Qa vv1 Qe)))) Qm) (Qbm (Qbs (Qh 2 Qah [] (Qa vv0 (Qa vv1 Qe)))) (QcH 2 x_heap_at (Qa vv0 (Qa vv1 Qe))) xNo) sub [("NoRow",none,(Qd (Qo 2 (dC (.bl true))) Qm))]) (Qd (QM vv2) Qm)))
theorem Que{ds:Den}{xs:List D->Option Str}{sub:Str->Str->Option Bool}(ap:ApF ds xs)(w:sub "NoRow" "NoRow" =some true):∀m R L a,xs [QI m R L,.lst a]=some "NoRow" ->Qx 3 (QeX ds xs sub) [QI m R L,.lst a]=slT (.bl true):=λm R L a hx=>by
 refine QR ?_;refine rsa rfl ?_;refine run_seq (Qvs (QeR (QfA ap) Qd5) (Qtm ap rfl rfl hx) w ?_);refine run_seq (Qz rfl (Qt ?_));rw[Qae];exact Qy rfl ⟨rfl,rfl⟩
structure Qwz (sub:Str->Str->Option Bool):Prop where
 gh:sub "NoRow" "HeapError" =some true
 gg:sub "NoRow" "NoRow" =some true
 gv:sub "NoRow" "ValueError" =some true
 gr:sub "NoRow" "NoHeap" =some false
 gn:sub "NoRow" "NoNet" =some false
 gt:sub "NoRow" "NoRings" =some false
noncomputable def QeW(Qah:Den)(x_heap_at:List D->Option Str)(sub:Str->Str->Option Bool):DS:=(Qd (Qo 2 (dC (.bl false))) (Qd (QhE (Qd (Qbs (Qh 2 Qah [] (Qa vv0 (Qa vv1 Qe)))) Qm) (Qbm (Qbs (Qh 2 Qah [] (Qa vv0 (Qa vv1 Qe)))) (QcH 2 x_heap_at (Qa vv0 (Qa vv1 Qe))) xNo) sub [("HeapError",some 3,(Qd (Qo 2 (Qca (QgA sub ["NoRow"] vv3) (QgA sub ["ValueError"] vv3))) (Qd (Qo 2 (Qca vv2 (Qca (QhZ (QgA sub ["NoHeap"] vv3)) (Qca (QhZ (QgA sub ["NoNet"] vv3)) (QhZ (QgA sub ["NoRings"] vv3)))))) Qm)))]) (Qd (QM vv2) Qm)))
theorem Qtu{ds:Den}{xs:List D->Option Str}{sub:Str->Str->Option Bool}(ap:ApF ds xs)(w:Qwz sub):∀m R L a,xs [QI m R L,.lst a]=some "NoRow" ->Qx 4 (QeW ds xs sub) [QI m R L,.lst a]=slT (.bl true):=λm R L a hx=>by
 refine QR ?_;refine rsa rfl ?_;refine run_seq (Qvk (QeR (QfA ap) Qd5) (Qtm ap rfl rfl hx) w.gh ?_);refine rsa (Qjp (Qi2 rfl (any_cons w.gg rfl)) (Qi2 rfl (any_cons w.gv rfl))) ?_;refine run_seq (Qz (Qjp rfl (Qjp (Qmg (Qi2 rfl (any_cons w.gr rfl))) (Qjp (Qmg (Qi2 rfl (any_cons w.gn rfl))) (Qmg (Qi2 rfl (any_cons w.gt rfl)))))) (Qt ?_));rw[Qae];exact Qy rfl ⟨rfl,rfl⟩
theorem QvG{fa:DE}{U:En}{ra:HS.R}{m:Nat}{f:Mt1}(ha:fa U=some ra)(ea:ra.d=Qb m f):dOp gEq fa (Qad Qe) U=some (reT (.bl (decide (m=0)))):=by
 refine(Qzd ha rfl (by rw[ea];exact QdH 7 _ _) rfl).trans ?_;rw[ea];show some (HS.R.mk (.bl (deq (Qb m f) (Qb 0 f))) true [])=_;rw[Qv6];cases m with
 | zero=>rfl
 | succ m=>simp[Zbp]
noncomputable def QcR:DS:=(Qd (sIf (bOr (QB (dOp gEq vv0 (Qad Qe))) (QB (dOp gEq (dOp Q9 vv2 kk4) kk0))) (Qd (QM (QE vv0 (Qad (Qa kk0 Qe)))) Qm) Qm) (Qd (Qo 3 (dOp Q9 (dOp Qa4 vv2 kk4) (dBf Q2 (Qa vv0 Qe)))) (Qd (Qo 4 (dOp Q9 (dOp Qa4 vv2 QyK) Qnm)) (Qd (sIf (QB (dOp gEq (dOp Q9 vv2 kk4) kk1)) (Qd (QM (QE (QbX vv0 Qa9 (Qba vv3)) (QbX vv0 (Qba (QE vv3 kk1)) Qa9))) Qm) Qm) (Qd (sIf (QB (dOp gEq (dOp Q9 vv2 kk4) kk2)) (Qd (QM (QE (QE (QbX vv0 Qa9 (Qba vv3)) (Qad (Qa (dOp Qax (Qh6 kk1) vv4) Qe))) (QbX vv0 (Qba (QE vv3 kk1)) Qa9))) Qm) Qm) (Qd (QM (QE (QE (QbX vv0 Qa9 (Qba vv3)) (Qad (Qa (QE (Qr vv1 vv3) (QZ vv4 (dOp Q9 vv4 kk2))) Qe))) (QbX vv0 (Qba (QE vv3 kk1)) Qa9))) Qm))))))
def Qnb(d:Den):Prop:=∀(r:Nat) (p l:Mt1) (c:Int),r<=8->∃xs,d [Qb r p,Qb r l,.int c]=some (.lst xs,true)/\Qfu r l (.lst xs)
theorem Qws:Qnb (Qx 5 QcR):=λr p l c r8=>by
 have key:Run QcR [slF (Qb r p),slF (Qb r l),slI c,none,none] (Rt λd fr=>fr=true/\∃xs,d= .lst xs/\Qfu r l d):=by
  have rows:∀{n:Nat}{f:Mt1},n≠r->∃xs,Qb n f= .lst xs/\Qfu r l (Qb n f):=λ{n f} h=>⟨_,rfl,.inl ⟨_,rfl,by simpa using h⟩⟩;refine QC (QU (QbA (QH (QvG rfl rfl) rfl) (QH (QaY (Q7 rfl rfl (Qbo _ _) rfl (by decide)) rfl (Qbo _ _) rfl) rfl)) (λ_=>?_) (λhb=>Qt ?_))
  ·refine QC (Qbg (QfJ rfl rfl (Qbo _ _) ⋯) ?_);exact⟨rfl,rows ⋯⟩
  have r0:0<r:=Nat.pos_of_ne_zero λz=>by rw[decide_eq_true z]at hb;cases hb
  obtain⟨i,ei⟩:∃i:Nat,c / 4 % (r:Int)=i:=⟨(c / 4 % (r:Int)).toNat,by have:=ZA (c / 4) (by omega:(r:Int)≠0);omega⟩;have hi:i<r:=by have:=Zz (c / 4) (by omega:(0:Int)<r);omega
  obtain⟨a,ea⟩:∃a,a=c / 20 % 1000003:=⟨_,rfl⟩;have a0:0<=a:=ea▸ZA _ (by decide);have a1:a<1000003:=ea▸Zz _ (by decide);refine rsa ((Q7 (Qhf rfl rfl (Qbo _ _) rfl (by decide) (by decide)) rfl (QbO rfl rfl) rfl ⋯).trans (by rw[ei])) ?_;refine rsa (d:= .int a) ((Q7 (Qhf rfl rfl (Qbo _ _) rfl (by decide) (by decide)) rfl (Qbo _ _) rfl (by decide)).trans (by rw[ea])) ?_;change Run _ [slF (Qb r p),slF (Qb r l),slI c,slI i,slI a] _;have put:∀{v:Int},¬(0<=v/\v<l i)->∃xs,Qb r (up p i v)= .lst xs/\Qfu r l (Qb r (up p i v)):=λ{v} h=>⟨_,rfl,.inr ⟨_,i,rfl,hi,by rw[Qcz,if_pos rfl];exact h⟩⟩;refine QC (QU (QH (QaY (Q7 rfl rfl (Qbo _ _) rfl (by decide)) rfl (Qbo _ _) rfl) rfl) (λ_=>?_) (λ_=>Qt ?_))
  ·refine QC (Qbg (QfR (Qjm rfl rfl rfl rfl ⋯) rfl (QkT (n:=i+1) rfl rfl (QY rfl rfl (Qbo _ _) rfl) rfl ⋯) rfl ⋯) ?_);exact⟨rfl,rows ⋯⟩
  refine QC (QU (QH (QaY (Q7 rfl rfl (Qbo _ _) rfl (by decide)) rfl (Qbo _ _) rfl) rfl) (λ_=>?_) (λ_=>Qt ?_))
  ·refine QC (Qbg (Qum rfl rfl rfl (QcA rfl rfl rfl rfl) hi ⋯) ?_);exact⟨rfl,put ⋯⟩
  have o1:=ZA a (by decide:(2:Int)≠0);refine Qy (Qum rfl rfl rfl (QY (Q6 rfl rfl rfl rfl hi) rfl (Q5 rfl rfl (Q7 rfl rfl (Qbo _ _) rfl (by decide)) rfl (QbP ⋯)) rfl) hi ⋯) ?_;exact⟨rfl,put (by have:=Zaw a0 o1;omega)⟩
 obtain⟨o,h1,h2⟩:=key;cases o with
 | rt d fr=>
  obtain⟨h3,xs,rfl,h4⟩:=h2;subst h3;exact⟨xs,by show Option.bind (QcR (Qau 5 [Qb r p,Qb r l,.int c])) outD=_;rw[show Qau 5 [Qb r p,Qb r l,.int c]=[slF (Qb r p),slF (Qb r l),slI c,none,none]from rfl,h1];rfl,h4⟩
 | _=>exact h2.elim
noncomputable def QlC(Qah:Den)(QaU:Den)(Qd6:Den)(QbG:Den):DS:=(Qd (Qo 3 (Qh 2 Qah [] (Qa vv0 (Qa vv2 Qe)))) (Qd (sIf (bOr (Qcv (QB (Qh 2 QaU [] (Qa vv3 (Qa (Qr vv0 kk0) Qe))))) (Qcv (QB (Qh 2 Qd6 [] (Qa vv1 (Qa vv3 Qe)))))) (Qd (QM (dC (.bl false))) Qm) Qm) (Qd (QM (dOp gEq (Qh 2 QbG [] (Qa vv0 (Qa vv3 Qe))) vv2)) Qm)))
def QkW(dr d:Den):Prop:=∀(m:Nat) (R L:Lpp) (n0:Nat) (Lf Rt Lb Rb:Mt2) (len p:Mt1),0<m->m<=8->Qbi m R L->QaS m n0 (Qs m (Qp R L)) Lf Rt Lb Rb len->Qhq dr m (Qs m (Qp R L)) Lf Rt Lb Rb len->(∀j,j<m-n0->0<=p j/\p j<Qcr len n0 j)->d [QI m R L,Qc m m (Qs m (Qp R L)),Qb (m-n0) p]=some (.bl true,true)
theorem QsF(hh:QhR dr dh)(hu:QlO du)(hc:Qi7 dc)(hp:QhY dr dp):QkW dr (Qx 4 (QlC dh du dc dp)):=λm R L n0 Lf Rt Lb Rb len p m0 m8 hw nr re hr=>by
 have tp:=hw.tp;obtain⟨k,eh,rk⟩:=hh m R L n0 Lf Rt Lb Rb len p m0 m8 hw nr re hr;have bx:=QxC tp rk.stb rk.nn;have px:=hp m R L n0 Lf Rt Lb Rb len (Qi m (Qs m (Qp R L)) (Qb4 m n0 Rb p) k) m8 hw nr re λi hi=>QhB (by
  have:=bx i hi;have h:(Qi m (Qs m (Qp R L)) (Qb4 m n0 Rb p) k i).natAbs<=2^100:= ⋯
  exact ZT h (Nat.pow_lt_pow_right (by decide) (by decide)))
 have same:∀j,j<m-n0->QaI m n0 Rt len (Qi m (Qs m (Qp R L)) (Qb4 m n0 Rb p) k) j=p j:=λj hj=>(QnW nr _ _ j hj).trans (Qlh nr hr j hj);rw[Qc3 same]at px;obtain⟨⟨v,h1,h2⟩,h3,h4⟩:=rk;have ec:=hc m _ _ v m0 m8 tp h1 h2 h3 h4;have eu:=hu m (Qi m (Qs m (Qp R L)) (Qb4 m n0 Rb p) k);generalize Qs m (Qp R L)=T at *;generalize Qi m T (Qb4 m n0 Rb p) k=x at *;refine QR ?_;refine rsa (Ql rfl eh rfl) ?_;change Run _ [slF (QI m R L),slF (Qc m m T),slF (Qb (m-n0) p),slT (Qb m x)] _;refine QC (QU (QbA (QbQ (QH (Ql rfl eu rfl) rfl)) (QbQ (QH (Ql rfl ec rfl) rfl))) (λh=>by cases h) (λ_=>Qt ?_));exact Qy (Qjg (Ql rfl px rfl) rfl rfl rfl (QdH 7 _ _)) ⟨rfl,rfl⟩
noncomputable def QnE(QdR:Den)(QcU:Den)(Qcg:Den)(QaU:Den)(QaF:Den)(Qce:Den)(Qci:Den)(Qbx:Den)(Qdh:Den)(QcD:Den)(QdL:Den)(QbN:Den)(QbG:Den)(Qah:Den):DS:=(Qd (Qo 1 (Qh 3 QdR [] (Qa vv0 (Qa kk4 (Qa kk7 Qe))))) (Qd (Qo 2 (Qh 1 QcU [] (Qa vv1 Qe))) (Qd (Qo 3 (Qh 1 Qcg [] (Qa vv1 Qe))) (Qd (sIf (bOr (Qcv (QB (Qh 2 QaU [] (Qa vv3 (Qa (dBf Q2 (Qa vv3 Qe)) Qe))))) (QB (dOp gGt (dBf Q2 (Qa (QF (QX vv3) (.nm 1) [none,none] (QB (dOp gLt vv1 kk2)) vv1) Qe)) kk0))) (Qd (QM (dC (.bl false))) Qm) Qm) (Qd (Qo 4 (QF (QaH (dBf Q2 (Qa vv3 Qe))) (.nm 1) [none,none,some 3,some 0] QN (dOp Q9 (QZ (Qh 2 QaF [] (Qa vv3 (Qa (QE QyK vv1) Qe))) QjA) (Qr vv2 vv1)))) (Qd (Qo 5 (Qh 3 Qce [] (Qa vv4 (Qa vv3 (Qa (Qh 2 QaF [] (Qa vv0 (Qa QCt Qe))) Qe))))) (Qd (sIf (bOr (Qcv (QB (Qh 2 Qci [] (Qa vv1 (Qa vv5 Qe))))) (Qcv (QB (Qh 2 Qbx [] (Qa vv1 (Qa vv5 Qe)))))) (Qd (QM (dC (.bl false))) Qm) Qm) (Qd (Qo 6 (Qad (Qa (Qh 1 Qdh [] (Qa vv1 Qe)) (Qa (dList (Qa vv4 Qe)) Qe)))) (Qd (sIf (bOr (Qcv (QB (Qh 3 QcD [] (Qa (Qr vv6 kk0) (Qa vv2 (Qa (Qr vv6 kk1) Qe)))))) (QB (dOp gNe vv6 (Qad (Qa vv1 (Qa vv4 Qe)))))) (Qd (QM (dC (.bl false))) Qm) Qm) (Qd (Qo 7 (Qh 4 QdL [] (Qa vv0 (Qa (Qr vv1 kk0) (Qa (dOp Qry QCv QzG) (Qa Qxi Qe)))))) (Qd (Qo 8 (Qr (Qh 2 QbN [] (Qa vv1 (Qa vv7 Qe))) kk0)) (Qd (Qo 9 (Qh 2 QbG [] (Qa vv1 (Qa vv7 Qe)))) (Qd (Qo 10 (Qh 2 Qah [] (Qa vv1 (Qa vv9 Qe)))) (Qd (sIf (bOr (Qcv (QB (Qh 2 QaU [] (Qa Qnf (Qa (Qr vv1 kk0) Qe))))) (QB (dOp gNe Qnf vv8))) (Qd (QM (dC (.bl false))) Qm) Qm) (Qd (Qo 6 (dList (Qa vv9 Qe))) (Qd (QgD 9 Qap kk0) (Qd (sIf (bOr (Qcv (QB (Qh 2 Qbx [] (Qa vv1 (Qa vv9 Qe))))) (QB (dOp gNe Qnf vv8))) (Qd (QM (dC (.bl false))) Qm) Qm) (Qd (QgD 10 Qap kk0) (Qd (QM (Qca (dOp gEq (Qh 2 Qah [] (Qa vv1 (Qa vv6 Qe))) vv8) (Qh 3 QcD [] (Qa vv1 (Qa vv2 (Qa vv4 Qe)))))) Qm)))))))))))))))))))
set_option maxHeartbeats 0 in
theorem Qzi(hs:Qjk dr)(hn:Qm9 dn)(ht:TabsOk dt)(hl:Qpn dr dl)(hu:QlO du)(hc:QjJ dc)(hsp:Qnb dsp)(hx:Qm2 dr xh)(hby:∀m R L a,xh [QI m R L,.lst a]=some "NoRow" ->dby [QI m R L,.lst a]=slT (.bl true))(href:∀m R L a,xh [QI m R L,.lst a]=some "NoRow" ->dref [QI m R L,.lst a]=slT (.bl true))(hcp:Qmi dcp)(hg:QkW dr dg)(hrw:Qmk drw)(ha:QlZ da)(hp:QhY dr dp)(hh:QhR dr dh)(ns:List Int)(hns:ns.length<=63)(hbits:∀k,QaA (ns.getD k 0)):
  Qx 11 (QnE dn dt dl du dc dsp dby dref dcp dg drw da dp dh) [.lst (ns.map .int)]=slT (.bl true):=by
 obtain⟨m,R,L,en,m0,m4,hw⟩:=hn ns 4 7 hns hbits (by decide) (by decide) (by decide);have m8:m<=8:= ⋯
 have gd:=hw.good;have tp:=hw.tp;have et:=ht m R L m0 ⋯ ⋯ gd.1 gd.2.1;obtain⟨F,hF⟩:=hc ns hns hbits;obtain⟨n0,Lf,Rt,Lb,Rb,len,nr,re⟩:=Qti hs m0 m8 hw;have el:=hl m R L n0 Lf Rt Lb Rb len m8 hw nr re;have eu:=hu (m-n0) (Qcr len n0);have le:=nr.le;have big:∀j,j<m-n0->1<Qcr len n0 j:=λj hj=>nr.big (n0+j) ⋯ ⋯;obtain⟨p,hp0⟩:∃p:Nat->Int,p=λj=>F (20+j)*48271 % Qcr len n0 j:=⟨_,rfl⟩;have rp:∀j,j<m-n0->0<=p j/\p j<Qcr len n0 j:=λj hj=>by
  have:=big j hj;rw[hp0];exact⟨ZA _ ⋯,Zz _ ⋯⟩
 obtain⟨xs,exs,no⟩:=hsp (m-n0) p (Qcr len n0) (F 30) ⋯;have bad:=hx m R L n0 Lf Rt Lb Rb len xs m8 hw nr re no;have e1:=hby _ _ _ _ bad;have e2:=href _ _ _ _ bad;have ecp:=hcp m R L;have egd:=hg m R L n0 Lf Rt Lb Rb len p m0 m8 hw nr re rp;obtain⟨f,ef,bf⟩:=hrw ns m (10^17) 16807 hns m0 m8 (by decide) (by decide) (by decide) (by decide);obtain⟨k,v,ea,a1,a2,a3,a4⟩:=ha m R L f m0 m8 hw λj hj=>by
  have:=bf j hj;have h:(f j).natAbs<=2^60:= ⋯
  exact Zt h (Zq (by decide) (by decide))
 have epl:=hp m R L n0 Lf Rt Lb Rb len f m8 hw nr re λj hj=>by
  have:=bf j hj;have h:(f j).natAbs<=2^60:= ⋯
  exact QhB (ZT h (Nat.pow_lt_pow_right (by decide) (by decide)))
 obtain⟨k2,eh,r2⟩:=hh m R L n0 Lf Rt Lb Rb len (QaI m n0 Rt len f) m0 m8 hw nr re (QnR nr f);rw[Qc3 (QxT nr tp ⟨⟨v,a1,a2⟩,a3,a4⟩ r2)]at eh;have bad2:=href _ _ _ _ (hx m R L n0 Lf Rt Lb Rb len ((List.range (m-n0+1)).map λj=> .int (up (QaI m n0 Rt len f) (m-n0) 0 j)) m8 hw nr re (.inl ⟨_,rfl,by simp⟩));have eu2:=hu m (Qi m (Qs m (Qp R L)) f k);generalize Qs m (Qp R L)=T at *;generalize Qi m T f k=x at *;generalize QaI m n0 Rt len f=q at *;have sH:(D.lst [QI m R L,Qb (m-n0) p]).sim 8=true:=by
  simp only[D.sim,List.all_cons,List.all_nil,Zcr,Zm];refine⟨?_,QdH 6 (m-n0) p⟩;unfold QI;simp only[D.sim,List.all_cons,List.all_nil,Zcr,Bool.true_and,Zm];exact⟨QnH 4 R,QnH 4 L⟩
 generalize hr:m-n0=r at *;generalize Qcr len n0=l at *;refine QR ?_;refine rsa (Ql rfl en rfl) ?_;refine rsa (Ql rfl et rfl) ?_;refine rsa (Ql rfl el rfl) ?_;change Run _ [slF (.lst (ns.map .int)),slT (QI m R L),slT (Qc m m T),slT (Qb r l),none,none,none,none,none,none,none] _;refine QC (QU (QbA (QbQ (b:=true) (QH (Ql (Qq rfl (Qq (QbO rfl rfl) (QL _))) eu rfl) rfl)) (QH (Qag (Qcx (r:=reT (.lst [])) ((QcC (List.range r) (QW rfl rfl) rfl λi hi=>⟨[none,slI (l i)],rfl,rfl,λ_=>⟨(reI (l i)),rfl,rfl,rfl⟩⟩).trans ?_) rfl) (Qbo _ _) rfl) rfl)) (λh=>by cases h) (λ_=>Qt ?_))
 ·rw[Zcl.mpr λj hj=>by have:=big j (Zf.mp hj);simp;omega];rfl
 refine run_seq (Qz ((QA (List.range r) (QaR (QbO rfl rfl) rfl ⋯) rfl λj hj=>⟨[none,slI j,slF (Qb r l),slF (.lst (ns.map .int))],rfl,reI (p j),?_,rfl,rfl⟩)) ?_)
 ·have hj':=Zf.mp hj;have:=big j hj';rw[hp0];exact Q7 (Q5 (Ql (Qq rfl (Qq (QY rfl rfl rfl rfl) (QL _))) (hF (20+j) ⋯).1 rfl) rfl (Qbo _ _) rfl (Qcd (by decide))) rfl (Q6 rfl rfl rfl rfl hj') rfl ⋯
 rw[Qae];change Run _ [slF (.lst (ns.map .int)),slT (QI m R L),slT (Qc m m T),slT (Qb r l),slT (Qb r p),none,none,none,none,none,none] _;refine rsa (Ql (Qq rfl (Qq rfl (Qq (Ql rfl (hF 30 (by decide)).1 rfl) (QL _)))) exs rfl) ?_;change Run _ [slF (.lst (ns.map .int)),slT (QI m R L),slT (Qc m m T),slT (Qb r l),slT (Qb r p),slT (.lst xs),none,none,none,none,none] _;refine QC (QU (QbA (QbQ (QH (Ql rfl e1 rfl) rfl)) (QbQ (QH (Ql rfl e2 rfl) rfl))) (λh=>by cases h) (λ_=>Qt ?_));refine run_seq (Qz (QoP (Qq (Ql rfl ecp rfl) (Qq (Qf1 rfl rfl) (QL _))) (Zbb rfl)) ?_);change Run _ [slF (.lst (ns.map .int)),slT (QI m R L),slT (Qc m m T),slT (Qb r l),slT (Qb r p),slT (.lst xs),slT (.lst [QI m R L,Qb r p]),none,none,none,none] _;refine QC (QU (QbA (QbQ (b:=true) (QH (Ql rfl egd rfl) rfl)) (QH (QpB rfl rfl rfl rfl sH) rfl)) (λh=>by cases h) (λ_=>Qt ?_));refine rsa (Ql (Qq rfl (Qq rfl (Qq (Qx7 (by decide) (by decide)) (Qq rfl (QL _))))) ef rfl) ?_;refine run_seq (Qz ((QqQ (Ql (r:=⟨[QI m R L,Qb m f],true,[1,7]⟩) rfl ea rfl) rfl).1.trans rfl) ?_);change Run _ [slF (.lst (ns.map .int)),slT (QI m R L),slT (Qc m m T),slT (Qb r l),slT (Qb r p),slT (.lst xs),slT (.lst [QI m R L,Qb r p]),slT (Qb m f),slT (Qb m x),none,none] _;refine rsa (Ql rfl epl rfl) ?_;refine rsa (Ql rfl eh rfl) ?_;change Run _ [slF (.lst (ns.map .int)),slT (QI m R L),slT (Qc m m T),slT (Qb r l),slT (Qb r p),slT (.lst xs),slT (.lst [QI m R L,Qb r p]),slT (Qb m f),slT (Qb m x),slT (Qb r q),slT (Qb m x)] _;refine QC (QU (QbA (QbQ (QH (Ql rfl eu2 rfl) rfl)) (QH (QpB rfl rfl rfl rfl (QdH 7 _ _)) rfl)) (λh=>by cases h) (λ_=>Qt ?_));refine rsa (Qf1 rfl rfl) ?_;refine run_seq (Qp3 rfl (Qbo _ _) rfl ⋯ ?_);change Run _ [slF (.lst (ns.map .int)),slT (QI m R L),slT (Qc m m T),slT (Qb r l),slT (Qb r p),slT (.lst xs),slT (Qb r q),slT (Qb m f),slT (Qb m x),slT (Qb (r+1) (up q r 0)),slT (Qb m x)] _;refine QC (QU (QbA (QbQ (QH (Ql rfl bad2 rfl) rfl)) (QH (QpB rfl rfl rfl rfl (QdH 7 _ _)) rfl)) (λh=>by cases h) (λ_=>Qt ?_));refine run_seq (Qp3 rfl (Qbo _ _) rfl ⋯ ?_);exact Qy (QlI (Qjg (Ql rfl eh rfl) rfl rfl rfl (QdH 7 _ _)) (Ql rfl egd rfl)) ⟨rfl,rfl⟩
end HS
theorem HS.some_of{α:Type}{x:Option α}{d:α}(h:x.isSome=true):x=some (x.getD d):=by cases x with | none=>cases h | some a=>rfl
namespace Law
open PySem L2 HS
noncomputable section
def top(i:Nat):Stmt:=PySem.Challenge.pw_heapstill_k46_heaps_at_places.main.body.getD i (.Pass ⟨0,0,0,0⟩)
abbrev cst:List (Str×Int):=[]
abbrev Sc(s:Stmt)(P:List Str):Prop:=Qb8 (namesOf (Qv s)) P (Qv s)
theorem scM{s:Stmt}{P:List Str}(h1:(Qv s).kind= .function)(h2:(Qv s).isCoroutine=false)(h3:(Qv s).isGenerator=false)(h4:(namesOf (Qv s)).Nodup/\(namesOf (Qv s)).take P.length=P/\(∀x∈P,(Qv s).names.lookup x=some .local ∨(Qv s).names.lookup x=some .cell)/\∀y∈(Qv s).names,y.2≠ .free):Sc s P:=⟨h1,h2,h3,h4.1,h4.2.1,h4.2.2.1,h4.2.2.2⟩
noncomputable abbrev Cp(s:Stmt)(Γ:List (Str×FnR)):Option DS:=QaD 60 (QfY s Γ cst) (Qa5 s)
noncomputable abbrev Dn(s:Stmt)(g:DS):Den:=Qx (namesOf (Qv s)).length g
noncomputable abbrev Gc(x:Str)(n:Nat)(d:Den)(Γ:List (Str×FnR)):List (Str×FnR):=(x,⟨n,[],d⟩)::Γ
structure Kn (x:Str) (s:Stmt) (P:List Str) (Γ:List (Str×FnR)) (g:DS):Prop where
 a:Sc s P
 b:QbZ x s P
 c:Cp s Γ=some g
theorem eqQ(P:Den->Prop)(d:Den){e:Den}(h:P e)(q:d=e:=by kernel_rfl):P d:=q▸h
theorem kc{Pr:Program}{w:World}{K:PySem.W.Frag}{mg:Str->Option Value}{h:Heap}{x:Str}{s:Stmt}{P:List Str}{k:Nat}{Γ:List (Str×FnR)}{g:DS}(X:K.In h)(G:h.Ns mainGlobals mg)(M:QeG mg cst)(t:∀b:Heap,Qb6 Pr w K mg b k Γ)(q:Kn x s P Γ g)(F:Fact K x s)(b:Heap):Qb6 Pr w K mg b (k+1) ((x,⟨P.length,[],Dn s g⟩)::Γ):=(t b).cons (Qkk X G F q.a q.b M (t b) q.c)
local macro_rules | `(tactic| trivial)=> `(tactic| (refine⟨scM rfl rfl rfl (by decide+kernel),λ_ _ _ _ _ _=>?_,some_of (by decide+kernel)⟩;repeat' first | exact l0 rfl | refine lc λ_=>?_))
noncomputable abbrev cls:List Str:=["NoRow"]
noncomputable abbrev QCd:List (Str×List (Str×Bool)):=[("NoRow",[("NoRow",true),("HeapError",true),("ValueError",true),("NoHeap",false),("NoNet",false),("NoRings",false)])]
noncomputable abbrev sub:=QwR QCd
noncomputable abbrev CpT(s:Stmt)(Γ:List (Str×FnR))(Γx:List (Str×(Nat×(List D->Option Str))))(hΓ:List (Str×FnR)):Option DS:=QaD 60 (thT 60 s Γ cst ⟨Γx,cls⟩ sub hΓ) (Qa5 s)
noncomputable abbrev CpX(s:Stmt)(Γ:List (Str×FnR))(Γx:List (Str×(Nat×(List D->Option Str)))):Option DX:=QeV 60 (QfY s Γ cst) ⟨Γx,cls⟩ (Qa5 s)
abbrev QgG:=top 7
def QjV:=(Cp QgG []).getD Qw
theorem Qqs:Kn "need_rows" QgG ["net","rows"] [] QjV:=by trivial
abbrev QaW:=Dn QgG QjV
abbrev QgJ:=Gc "need_rows" 2 QaW []
abbrev Qgb:=top 8
def QiW:=(Cp Qgb QgJ).getD Qw
theorem QoQ:Kn "need_heaps" Qgb ["net","heaps"] QgJ QiW:=by trivial
abbrev Qd1:=Dn Qgb QiW
abbrev Qf7:=Gc "need_heaps" 2 Qd1 QgJ
abbrev Qkf:=top 10
def Qps:=(Cp Qkf Qf7).getD Qw
theorem QuZ:Kn "column" Qkf ["table","at"] Qf7 Qps:=by trivial
abbrev Qcn:=Dn Qkf Qps
abbrev QkB:=Gc "column" 2 Qcn Qf7
abbrev Qkb:=top 11
def QoF:=(Cp Qkb QkB).getD Qw
theorem Qvc:Kn "turned" Qkb ["table"] QkB QoF:=by trivial
abbrev Qat:=Dn Qkb QoF
abbrev QkM:=Gc "turned" 1 Qat QkB
abbrev Qh0:=top 12
def QlX:=(Cp Qh0 QkM).getD Qw
theorem Qru:Kn "unit_row" Qh0 ["size","at"] QkM QlX:=by trivial
abbrev Qc7:=Dn Qh0 QlX
abbrev QhN:=Gc "unit_row" 2 Qc7 QkM
abbrev QfK:=top 13
def QiE:=(Cp QfK QhN).getD Qw
theorem Qo4:Kn "unit_table" QfK ["size"] QhN QiE:=by trivial
abbrev QaQ:=Dn QfK QiE
abbrev Qgc:=Gc "unit_table" 1 QaQ QhN
abbrev Qh2:=top 14
def QlA:=(Cp Qh2 Qgc).getD Qw
theorem QrB:Kn "opposite" Qh2 ["line"] Qgc QlA:=by trivial
abbrev Qc5:=Dn Qh2 QlA
abbrev QhT:=Gc "opposite" 1 Qc5 Qgc
abbrev QkA:=top 15
def Qou:=(Cp QkA QhT).getD Qw
theorem Qvi:Kn "scalar" QkA ["one","other"] QhT Qou:=by trivial
abbrev QhI:=Dn QkA Qou
abbrev Qkl:=Gc "scalar" 2 QhI QhT
abbrev QiN:=top 17
def Qnp:=(Cp QiN Qkl).getD Qw
theorem QsJ:Kn "line_by" QiN ["line","columns"] Qkl Qnp:=by trivial
abbrev QaZ:=Dn QiN Qnp
abbrev Qi9:=Gc "line_by" 2 QaZ Qkl
abbrev Qiu:=top 16
def QnM:=(Cp Qiu Qi9).getD Qw
theorem QtY:Kn "product" Qiu ["one","other"] Qi9 QnM:=by trivial
abbrev Qbv:=Dn Qiu QnM
abbrev QiH:=Gc "product" 2 Qbv Qi9
abbrev QkU:=top 18
def Qpx:=(Cp QkU QiH).getD Qw
theorem QuE:Kn "common" QkU ["numbers"] QiH Qpx:=by trivial
abbrev Qdv:=Dn QkU Qpx
abbrev QkN:=Gc "common" 1 Qdv QiH
abbrev QfI:=top 20
def QiI:=(Cp QfI QkN).getD Qw
theorem QpL:Kn "with_pivot" QfI ["lines","at"] QkN QiI:=by trivial
abbrev QdQ:=Dn QfI QiI
abbrev Qf9:=Gc "with_pivot" 2 QdQ QkN
abbrev QgQ:=top 21
def QjZ:=(Cp QgQ Qf9).getD Qw
theorem Qqp:Kn "taken_off" QgQ ["line","pivot_line","at","before"] Qf9 QjZ:=by trivial
abbrev QeP:=Dn QgQ QjZ
abbrev Qgx:=Gc "taken_off" 4 QeP Qf9
abbrev QiT:=top 19
def QnU:=(Cp QiT Qgx).getD Qw
theorem Qsy:Kn "cleared" QiT ["lines"] Qgx QnU:=by trivial
abbrev QdE:=Dn QiT QnU
abbrev QiK:=Gc "cleared" 1 QdE Qgx
abbrev Qd4:=top 22
def Qgk:=(Cp Qd4 QiK).getD Qw
theorem Qk1:Kn "cleared_whole" Qd4 ["lines"] QiK Qgk:=by trivial
abbrev QaL:=Dn Qd4 Qgk
abbrev QdN:=Gc "cleared_whole" 1 QaL QiK
abbrev Qe9:=top 23
def Qil:=(Cp Qe9 QdN).getD Qw
theorem Qoa:Kn "turned_back" Qe9 ["table"] QdN Qil:=by trivial
abbrev Qdk:=Dn Qe9 Qil
abbrev Qfb:=Gc "turned_back" 1 Qdk QdN
abbrev QfQ:=top 24
def Qiq:=(Cp QfQ Qfb).getD Qw
theorem QpC:Kn "shared_out" QfQ ["table","row"] Qfb Qiq:=by trivial
abbrev Qea:=Dn QfQ Qiq
abbrev QfT:=Gc "shared_out" 2 Qea Qfb
abbrev QmE:=top 26
def QqK:=(Cp QmE QfT).getD Qw
theorem QxM:Kn "steps" QmE ["roads","lanes"] QfT QqK:=by trivial
abbrev QdB:=Dn QmE QqK
abbrev Qmm:=Gc "steps" 2 QdB QfT
abbrev Qge:=top 27
def QiO:=(Cp Qge Qmm).getD Qw
theorem Qp1:Kn "toll_table" Qge ["net"] Qmm QiO:=by trivial
abbrev QaE:=Dn Qge QiO
abbrev QfG:=Gc "toll_table" 1 QaE Qmm
abbrev Qg5:=top 28
def Qj2:=(Cp Qg5 QfG).getD Qw
theorem Qp8:Kn "span_list" Qg5 ["net"] QfG Qj2:=by trivial
abbrev QeM:=Dn Qg5 Qj2
abbrev QgP:=Gc "span_list" 1 QeM QfG
abbrev Ql5:=top 29
def QqA:=(Cp Ql5 QgP).getD Qw
theorem Qyu:Kn "after" Ql5 ["net","row","counts"] QgP QqA:=by trivial
abbrev QjL:=Dn Ql5 QqA
abbrev Qmz:=Gc "after" 3 QjL QgP
abbrev QgB:=top 31
def Qj8:=(Cp QgB Qmz).getD Qw
theorem Qqu:Kn "net_table" QgB ["net"] Qmz Qj8:=by trivial
abbrev Qao:=Dn QgB Qj8
abbrev QgX:=Gc "net_table" 1 Qao Qmz
abbrev Qg4:=top 38
def QjS:=(Cp Qg4 QgX).getD Qw
theorem Qqb:Kn "in_common" Qg4 ["lines","number"] QgX QjS:=by trivial
abbrev Qb2:=Dn Qg4 QjS
abbrev Qg6:=Gc "in_common" 2 Qb2 QgX
abbrev QmA:=top 42
def Qq8:=(Cp QmA Qg6).getD Qw
theorem QxP:Kn "added" QmA ["factor","line","other_factor","other_line"] Qg6 Qq8:=by trivial
abbrev Qc1:=Dn QmA Qq8
abbrev QmI:=Gc "added" 4 Qc1 Qg6
abbrev QiP:=top 43
def QnO:=(Cp QiP QmI).getD Qw
theorem QsG:Kn "weighed" QiP ["one","other"] QmI QnO:=by trivial
abbrev Qgp:=Dn QiP QnO
abbrev Qi1:=Gc "weighed" 2 Qgp QmI
abbrev Qev:=top 41
def Qhm:=(Cp Qev Qi1).getD Qw
theorem Ql0:Kn "column_steps" Qev ["free","last"] Qi1 Qhm:=by trivial
abbrev Qdb:=Dn Qev Qhm
abbrev Qew:=Gc "column_steps" 2 Qdb Qi1
abbrev Qko:=top 37
def QoB:=(Cp Qko Qew).getD Qw
theorem Qu1:Kn "within" Qko ["line","length"] Qew QoB:=by trivial
abbrev Qey:=Dn Qko QoB
abbrev Qkj:=Gc "within" 2 Qey Qew
abbrev QmF:=top 40
def Qq1:=(Cp QmF Qkj).getD Qw
theorem Qx8:Kn "mixed" QmF ["one","other","length"] Qkj Qq1:=by trivial
abbrev QjI:=Dn QmF Qq1
abbrev Ql7:=Gc "mixed" 3 QjI Qkj
abbrev Qe5:=top 39
def Qim:=(Cp Qe5 Ql7).getD Qw
theorem Qn4:Kn "free_column" Qe5 ["lines","length"] Ql7 Qim:=by trivial
abbrev Qdl:=Dn Qe5 Qim
abbrev Qe8:=Gc "free_column" 2 Qdl Ql7
abbrev QkJ:=top 36
def Qo3:=(Cp QkJ Qe8).getD Qw
theorem Qvp:Kn "shared" QkJ ["line","number"] Qe8 Qo3:=by trivial
abbrev Qdr:=Dn QkJ Qo3
abbrev Qkx:=Gc "shared" 2 Qdr Qe8
abbrev Qem:=top 34
def Qht:=(Cp Qem Qkx).getD Qw
theorem QmJ:Kn "right_tables" Qem ["parts","whole"] Qkx Qht:=by trivial
abbrev QcZ:=Dn Qem Qht
abbrev Qez:=Gc "right_tables" 2 QcZ Qkx
abbrev QgH:=top 35
def QjP:=(Cp QgH Qez).getD Qw
theorem Qqt:Kn "by_number" QgH ["line","factor"] Qez QjP:=by trivial
abbrev QeN:=Dn QgH QjP
abbrev QgM:=Gc "by_number" 2 QeN Qez
abbrev Qe7:=top 33
def Qin:=(Cp Qe7 QgM).getD Qw
theorem Qn8:Kn "ring_tables" Qe7 ["table"] QgM Qin:=by trivial
abbrev QS:=Dn Qe7 Qin
abbrev Qfh:=Gc "ring_tables" 1 QS QgM
abbrev Qje:=top 46
def QnT:=(Cp Qje Qfh).getD Qw
theorem QtA:Kn "settled" Qje ["tolls","heap","counts"] Qfh QnT:=by trivial
abbrev Qgm:=Dn Qje QnT
abbrev Qi8:=Gc "settled" 3 Qgm Qfh
abbrev Qm0:=top 45
def Qrh:=(Cp Qm0 Qi8).getD Qw
theorem QyF:Kn "still" Qm0 ["net","heap"] Qi8 Qrh:=by trivial
abbrev Qhk:=Dn Qm0 Qrh
abbrev QmT:=Gc "still" 2 Qhk Qi8
abbrev Qe6:=top 49
def Qio:=(Cp Qe6 QmT).getD Qw
theorem Qn5:Kn "near_counts" Qe6 ["net","row"] QmT Qio:=by trivial
abbrev Qdj:=Dn Qe6 Qio
abbrev Qfc:=Gc "near_counts" 2 Qdj QmT
abbrev QdW:=top 50
def Qgi:=(Cp QdW Qfc).getD Qw
theorem QlK:Kn "doubled_spans" QdW ["net"] Qfc Qgi:=by trivial
abbrev QbT:=Dn QdW Qgi
abbrev Qd0:=Gc "doubled_spans" 1 QbT Qfc
abbrev s_again:=top 48
def QqM:=(Cp s_again Qd0).getD Qw
theorem Qyw:Kn "again" s_again ["net","row"] Qd0 QqM:=by trivial
abbrev QbN:=Dn s_again QqM
abbrev Qmu:=Gc "again" 2 QbN Qd0
abbrev Qds:=top 52
def QfU:=(Cp Qds Qmu).getD Qw
theorem QkV:Kn "middle_entries" Qds ["middle"] Qmu QfU:=by trivial
abbrev Q0:=Dn Qds QfU
abbrev Qdu:=Gc "middle_entries" 1 Q0 Qmu
abbrev Qeq:=top 53
def QhA:=(Cp Qeq Qdu).getD Qw
theorem Qnj:Kn "ring_lengths" Qeq ["net"] Qdu QhA:=by trivial
abbrev Qcg:=Dn Qeq QhA
abbrev Qet:=Gc "ring_lengths" 1 Qcg Qdu
abbrev QfL:=top 54
def QiS:=(Cp QfL Qet).getD Qw
theorem QoM:Kn "ring_place" QfL ["net","row"] Qet QiS:=by trivial
abbrev QbG:=Dn QfL QiS
abbrev QcW:=Gc "ring_place" 2 QbG Qet
abbrev Qbe:=top 56
theorem Qij:Sc Qbe ["place","lengths"]:=scM rfl rfl rfl (by decide+kernel)
theorem QiL:QbZ "need_place" Qbe ["place","lengths"]:=λ_ _ _ _ _ _=>lc λ_=>lc λ_=>l0 rfl
noncomputable def Qip:=(CpX Qbe QcW []).getD xNo
theorem Qn6:CpX Qbe QcW []=some Qip:=some_of (by decide+kernel)
noncomputable abbrev Qcw:=Qee (namesOf (Qv Qbe)).length Qip
noncomputable abbrev Qe3:List (Str×(Nat×(List D->Option Str))):=("need_place",(2,Qcw))::[]
def Qi3:=(Cp Qbe QcW).getD Qw
theorem QpZ:Cp Qbe QcW=some Qi3:=some_of (by decide+kernel)
abbrev QaN:=Dn Qbe Qi3
abbrev QcL:=Gc "need_place" 2 QaN QcW
abbrev Qck:=top 55
theorem Qlq:Sc Qck ["net","place"]:=scM rfl rfl rfl (by decide+kernel)
theorem QnV:QbZ "heap_at" Qck ["net","place"]:=λ_ _ _ _ _ _=>lc λ_=>lc λ_=>l0 rfl
noncomputable def Qlu:=(CpX Qck QcL Qe3).getD xNo
theorem Qrv:CpX Qck QcL Qe3=some Qlu:=some_of (by decide+kernel)
noncomputable abbrev QcX:=Qee (namesOf (Qv Qck)).length Qlu
noncomputable abbrev Qfq:List (Str×(Nat×(List D->Option Str))):=("heap_at",(2,QcX))::Qe3
def Qnt:=(Cp Qck QcL).getD Qw
theorem Qs5:Cp Qck QcL=some Qnt:=some_of (by decide+kernel)
abbrev Qah:=Dn Qck Qnt
abbrev Qjd:=Gc "heap_at" 2 Qah QcL
abbrev QgL:=top 58
def QjY:=(Cp QgL Qjd).getD Qw
theorem Qqq:Kn "_law_cell" QgL ["_law_script","_law_k"] Qjd QjY:=by trivial
abbrev QaF:=Dn QgL QjY
abbrev QgR:=Gc "_law_cell" 2 QaF Qjd
abbrev QfC:=top 59
def Qiz:=(Cp QfC QgR).getD Qw
theorem Qph:Kn "_law_whole" QfC ["_law_found"] QgR Qiz:=by trivial
abbrev QdS:=Dn QfC Qiz
abbrev QfN:=Gc "_law_whole" 1 QdS QgR
abbrev QeE:=top 60
def Qhv:=(Cp QeE QfN).getD Qw
theorem Qm3:Kn "_law_numbers" QeE ["_law_found","_law_size"] QfN Qhv:=by trivial
abbrev QaU:=Dn QeE Qhv
abbrev Qen:=Gc "_law_numbers" 2 QaU QfN
abbrev Qg1:=top 61
def QjT:=(Cp Qg1 Qen).getD Qw
theorem Qqa:Kn "_law_base" Qg1 ["_law_many","_law_turn","_law_kind"] Qen QjT:=by trivial
abbrev QeQ:=Dn Qg1 QjT
abbrev Qg2:=Gc "_law_base" 3 QeQ Qen
abbrev QgU:=top 62
def QjW:=(Cp QgU Qg2).getD Qw
theorem Qp9:Kn "_law_fits" QgU ["_law_many","_law_ways"] Qg2 QjW:=by trivial
abbrev Qbu:=Dn QgU QjW
abbrev QgK:=Gc "_law_fits" 2 Qbu Qg2
abbrev QgC:=top 63
def Qj5:=(Cp QgC QgK).getD Qw
theorem Qqm:Kn "_law_more" QgC ["_law_ways","_law_cells","_law_many","_law_kind"] QgK Qj5:=by trivial
abbrev QeH:=Dn QgC Qj5
abbrev QgT:=Gc "_law_more" 4 QeH QgK
abbrev QhG:=top 64
def Qlo:=(Cp QhG QgT).getD Qw
theorem QrL:Kn "_law_net" QhG ["_law_script","_law_most","_law_upto"] QgT Qlo:=by trivial
abbrev QdR:=Dn QhG Qlo
abbrev QhM:=Gc "_law_net" 3 QdR QgT
abbrev Qf4:=top 65
def Qis:=(Cp Qf4 QhM).getD Qw
theorem QoV:Kn "_law_tolls" Qf4 ["_law_net_here"] QhM Qis:=by trivial
abbrev QcU:=Dn Qf4 Qis
abbrev QfE:=Gc "_law_tolls" 1 QcU QhM
abbrev QgE:=top 66
def Qj6:=(Cp QgE QfE).getD Qw
theorem Qqr:Kn "_law_copy" QgE ["_law_net_here"] QfE Qj6:=by trivial
abbrev Qdh:=Dn QgE Qj6
abbrev Qgy:=Gc "_law_copy" 1 Qdh QfE
abbrev QhH:=top 67
def Qlr:=(Cp QhH Qgy).getD Qw
theorem Qsk:Kn "_law_row" QhH ["_law_script","_law_many","_law_far","_law_by"] Qgy Qlr:=by trivial
abbrev QdL:=Dn QhH Qlr
abbrev Qii:=Gc "_law_row" 4 QdL Qgy
abbrev Qde:=top 68
def Qfk:=(Cp Qde Qii).getD Qw
theorem QjO:Kn "_law_made_still" Qde ["_law_tolls_here","_law_heap"] Qii Qfk:=by trivial
abbrev Qbp:=Dn Qde Qfk
abbrev Qdc:=Gc "_law_made_still" 2 Qbp Qii
abbrev QfD:=top 69
def QiY:=(Cp QfD Qdc).getD Qw
theorem Qot:Kn "_law_comes" QfD ["_law_tolls_here","_law_heap"] Qdc QiY:=by trivial
abbrev Qd6:=Dn QfD QiY
abbrev QfV:=Gc "_law_comes" 2 Qd6 Qdc
abbrev Qb9:=top 70
theorem Qls:Sc Qb9 ["_law_net_here","_law_place"]:=scM rfl rfl rfl (by decide+kernel)
theorem Qmr:QbZ "_law_by_name" Qb9 ["_law_net_here","_law_place"]:=λ_ _ _ _ _ _=>lc λ_=>lc λ_=>l0 rfl
def Qhz:=(CpT Qb9 QfV Qfq []).getD Qw
theorem Qmv:CpT Qb9 QfV Qfq []=some Qhz:=some_of (by decide+kernel)
abbrev Qci:=Dn Qb9 Qhz
abbrev Qel:=Gc "_law_by_name" 2 Qci QfV
abbrev Qcb:=top 71
theorem Qlv:Sc Qcb ["_law_net_here","_law_place"]:=scM rfl rfl rfl (by decide+kernel)
theorem Qnd:QbZ "_law_refused" Qcb ["_law_net_here","_law_place"]:=λ_ _ _ _ _ _=>lc λ_=>lc λ_=>l0 rfl
def Qhp:=(CpT Qcb Qel Qfq []).getD Qw
theorem Ql4:CpT Qcb Qel Qfq []=some Qhp:=some_of (by decide+kernel)
abbrev Qbx:=Dn Qcb Qhp
abbrev Qex:=Gc "_law_refused" 2 Qbx Qel
abbrev Qek:=top 72
def Qhw:=(Cp Qek Qex).getD Qw
theorem Qm8:Kn "_law_spoiled" Qek ["_law_place","_law_lengths","_law_cell_here"] Qex Qhw:=by trivial
abbrev Qce:=Dn Qek Qhw
abbrev Qer:=Gc "_law_spoiled" 3 Qce Qex
abbrev QgS:=top 73
def Qj4:=(Cp QgS Qer).getD Qw
theorem Qql:Kn "_law_good" QgS ["_law_net_here","_law_tolls_here","_law_place"] Qer Qj4:=by trivial
abbrev QcD:=Dn QgS Qj4
abbrev Qj3:=Gc "_law_good" 3 QcD Qer
abbrev Qlb:=top 74
theorem Qz0:Sc Qlb ["_law_script"]:=scM rfl rfl rfl (by decide+kernel)
theorem QBK:QbZ "law" Qlb ["_law_script"]:=λ_ _ _ _ _ _=>lc λ_=>l0 rfl
def QwM:=(Cp Qlb Qj3).getD Qw
theorem QA0:Cp Qlb Qj3=some QwM:=some_of (by decide+kernel)
abbrev QrY:=Dn Qlb QwM
theorem Qgw:QaL=Qx 2 (HS.Qd7 QdE):=by kernel_rfl
theorem Qye:QdB=Qx 4 (HS.QmN):=by kernel_rfl
theorem Qpg:QaE=Qx 5 (HS.Qgf QdB):=by kernel_rfl
theorem Qjf:QaN=Qx 4 (HS.Qcf):=by kernel_rfl
theorem QnN:Qah=Qx 5 (HS.Qgq Qao QS Q0 QaN Qat QaZ QbN):=by kernel_rfl
theorem Qmc:Qci=Qx 3 (HS.QeX Qah QcX sub):=by kernel_rfl
theorem Qmq:Qbx=Qx 4 (HS.QeW Qah QcX sub):=by kernel_rfl
theorem QBb:QrY=Qx 11 (HS.QnE QdR QcU Qcg QaU QaF Qce Qci Qbx Qdh QcD QdL QbN QbG Qah):=by kernel_rfl
theorem Qik:Qcw=Qee 4 (HS.QdP):=by kernel_rfl
theorem Qlz:QcX=Qee 5 (HS.Qgs Qat QaZ QbN QaN Q0 Qao QS Qcw):=by kernel_rfl
end
end Law
namespace HS
open PySem PySem.Spec L2
noncomputable def QvQ(mg:Str->Option Value):List Str->Prop
 | []=>True
 | x::r=>mg x=none/\QvQ mg r
theorem QoC{mg:Str->Option Value}:∀{l:List Str},QvQ mg l->∀x∈l,mg x=none
 | [],_,x,h=>by simp at h
 | y::r,h,x,hx=>by
  rcases Zj.mp hx with rfl | hx
  ·exact h.1
  ·exact QoC h.2 x hx
noncomputable def QuT(mg:Str->Option Value):List (Str×Int)->Prop
 | []=>True
 | (x,i)::r=>(∃t,mg x=some (.int i t))/\QuT mg r
theorem QpW{mg:Str->Option Value}:∀{l:List (Str×Int)},QuT mg l->∀x i,look x l=some i->∃t,mg x=some (.int i t)
 | [],_,x,i,h=>by cases h
 | (y,j)::r,h,x,i,hx=>by
  unfold look at hx;split at hx
  ·rename_i e;cases hx;subst e;exact h.1
  ·exact QpW h.2 x i hx
theorem Qz9{mg:Str->Option Value}{cs:List (Str×Int)}(b:QvQ mg Qpz)(c:QuT mg cs):QeG mg cs:=⟨QoC b,QpW c⟩
end HS
namespace Law
open HS
theorem Qog:Qf0 QaE:=by rw[Qpg,Qye];exact Qxp
def QzV:=eqQ Qos Qc5 QAb
def Qho:=eqQ Qie Qao (Qtq QzV Qog)
def Qmd:=eqQ Qgd Qcn Qt5
def Qfx:=eqQ QcJ Qat (Qun Qmd)
def Qyh:=eqQ Qky QhI QtO
def Qm4:=eqQ QfZ QaZ (Qtp Qyh)
def Qpt:=eqQ Qgu Qbv (Qsc Qfx Qm4)
def Qq0:=eqQ QhQ Qdv QtS
def QwJ:=eqQ QlJ Qc7 Qw2
def QpK:=eqQ Qhi QaQ (Qu6 QwJ)
def QCy:=eqQ Qki QdQ (QsA QzV)
def QBa:=eqQ Qkc QeP Qs4
def Qww:=eqQ Qfm QdE (Qqo QCy QBa)
theorem QBe:QgN QaL:=by rw[Qgw];exact Qpf Qww
theorem QB4:Qh9 QdE:=QuY.g Qww
theorem QCr:Qg0 QaL:=by rw[Qgw];exact Qpb QB4
def hTB:=eqQ Ql6 Qdk (QuR QwJ QCr)
def Qte:=eqQ Qjn Qb2 (Qwm Qq0)
def QsD:=eqQ Qjs Qc1 Qwp
def QzO:=eqQ Qmy Qgp (QvB QsD)
def QyW:=eqQ QmU Qdb (QuS QpK QzO QsD Qfx)
def Qrk:=eqQ QhP Qey Quk
def QzA:=eqQ QmQ QjI (Quy Qte Qrk)
def QA5:=eqQ QoZ Qdl (QxI Qmd QzA)
def Qqw:=eqQ QhO Qdr QsO
def QyO:=eqQ Qmp QcZ (QvM QpK Qte Qqw Qrk QA5 QyW Qpt)
def QAN:=eqQ Qnh QeN Quw
def QzC:=eqQ Qjk QS (QuN hTB QyO QAN QpK Qqw Qpt Qfx)
def Qoe:=eqQ Qhx QaW QxA
def QrM:=eqQ Qjo Q0 QAM
def QBv:=eqQ (Qpn QS) Qcg (Qyf (QjF Qho) QrM)
def QqB:=eqQ (QhY QS) QbG (Qtk Qoe (QjF Qho) Qfx Qm4 QrM)
def QzN:=eqQ QmP Qd1 (QvZ Qoe)
def Qu9:=eqQ QiZ Qgm QrP
def Qzt:=eqQ Ql1 Qhk (QuH QzN Qog Qu9)
def QAQ:=eqQ Qm1 QjL (QvL Qoe Qog)
def QAs:=eqQ QoW QeM (Qyz Qog)
def Qwe:=eqQ Qi5 QbT (Qsn QAs)
def QAZ:=eqQ Qjc Qea (QrW Qfx QBe Qmd Qq0)
def QBc:=eqQ QmZ Qdj (Qwf Qho QAZ)
def Qrg:=eqQ Qh8 QbN (Qtn Qoe QBc QAQ Qwe Qzt)
theorem Qz4:QlZ QbN:=QBp.small Qrg
theorem Qx1:Qkr QaN:=by rw[Qjf];exact Qtf
theorem Qrf:QhR QS Qah:=by rw[QnN];exact QsT (QjF Qho) QrM Qx1 Qfx Qm4 Qrg
def Qzg:=eqQ Ql2 QdS QvJ
def Qy9:=eqQ QlO QaU (Qxc Qzg)
def Qzf:=eqQ TabsOk QcU Qx4
def QBP:=eqQ Qo8 Qbp Qyx
def QAv:=eqQ Qi7 Qd6 (Qrx QBP)
def QwG:=eqQ QjJ QaF Qwl
def QBG:=eqQ QoO QeQ QwU
def QBM:=eqQ Qpc Qbu Qxu
def QBf:=eqQ QpY QeH (Qxk QBM)
def QB8:=eqQ Qm9 QdR (Qvn QwG QBG QBf)
def QBn:=eqQ Qmi Qdh QvT
def QCG:=eqQ Qmk QdL Qwi
theorem QzE:ApF QaN Qcw:=by rw[Qjf,Qik];exact QBd
theorem xNp:Qml Qcw:=by rw[Qik];exact Qr8
theorem QAJ:ApF Qah QcX:=by rw[QnN,Qlz];exact QBw QzE
theorem xHa:Qm2 QS QcX:=by rw[Qlz];exact Qsf QzE (QjF Qho) QrM xNp
theorem w46:Qwz sub:=⟨by decide+kernel,by decide+kernel,by decide+kernel,by decide+kernel,by decide+kernel,by decide+kernel⟩
def QzZ:=eqQ Qnb Qce Qws
def QBr:=eqQ (QkW QS) QcD (QsF Qrf Qy9 QAv QqB)
theorem Qzp(ns:List Int)(h:ns.length<=63)(hb:∀k:Nat,PySem.Builtin.Int.intBits (ns.getD k 0)<=2^20):∃fr,QrY [.lst (ns.map .int)]=some (.bl true,fr):=by
 rw[QBb];exact⟨true,Qzi QzC QB8 Qzf QBv Qy9 QwG QzZ xHa (λm R L a e=>by rw[Qmc];exact Que QAJ w46.gg m R L a e) (λm R L a e=>by rw[Qmq];exact Qtu QAJ w46 m R L a e) QBn QBr QCG Qz4 QqB Qrf ns h hb⟩
end Law
namespace PySem.W.Fast
def tw1403243589025053465:=0
def tw9223575542433294046:=0
def tw10187160940815574164:=0
def tw8080433261546608271:=0
def tw8406942208647212510:=0
def tw1161466862860507455:=0
def tw9913391531530710505:=0
def tw18176850547670785108:=0
def tw4198242547711173215:=0
def tw5698987823755987085:=0
def tw8450091179997928127:=0
def tw15443459478859842968:=0
def tw10074992755151350027:=0
def tw1758362534937375092:=0
def tw7601702835207949160:=0
def tw9220445935938448893:=0
def tw4074738954712872695:=0
def tw1706259809813868873:=0
def tw5566616556392399074:=0
def tw6070722996845475053:=0
def tw7130170752611515319:=0
def tw10338637599735915349:=0
def tw17114846410185635653:=0
def tw10435661611308684516:=0
def tw4850352595166676892:=0
def tw4381740073773721401:=0
def tw4725749359571371823:=0
def tw10941900117613102503:=0
def tw6949861574007634458:=0
def tw15579035174704689796:=0
def tw13873996687619441695:=0
def tw12076535131999259556:=0
def tw4736902157801118258:=0
def tw12527536760201137202:=0
def tw7823596538487684382:=0
def tw11410249320895957972:=0
def tw10959527978014868867:=0
def tw8366282714655879247:=0
def tw3148137413991857905:=0
def tw14922106384180112299:=0
def tw4007573966728389666:=0
def tw468329075452121739:=0
def tw17579206842010938174:=0
def tw4612971290077708660:=0
def tw2746342863611602622:=0
def tw1245215807497513494:=0
def tw2461748830439232586:=0
def tw2852215236558777547:=0
def tw11945172174688571590:=0
def tw8573412461244932828:=0
def tw3902067082212991091:=0
def tw10378782332806036475:=0
def tw17672698421130961839:=0
def tw11171478195803069380:=0
def tw18347888860883118091:=0
def tw17311528956149853018:=0
def tw13425988695130632757:=0
def tw14419369498534632409:=0
def tw14573158891078150148:=0
def tw14006729979685610042:=0
def tw11097441427772666928:=0
def tw13867066526814902506:=0
def tw1801580130536336826:=0
def tw1018466805143931008:=0
def tw10735743711602254869:=0
def tw3595046344032897776:=0
def tw4970942343993849606:=0
def tw3881361771577791274:=0
def tw3791246680647652790:=0
def tw3531147025855617913:=0
def tw10834105099069893574:=0
def tw2658803467716578425:=0
def tw14727301473447836371:=0
def tw12141057047960079600:=0
def tw11201167201941142384:=0
def tw7934692549724285557:=0
def tw1838165979612491996:=0
def tw2335809977762380957:=0
def tw10280223120832213745:=0
def tw2197068461025734387:=0
def tw16432200400713935716:=0
def tw212144762826768275:=0
def tw14657506392733988577:=0
def tw8672102398683466069:=0
def tw12261161902695118758:=0
def tw16792361112347364307:=0
def tw4575048425767417712:=0
def tw17783315317618788593:=0
def tw13189803139469950904:=0
def tw18410326250494612027:=0
def tw8987024194042562544:=0
def tw7647084076568224628:=0
def tw2065352124694719548:=0
def tw17880871791529458783:=0
def tw14595562281196694662:=0
def tw8489256627054672300:=0
def tw15622444922682764013:=0
def tw16307172960754696606:=0
def tw2091763296149350519:=0
def tw8874621385917939146:=0
def tw15310970059658268335:=0
def tw4344666345968614037:=0
def tw3919141640832231555:=0
def tw2216798845398577566:=0
def tw4948548987413828733:=0
def tw8497154017925927106:=0
def tw12740865285380857892:=0
def tw15416138131734793447:=0
def tw10440502256801293719:=0
def tw5342458166426561617:=0
def tw11200420889293551434:=0
def tw3215060796954788429:=0
def tw14768713594395608166:=0
def tw14695125736829604529:=0
def tw16101520980119835689:=0
def tw6156760091379860751:=0
def tw11737593083741529008:=0
def tw17260848199022452469:=0
def tw11208485758226835673:=0
def tw7323097533485422992:=0
def tw2466071207721247960:=0
def tw7365736782293245353:=0
def tw4295692452475341835:=0
def tw1922814591844690082:=0
def tw2138160394543392221:=0
def tw7163608636014621709:=0
def tw7501617007952769956:=0
def tw7999447248645531823:=0
def tw17252509762807813124:=0
def tw14595250522039768068:=0
def tw6178313864458236406:=0
def tw7309126096934057897:=0
def tw463633622365293221:=0
def tw14127929694360321903:=0
def tw12191243397042041537:=0
def tw4530359060719732325:=0
def tw2260552400101360453:=0
def tw3863023627586959575:=0
def tw18335565128776151254:=0
def tw14758844681112391556:=0
def tw11073752003916161827:=0
def tw3196525163014886771:=0
def tw17953201688618579184:=0
def tw2473530721006112460:=0
def tw326564940289822488:=0
def tw8341921233642208333:=0
def tw9348551351434562030:=0
def tw9995799139567941373:=0
def tw1744199673482336984:=0
def tw2047269571671895423:=0
def tw2350540903550202554:=0
def tw12254795822143333201:=0
def tw17332970156082795100:=0
def tw15890178661090560620:=0
def tw6127405038662342213:=0
def tw14175424482754169557:=0
def tw17655575728627649025:=0
def tw13834797072859539177:=0
def tw16539771620116426503:=0
def tw13475474671374410385:=0
def tw8384945338791246509:=0
def tw3230371623438120429:=0
def tw15319882588338952394:=0
def tw11817962592743851658:=0
end PySem.W.Fast
local macro_rules | `(tactic| trivial)=> `(tactic| ((try dsimp only[L2.KOf]);refine' HS.fact_mk ?a ?l ?c ?k;(case a=>k_is);(case l=>k_is);(case c=>k_is);(case k=>k_is)))
open PySem PySem.W PyProof.Rows HS
set_option maxRecDepth 100000 in
set_option maxHeartbeats 0 in
theorem PySem.Challenge.cw_heapstill_k46_heaps_at_places_holds : PySem.Challenge.rw_heapstill_k46_heaps_at_places.Holds := by
 w_on;o_law;k_head;(case hw=>w_witness2)
 k_fill
 refine HS.Qsu (l:=PySem.Challenge.rw_heapstill_k46_heaps_at_places) (k:=60) (x:= "_law_script") (den:=Law.QrY) rfl rfl ⟨rfl,by decide,by decide⟩ (λw h Y=>PySem.W.kIn_of Y) Law.Qzp ?F
 case F=>
  intro w mg fa h KX G hmg;have M:HS.QeG mg Law.cst:=by
   refine HS.Qz9 ⟨?_,?_,?_,?_,?_,?_,?_,?_,?_,?_,?_,?_,?_,?_,?_,?_,?_,?_,True.intro⟩ True.intro<;>exact PySem.W.mg_none_of KX G (by k_is)
  have t0:∀base:Heap,HS.Qb6 (PySem.Challenge.rw_heapstill_k46_heaps_at_places).prog w (L2.KOf KX) mg base 0 []:=λ_=>HS.Qb6.nil;have hcl:∀x∈Law.cls,HS.QiM (L2.KOf KX) x:=HS.Qq9 (by refine⟨?_,trivial⟩<;>(dsimp only[L2.KOf];refine' HS.Qya ?a ?b;(case a=>k_is);(case b=>k_exc)));have hsub:HS.Qb7 (L2.KOf KX) Law.sub:=by
   refine HS.Qyy ⟨⟨?_,?_,?_,?_,?_,?_,?_,trivial⟩,trivial⟩<;>(dsimp only[L2.KOf];first | (refine' HS.QBH ?a ?b ?c ?d ?e ?f ?g;(case a=>k_is);(case b=>k_is);(case c=>k_is);(case d=>k_is);(case e=>k_is);(case f=>k_is);(case g=>k_is)) | (refine' HS.Qvw ?a ?b ?c ?d;(case a=>k_is);(case b=>k_is);(case c=>kts_exm);(case d=>kit_is)) | (refine' HS.QwS ?a ?b ?c ?d;(case a=>k_is);(case b=>k_is);(case c=>kts_exm);(case d=>kit_is)))
  have x0:∀base:Heap,HS.Qfi (PySem.Challenge.rw_heapstill_k46_heaps_at_places).prog w (L2.KOf KX) mg base 0 []:=λ_=>HS.Qfi.nil;have t1:=Law.kc KX G M t0 Law.Qqs (by trivial);have t2:=Law.kc KX G M t1 Law.QoQ (by trivial);have t3:=Law.kc KX G M t2 Law.QuZ (by trivial);have t4:=Law.kc KX G M t3 Law.Qvc (by trivial);have t5:=Law.kc KX G M t4 Law.Qru (by trivial);have t6:=Law.kc KX G M t5 Law.Qo4 (by trivial);have t7:=Law.kc KX G M t6 Law.QrB (by trivial);have t8:=Law.kc KX G M t7 Law.Qvi (by trivial);have t9:=Law.kc KX G M t8 Law.QsJ (by trivial);have t10:=Law.kc KX G M t9 Law.QtY (by trivial);have t11:=Law.kc KX G M t10 Law.QuE (by trivial);have t12:=Law.kc KX G M t11 Law.QpL (by trivial);have t13:=Law.kc KX G M t12 Law.Qqp (by trivial);have t14:=Law.kc KX G M t13 Law.Qsy (by trivial);have t15:=Law.kc KX G M t14 Law.Qk1 (by trivial);have t16:=Law.kc KX G M t15 Law.Qoa (by trivial);have t17:=Law.kc KX G M t16 Law.QpC (by trivial);have t18:=Law.kc KX G M t17 Law.QxM (by trivial);have t19:=Law.kc KX G M t18 Law.Qp1 (by trivial);have t20:=Law.kc KX G M t19 Law.Qp8 (by trivial);have t21:=Law.kc KX G M t20 Law.Qyu (by trivial);have t22:=Law.kc KX G M t21 Law.Qqu (by trivial);have t23:=Law.kc KX G M t22 Law.Qqb (by trivial);have t24:=Law.kc KX G M t23 Law.QxP (by trivial);have t25:=Law.kc KX G M t24 Law.QsG (by trivial);have t26:=Law.kc KX G M t25 Law.Ql0 (by trivial);have t27:=Law.kc KX G M t26 Law.Qu1 (by trivial);have t28:=Law.kc KX G M t27 Law.Qx8 (by trivial);have t29:=Law.kc KX G M t28 Law.Qn4 (by trivial);have t30:=Law.kc KX G M t29 Law.Qvp (by trivial);have t31:=Law.kc KX G M t30 Law.QmJ (by trivial);have t32:=Law.kc KX G M t31 Law.Qqt (by trivial);have t33:=Law.kc KX G M t32 Law.Qn8 (by trivial);have t34:=Law.kc KX G M t33 Law.QtA (by trivial);have t35:=Law.kc KX G M t34 Law.QyF (by trivial);have t36:=Law.kc KX G M t35 Law.Qn5 (by trivial);have t37:=Law.kc KX G M t36 Law.QlK (by trivial);have t38:=Law.kc KX G M t37 Law.Qyw (by trivial);have t39:=Law.kc KX G M t38 Law.QkV (by trivial);have t40:=Law.kc KX G M t39 Law.Qnj (by trivial);have t41:=Law.kc KX G M t40 Law.QoM (by trivial);have y1:=λb=>(x0 b).mono (k:=41) (Zbb rfl);have y2:=λb=>(y1 b).cons (HS.QqL KX G (by trivial) Law.Qij Law.QiL M (t41 b) (y1 b) hcl Law.Qn6);have t42:=λb=>(t41 b).cons (HS.Qkk KX G (by trivial) Law.Qij Law.QiL M (t41 b) Law.QpZ);have y3:=λb=>(y2 b).cons (HS.QqL KX G (by trivial) Law.Qlq Law.QnV M (t42 b) (y2 b) hcl Law.Qrv);have t43:=λb=>(t42 b).cons (HS.Qkk KX G (by trivial) Law.Qlq Law.QnV M (t42 b) Law.Qs5);have t44:=Law.kc KX G M t43 Law.Qqq (by trivial);have t45:=Law.kc KX G M t44 Law.Qph (by trivial);have t46:=Law.kc KX G M t45 Law.Qm3 (by trivial);have t47:=Law.kc KX G M t46 Law.Qqa (by trivial);have t48:=Law.kc KX G M t47 Law.Qp9 (by trivial);have t49:=Law.kc KX G M t48 Law.Qqm (by trivial);have t50:=Law.kc KX G M t49 Law.QrL (by trivial);have t51:=Law.kc KX G M t50 Law.QoV (by trivial);have t52:=Law.kc KX G M t51 Law.Qqr (by trivial);have t53:=Law.kc KX G M t52 Law.Qsk (by trivial);have t54:=Law.kc KX G M t53 Law.QjO (by trivial);have t55:=Law.kc KX G M t54 Law.Qot (by trivial);have y4:=λb=>(y3 b).mono (k:=55) (Zbb rfl);have t56:=λb=>(t55 b).cons (HS.QqH KX G (by trivial) Law.Qls Law.Qmr M (t55 b) (y4 b) hcl hsub HS.QmS.nil Law.Qmv);have y5:=λb=>(y3 b).mono (k:=56) (Zbb rfl);have t57:=λb=>(t56 b).cons (HS.QqH KX G (by trivial) Law.Qlv Law.Qnd M (t56 b) (y5 b) hcl hsub HS.QmS.nil Law.Ql4);have t58:=Law.kc KX G M t57 Law.Qm8 (by trivial);have t59:=Law.kc KX G M t58 Law.Qql (by trivial);exact HS.QBi KX G hmg (by trivial) Law.Qz0 Law.QBK M t59 Law.QA0
