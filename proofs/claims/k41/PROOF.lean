import PyProof.Rows.All
import Wide.All
import OpenK.AllK
import Wide.FinOn
import Lean
import PyProof.EqAt
import PyProof.EqKinds
import PyProof.TupleCall
import PyProof.ZipIter
import PyProof.EnumMake
import PyProof.Rows.FactsT2
import PyProof.Rows.EnumRows
import PyProof.P3In
import PyProof.NeData
import KE.KUnpack
import PyProof.Rows.SumAny
import PyProof.Rows.MinMaxN
import PyProof.Rows.ListRangeD
import PyProof.Rows.Range3
import PyProof.Rows.RuleM_int
import PyProof.Rows.SortShell
import KE.KTryOn
import PyProof.ExcBaseAll.ValueError
import PyProof.RulesAs
import PyProof.ExcAttrAll.ValueError
import PyProof.Rows.RegTopCatchBFacts
import KE.RegKTryMore
import KE.RegKIsAll
import PySem.Challenge.RW_heapstill_k41_tables_and_lengths
set_option Elab.async false
set_option linter.all false
set_option maxRecDepth 100000
def Za:= @Option.bind_some
def Zb:= @List.mem_append_right
def Zc:= @List.getElem?_set_ne
def Zd:= @List.mem_append_left
def Ze:= @List.mem_cons_of_mem
def Zf:= @Option.map_eq_some_iff
def Zg:= @List.getElem?_eq_some_iff
def Zh:= @Nat.le_refl
def Zi:= @Nat.le_trans
def Zj:= @Bool.and_eq_true
def Zk:= @List.mem_range
def Zl:= @List.getElem?_set_self
def Zm:= @List.getElem?_map
def Zn:= @PySem.Heap.get?_push_of_some
def Zo:= @List.length_range
def Zp:= @List.mem_cons_self
def Zq:= @List.mem_cons
def Zr:= @List.length_append
def Zs:= @List.length_map
def Zt:= @List.getElem?_eq_none
def Zu:= @Nat.lt_of_lt_of_le
def Zv:= @List.getD_eq_getElem?_getD
def Zw:= @List.size_toArray
def Zx:= @List.lookup_cons
def Zy:= @Int.zero_mul
def Zz:= @Int.mul_zero
def ZA:= @PySem.Heap.lt_size
def ZC:= @List.mem_append
def ZD:= @Nat.pow_le_pow_right
def ZE:= @Int.emod_lt_of_pos
def ZF:= @Int.mul_assoc
def ZG:= @List.mem_singleton
def ZH:= @List.getElem?_range
def ZI:= @Int.emod_nonneg
def ZJ:= @List.map_cons
def ZK:= @Int.one_mul
def ZL:= @Int.toNat_natCast
def ZM:= @Int.mul_left_comm
def ZN:= @PySem.Heap.get?_push_size
def ZO:= @List.map_congr_left
def ZP:= @List.length_cons
def ZQ:= @List.count_eq_zero
def ZR:= @Nat.lt_of_le_of_lt
def ZS:= @List.mem_map
def ZT:= @List.getElem?_eq_getElem
def ZU:= @Nat.ne_of_lt
def ZV:= @Int.mul_comm
def ZW:= @PyProof.Rows.callWith_type1
def ZX:= @Int.add_mul
def ZY:= @List.length_set
def ZZ:= @List.map_append
def Zaa:= @Int.natAbs_mul
def Zab:= @Int.mul_one
def Zac:= @Nat.zero_le
def Zad:= @Nat.lt_irrefl
def Zae:= @Option.map_some
def Zaf:= @Int.natCast_add
def Zag:= @List.getElem?_append_left
def Zah:= @Classical.byContradiction
def Zai:= @List.count_pos_iff
def Zaj:= @List.map_map
def Zak:= @Int.natCast_mul
def Zal:= @PySem.mem_of_lookup
def Zam:= @List.replicate_succ
def Zan:= @Bool.false_ne_true
def Zao:= @List.mem_of_getElem?
def Zap:= @List.nodup_iff_count
def Zaq:= @List.mem_filter
def Zar:= @List.drop_eq_getElem_cons
def Zas:= @Int.eq_of_mul_eq_mul_left
def Zat:= @List.flatten_cons
def Zau:= @List.count_append
def Zav:= @Int.natAbs_dvd_natAbs
def Zaw:= @List.all_eq_true
def Zax:= @Int.neg_mul
def Zay:= @Int.dvd_mul_of_dvd_left
def Zaz:= @List.sum_cons
def ZaA:= @Int.mul_nonneg
def ZaB:= @List.nodup_cons
def ZaC:= @Int.dvd_add
def ZaD:= @List.length_replicate
def ZaE:= @Int.mul_le_mul_of_nonneg_right
def ZaF:= @Int.sub_add_cancel
def ZaG:= @Int.mul_add
def ZaH:= @Int.mul_le_mul_of_nonneg_left
def ZaI:= @Int.zero_sub
def ZaJ:= @Int.natCast_nonneg
def ZaK:= @List.getElem?_append_right
def ZaL:= @List.nodup_nil
def ZaM:= @List.set_eq_take_append_cons_drop
def ZaN:= @List.count_cons
def ZaO:= @Nat.min_eq_left
def ZaP:= @List.append_assoc
def ZaQ:= @Nat.mul_comm
def ZaR:= @Bool.not_eq_true'
def ZaS:= @Int.le_refl
def ZaT:= @Nat.lt_succ_self
def ZaU:= @List.take_of_length_le
def ZaV:= @Int.add_zero
def ZaW:= @List.append_nil
def ZaX:= @PySem.W.kia_one
def ZaY:= @List.range_succ
def ZaZ:= @List.length_singleton
def Zba:= @List.take_append_drop
def Zbb:= @List.length_filter_le
def Zbc:= @List.ext_getElem?
def Zbd:= @PySem.Heap.size_push
def Zbe:= @Nat.mul_le_mul
def Zbf:= @Int.dvd_sub
def Zbg:= @Nat.le_of_lt
def Zbh:= @List.take_length
def Zbi:= @Int.sub_self
def Zbj:= @List.filter_eq_self
def Zbk:= @List.nil_append
def Zbl:= @List.mem_filterMap
def Zbm:= @Int.mul_nonpos_of_nonneg_of_nonpos
def Zbn:= @List.filter_append
def Zbo:= @Nat.le_succ
def Zbp:= @PyProof.Rows.intBits_le
def Zbq:= @Int.neg_neg
def Zbr:= @List.reverse_cons
def Zbs:= @Nat.lt_succ_of_lt
def Zbt:= @PyProof.Rows.boot_list
def Zbu:= @List.nodup_append
def Zbv:= @List.range_succ_eq_map
def Zbw:= @Nat.sub_zero
def Zbx:= @Int.emod_eq_of_lt
def Zby:= @Int.natAbs_add_le
def Zbz:= @List.contains_iff_mem
def ZbA:= @List.length_take
def ZbB:= @List.mem_flatten
def ZbC:= @Nat.min_le_right
def ZbD:= @Nat.add_le_add_right
def ZbE:= @Int.mul_neg
def ZbF:= @Nat.mul_le_mul_right
def ZbG:= @List.filterMap_cons
def ZbH:= @List.length_reverse
def ZbI:= @List.sum_append_int
def ZbJ:= @Nat.lt_trans
def ZbK:= @Int.fdiv_eq_ediv_of_nonneg
def ZbL:= @Nat.add_sub_cancel
def ZbM:= @List.getElem?_eq_none_iff
def ZbN:= @List.pairwise_iff_getElem
def ZbO:= @List.getElem?_set
def ZbP:= @Option.isSome_iff_exists
def ZbQ:= @PyProof.noPylong_of_log2
def ZbR:= @List.getElem?_replicate
def ZbS:= @List.cons_append
def ZbT:= @List.foldlM_cons
def ZbU:= @PyProof.Rows.boot_tuple
def ZbV:= @PySem.F.plainAttrs_list
def ZbW:= @List.getElem_mem
def ZbX:= @Classical.axiomOfChoice
def ZbY:= @Nat.add_sub_cancel_left
def ZbZ:= @Nat.le_mul_of_pos_right
def Zca:= @Nat.ne_of_gt
def Zcb:= @PySem.W.cellsFrom_some
def Zcc:= @Nat.succ_mul
def Zcd:= @Nat.pow_succ
def Zce:= @Int.fmod_nonneg_of_pos
def Zcf:= @List.filter_eq_nil_iff
def Zcg:= @List.of_mem_zip
def Zch:= @Bool.or_eq_true
def Zci:= @List.drop_zero
def Zcj:= @Int.mul_sub
def Zck:= @List.take_succ
def Zcl:= @PySem.W.mg_of
def Zcm:= @List.map_take
namespace L2
open PySem PySem.Spec PyProof.Rows
noncomputable abbrev Key:=Sum Int Str
noncomputable def Qv9:Key->Value->Bool
 | .inl k,v=>Value.isInt k v
 | .inr x,v=>Value.isStrOf x v
noncomputable def QBb(w:World):Key->Int
 | .inl k=>hashInt k
 | .inr x=>hashStr w x
theorem Qbo:∀{k:Key}{v:Value},Qv9 k v=true->(∃i t,k=Sum.inl i/\v=Value.int i t)∨(∃x t,k=Sum.inr x/\v=Value.str x t)
 | .inl i,v,h=>by
  obtain⟨t,e⟩:=Value.isInt_shape (k:=i) (v:=v) h
  exact .inl ⟨i,t,rfl,e⟩
 | .inr x,v,h=>by
  obtain⟨t,e⟩:=Value.isStrOf_shape (x:=x) (v:=v) h
  exact .inr ⟨x,t,rfl,e⟩
theorem QzV(a b:Int):decide ((Sum.inl a:Key)=Sum.inl b)=(a == b):=by
 by_cases e:a=b
 ·subst e;simp
 ·have h:¬(Sum.inl a:Key)=Sum.inl b:=λq=>e (Sum.inl.inj q)
  rw[decide_eq_false h]
  exact(beq_eq_false_iff_ne.mpr e).symm
theorem QyZ(a b:Str):decide ((Sum.inr a:Key)=Sum.inr b)=decide (a=b):=by
 by_cases e:a=b
 ·subst e;simp
 ·have h:¬(Sum.inr a:Key)=Sum.inr b:=λq=>e (Sum.inr.inj q)
  rw[decide_eq_false h,decide_eq_false e]
theorem Qyq(a:Int)(b:Str):decide ((Sum.inl a:Key)=Sum.inr b)=false:=decide_eq_false (λq=>nomatch q)
theorem Qyf(a:Str)(b:Int):decide ((Sum.inr a:Key)=Sum.inl b)=false:=decide_eq_false (λq=>nomatch q)
noncomputable def Ql0(prog:Program)(w:World):PySem.KeyKind prog w Key where
 is:=Qv9
 hash:=QBb w
 inj:=λv a b ha hb=>by
  rcases Qbo ha with⟨i,t,rfl,rfl⟩ | ⟨x,t,rfl,rfl⟩
  ·rcases Qbo hb with⟨j,u,rfl,e⟩ | ⟨y,u,rfl,e⟩
   ·injection e with e1 _;rw[e1]
   ·exact nomatch e
  ·rcases Qbo hb with⟨j,u,rfl,e⟩ | ⟨y,u,rfl,e⟩
   ·exact nomatch e
   ·injection e with e1 _;rw[e1]
 byValue:=λk v h=>by
  rcases Qbo h with⟨i,t,rfl,rfl⟩ | ⟨x,t,rfl,rfl⟩<;>rfl
 pyHash:=λhv h=>by
  rcases Qbo hv with⟨i,t,rfl,rfl⟩ | ⟨x,t,rfl,rfl⟩
  ·exact wpAny_pyHash_int h
  ·exact wpAny_pyHash_str h
 eqBool:=λhu hv h=>by
  rcases Qbo hu with⟨i,t,rfl,rfl⟩ | ⟨x,t,rfl,rfl⟩
  ·rcases Qbo hv with⟨j,u,rfl,rfl⟩ | ⟨y,u,rfl,rfl⟩
   ·rw[QzV]at h;exact wpAny_eqBool_int h
   ·rw[Qyq]at h;exact SeqAt.EqAt.int_str i t y u _ _ _ _ h
  ·rcases Qbo hv with⟨j,u,rfl,rfl⟩ | ⟨y,u,rfl,rfl⟩
   ·rw[Qyf]at h;exact SeqAt.EqAt.str_int x t j u _ _ _ _ h
   ·rw[QyZ]at h;exact wpAny_eqBool_str h
 «strs» :=λk x t v h=>by
  rcases Qbo h with⟨i,u,rfl,e⟩ | ⟨y,u,rfl,e⟩
  ·exact nomatch e
  ·injection e with e1 _
   subst e1
   cases v<;>rfl
end L2
namespace L2
open PySem PySem.Spec PyProof.Rows
inductive V where
 | non | bl (b:Bool) | int (i:Int) | str (x:Str) | byt (b:Array UInt8) | flt (b:UInt64) | ref (a:Addr) | ty (n:String)
 deriving DecidableEq
noncomputable def RelV:V->Value->Prop
 | .non,u=>u=Value.none
 | .bl b,u=>u=Value.bool b
 | .int i,u=>∃t,u=Value.int i t
 | .str x,u=>∃t,u=Value.str x t
 | .byt b,u=>∃t,u=Value.bytes b t
 | .flt b,u=>∃t,u=Value.float b t
 | .ref a,u=>u=Value.ref a
 | .ty n,u=>u=Value.type n
noncomputable abbrev QF:List V->List Value->Prop:=Paired RelV
theorem QF.length{xs:List V}{us:List Value}(r:QF xs us):xs.length=us.length:=Paired.length r
theorem QF.get:∀{xs:List V}{us:List Value}{i:Nat}{x:V},QF xs us->xs[i]? =some x->∃u,us[i]? =some u/\RelV x u
 | _,_,_,_,.nil,e=>by simp at e
 | _,_,0,_,.cons r _,e=>by simp at e;subst e;exact⟨_,rfl,r⟩
 | _,_,i+1,x,.cons _ t,e=>by
  obtain⟨u,h1,h2⟩:=QF.get (i:=i) (x:=x) t (by simpa using e)
  exact⟨u,by simpa using h1,h2⟩
theorem QF.set{x:V}{u:Value}(r:RelV x u):∀{xs:List V}{us:List Value}(i:Nat),QF xs us->QF (xs.set i x) (us.set i u)
 | _,_,_,.nil=> .nil
 | _,_,0,.cons _ t=> .cons r t
 | _,_,i+1,.cons q t=> .cons q (QF.set r i t)
theorem QF.append:∀{xs ys:List V}{us ws:List Value},QF xs us->QF ys ws->QF (xs++ys) (us++ws)
 | _,_,_,_,.nil,s=>s
 | _,_,_,_,.cons r t,s=> .cons r (QF.append t s)
theorem QF.take:∀{xs:List V}{us:List Value}(n:Nat),QF xs us->QF (xs.take n) (us.take n)
 | _,_,0,_=> .nil
 | _,_,_+1,.nil=> .nil
 | _,_,n+1,.cons r t=> .cons r (QF.take n t)
theorem QF.drop:∀{xs:List V}{us:List Value}(n:Nat),QF xs us->QF (xs.drop n) (us.drop n)
 | _,_,0,r=>r
 | _,_,_+1,.nil=> .nil
 | _,_,n+1,.cons _ t=>QF.drop n t
theorem QF.none_of:∀{xs:List V}{us:List Value}{i:Nat},QF xs us->xs[i]? =none->us[i]? =none:=λ{xs us i} r e=>by
 have h1:=r.length
 have h2:xs.length<=i:=ZbM.mp e
 exact ZbM.mpr (by omega)
noncomputable def Qlv:Option V->Option Value->Prop
 | some v,some u=>RelV v u
 | none,none=>True
 | _,_=>False
noncomputable def KV{κ:Type}:List (κ×V)->List (κ×Value)->Prop:=Paired λ(p:κ×V) (q:κ×Value)=>p.1=q.1/\RelV p.2 q.2
noncomputable def kV:Key->V
 | .inl i=> .int i
 | .inr x=> .str x
inductive HO where
 | lst (xs:List V)
 | tup (xs:List V)
 | dK (kvs:List (Key×V)) | dT (kvs:List (List Key×V))
 | set (S:Int->Bool) (n:Nat)
 | ins (C dx:Addr) (fs:List (Str×V))
 | own (x:Addr)
 | xd (fs:List (Str×V))
 | met (f x:Addr)
 | rng (lo hi:Int)
 | frz (o:Obj) (u:HO)
 | tbl (ps:Array Value)
 | ext (φ:Heap->Prop)
noncomputable abbrev Hp:=Addr->Option HO
noncomputable def upd(H:Hp)(a:Addr)(o:HO):Hp:=λb=>if b=a then some o else H b
theorem Qaw{H:Hp}{a:Addr}{o:HO}:upd H a o a=some o:=by unfold upd;rw[if_pos rfl]
theorem QZ{H:Hp}{a b:Addr}{o:HO}(h:b≠a):upd H a o b=H b:=by unfold upd;rw[if_neg h]
theorem Qnq{H:Hp}{a b:Addr}{o u:HO}(h:H a=some o)(h':H b=some u)(d:o≠u):a≠b:=by
 intro e;subst e;rw[h]at h';exact d (Option.some.inj h')
theorem Qcd{H:Hp}{a b:Addr}{o:HO}(h:H a=some o)(h':H b=none):a≠b:=by
 intro e;subst e;rw[h]at h';cases h'
section
variable (P:Program) (w:World)
noncomputable def QcU(H:Hp)(h:Heap)(a:Addr):HO->Prop
 | .lst xs=>xs.length<=sizeLine/\∃(its:List Value) (n:Nat),QF xs its/\h.get? a=some {cls:= .type "list",data:= .seq its.toArray n}
 | .tup xs=>xs.length<=sizeLine/\∃its:List Value,QF xs its/\IsTup h a its.toArray
 | .dK kvs=>kvs.length<=sizeLine/\(a == sysModules)=false/\∃vs,KV kvs vs/\h.DictOf (Ql0 P w) a vs
 | .dT kvs=>kvs.length<=sizeLine/\(a == sysModules)=false/\∃xs:List (List Key×Addr×Value),
   Paired (λ(p:List Key×V) (q:List Key×Addr×Value)=>p.1=q.1/\H q.2.1=some (.tup (p.1.map kV))/\RelV p.2 q.2.2) kvs xs∧
   ∃o es ep,h.get? a=some o/\o.ExactDict/\o.data= .dict es ep/\es.toList=xs.map (entryOfKey (tupleKind (Ql0 P w)))/\(xs.map (·.1)).Nodup
 | .set S n=>h.SetOf (intKind P w) a S n
 | .ins C dx fs=>H dx=some (.own a)/\fs.length<=1000/\dx≠a/\h.get? a=some (PySem.W.instObj C dx)∧
   ∃mA,h.Ns1 dx mA/\(∀f,Qlv (fs.lookup f) (mA f))/\PySem.Within mA (fs.map (·.1))
 | .own _=>∃o,h.get? a=some o
 | .xd fs=>∃mA,h.Ns1 a mA/\∀f,Qlv (fs.lookup f) (mA f)
 | .rng lo hi=>∃t u v,h.get? a=some {cls:= .type "range",data:= .fields #[.int lo t,.int hi u,.int 1 v]}
 | .frz o u=>h.get? a=some o/\QcU H h a u
 | .tbl ps=>h.get? a=some {cls:= .none,data:= .fields ps}
 | .met f x=>h.get? a=some (PySem.W.methodObj (.ref f) (.ref x))
 | .ext φ=>φ h/\(∃o,h.get? a=some o)/\∀h1 h2:Heap,φ h1->(∀o,h1.get? a=some o->h2.get? a=some o)->φ h2
def HOk(H:Hp)(h:Heap):Prop:=∀a o,H a=some o->QcU P w H h a o
end
section
variable {P:Program}{w:World}{H H':Hp}{h h':Heap}{a:Addr}{o:HO}
theorem QcU.lt(x:QcU P w H h a o):a<h.objs.size:=by
 cases o with
 | lst xs=>obtain⟨_,_,_,_,e⟩:=x;exact ZA e
 | tup xs=>obtain⟨_,_,_,p⟩:=x;exact p.lt
 | dK kvs=>obtain⟨_,_,_,_,o,_,_,e,_⟩:=x;exact ZA e
 | dT kvs=>obtain⟨_,_,_,_,o,_,_,e,_⟩:=x;exact ZA e
 | set S n=>obtain⟨o,_,_,_,e,_⟩:=x;exact ZA e
 | ins C dx fs=>obtain⟨_,_,_,e,_⟩:=x;exact ZA e
 | own y=>obtain⟨_,e⟩:=x;exact ZA e
 | xd fs=>obtain⟨_,⟨_,_,_,e,_⟩,_⟩:=x;exact ZA e
 | rng lo hi=>obtain⟨_,_,_,e⟩:=x;exact ZA e
 | frz ob u=>obtain⟨e,_⟩:=x;exact ZA e
 | tbl ps=>exact ZA (show h.get? a=some _ from x)
 | met f y=>exact ZA (show h.get? a=some _ from x)
 | ext φ=>obtain⟨_,⟨_,e⟩,_⟩:=x;exact ZA e
theorem Paired.Qx5{α β:Type}{F G:α->β->Prop}:∀{l₁:List α}{l₂:List β},Paired F l₁ l₂->(∀a b,F a b->G a b)->Paired G l₁ l₂
 | _,_,.nil,_=> .nil
 | _,_,.cons r t,f=> .cons (f _ _ r) (Paired.Qx5 t f)
theorem QcU.Qki(x:QcU P w H h a o)(k:∀b u,(b=a∨H b=some (.own a))->h.get? b=some u->h'.get? b=some u)
  (ho:∀b,H b=some (.own a)->H' b=some (.own a)) (ht:∀b xs,H b=some (.tup xs)->H' b=some (.tup xs)):QcU P w H' h' a o:=by
 induction o with
 | lst xs=>obtain⟨z,its,n,r,e⟩:=x;exact⟨z,its,n,r,k _ _ (.inl rfl) e⟩
 | tup xs=>obtain⟨z,its,r,ob,e,c⟩:=x;exact⟨z,its,r,ob,k _ _ (.inl rfl) e,c⟩
 | dK kvs=>obtain⟨z,y,vs,r,ob,es,ep,e,c⟩:=x;exact⟨z,y,vs,r,ob,es,ep,k _ _ (.inl rfl) e,c⟩
 | dT kvs=>
  obtain⟨z,y,xs,r,ob,es,ep,e,c⟩:=x
  exact⟨z,y,xs,Paired.Qx5 r λp q z=>⟨z.1,ht _ _ z.2.1,z.2.2⟩,ob,es,ep,k _ _ (.inl rfl) e,c⟩
 | set S n=>obtain⟨ob,es,ep,t,e,c⟩:=x;exact⟨ob,es,ep,t,k _ _ (.inl rfl) e,c⟩
 | ins C dx fs=>
  obtain⟨d,z,ne,e,mA,⟨od,es,ep,e2,c⟩,r⟩:=x
  exact⟨ho _ d,z,ne,k _ _ (.inl rfl) e,mA,⟨od,es,ep,k _ _ (.inr d) e2,c⟩,r⟩
 | own y=>obtain⟨ob,e⟩:=x;exact⟨ob,k _ _ (.inl rfl) e⟩
 | xd fs=>obtain⟨mA,⟨od,es,ep,e,c⟩,r⟩:=x;exact⟨mA,⟨od,es,ep,k _ _ (.inl rfl) e,c⟩,r⟩
 | rng lo hi=>obtain⟨t,u,v,e⟩:=x;exact⟨t,u,v,k _ _ (.inl rfl) e⟩
 | frz ob u ih=>obtain⟨e,q⟩:=x;exact⟨k _ _ (.inl rfl) e,ih q⟩
 | tbl ps=>
  have e:h.get? a=some {cls:= .none,data:= .fields ps}:=x
  show h'.get? a=some {cls:= .none,data:= .fields ps}
  exact k a _ (.inl rfl) e
 | met f y=>
  have e:h.get? a=some (PySem.W.methodObj (.ref f) (.ref y)):=x
  show h'.get? a=some (PySem.W.methodObj (.ref f) (.ref y))
  exact k a _ (.inl rfl) e
 | ext φ=>obtain⟨p,⟨o,e⟩,st⟩:=x;exact⟨st _ _ p λo q=>k _ _ (.inl rfl) q,⟨o,k _ _ (.inl rfl) e⟩,st⟩
theorem HOk.lt(x:HOk P w H h)(e:H a=some o):a<h.objs.size:=(x a o e).lt
theorem HOk.fresh(x:HOk P w H h)(e:h.objs.size<=a):H a=none:=by
 cases q:H a with
 | none=>rfl
 | some u=>exact absurd (Zu (x.lt q) e) (Zad _)
theorem HOk.kept(x:HOk P w H h)(k:∀b u,h.get? b=some u->h'.get? b=some u):HOk P w H h':=λa o e=>
 (x a o e).Qki (λb u _ q=>k b u q) (λ_ q=>q) λ_ _ q=>q
theorem HOk.laid(x:HOk P w H h)(k:∀b u,h.get? b=some u->h'.get? b=some u)(hp:h.objs.size<=a)(new:QcU P w (upd H a o) h' a o):HOk P w (upd H a o) h':=λb u e=>by
 have hn:=x.fresh hp
 by_cases hb:b=a
 ·subst hb;rw[Qaw]at e;cases e;exact new
 ·rw[QZ hb]at e
  exact(x b u e).Qki (λc v _ q=>k c v q) (λc q=>by rw[QZ (Qcd q hn)];exact q) λc xs q=>by rw[QZ (Qcd q hn)];exact q
end
def Rd(H:Hp)(a:Addr)(u:HO):Prop:=H a=some u∨∃o,H a=some (.frz o u)
theorem Rd.of{H:Hp}{a:Addr}{u:HO}(h:H a=some u):Rd H a u:= .inl h
theorem Rd.ok{P:Program}{w:World}{H:Hp}{h:Heap}{a:Addr}{u:HO}(r:Rd H a u)(x:HOk P w H h):QcU P w H h a u:=by
 rcases r with r | ⟨o,r⟩
 ·exact x a u r
 ·obtain⟨_,q⟩:=x a _ r
  exact q
noncomputable def Mut:Option HO->Prop
 | some (.lst _)=>True
 | some (.dK _)=>True
 | some (.dT _)=>True
 | some (.set _ _)=>True
 | some (.ins _ _ _)=>True
 | some (.ext _)=>True
 | _=>False
section
variable {P:Program}{w:World}{H:Hp}{h h':Heap}{x e:Addr}{o':HO}
theorem HOk.write(ok:HOk P w H h)(mu:Mut (H x))(he:e=x∨H e=some (.own x))(k:∀b u,b≠e->h.get? b=some u->h'.get? b=some u)(heo:∃u,h'.get? e=some u)
  (new:QcU P w (upd H x o') h' x o'):HOk P w (upd H x o') h':=λb u q=>by
 have nown:∀c y,H c=some (.own y)->c≠x:=λc y r z=>by subst z;rw[r]at mu;exact mu
 have ntup:∀c xs,H c=some (.tup xs)->c≠x:=λc xs r z=>by subst z;rw[r]at mu;exact mu
 by_cases hb:b=x
 ·subst hb;rw[Qaw]at q;cases q;exact new
 ·rw[QZ hb]at q
  by_cases hbe:b=e
  ·have q':H b=some (.own x):=by
    rcases he with z | z
    ·exact absurd (hbe.trans z) hb
    ·rw[hbe];exact z
   rw[q]at q';cases q'
   obtain⟨v,hv⟩:=heo
   exact⟨v,by rw[hbe];exact hv⟩
  ·refine(ok b u q).Qki (λc v hc r=>k c v ?_ r) (λc r=>by rw[QZ (nown c b r)];exact r) λc xs r=>by rw[QZ (ntup c xs r)];exact r
   rcases hc with rfl | hc
   ·exact hbe
   ·rintro rfl
    rcases he with z | z
    ·exact nown c b hc z
    ·rw[hc]at z;cases z;exact hb rfl
end
structure Un (fs ex:List Addr) (H H':Hp) (h h':Heap):Prop where
 keep:∀b o,h.get? b=some o->H b=none->b∉fs->b∉ex->h'.get? b=some o
 slot:∀b o,h.get? b=some o->H b=none->b∈fs->b∉ex->∃sl,h'.get? b=some {o with slots:=sl}
 free:∀b o,h.get? b=some o->H b=none->b∉ex->H' b=none
 there:∀b o,h.get? b=some o->b∉ex->∃o',h'.get? b=some o'
 tups:∀b xs,H b=some (.tup xs)->H' b=some (.tup xs)
 frzs:∀b o u,H b=some (.frz o u)->H' b=some (.frz o u)
 tbls:∀b ps,H b=some (.tbl ps)->∃more,H' b=some (.tbl (ps++more))
section
variable {fs fs' ex ex':List Addr}{H H1 H2:Hp}{h h1 h2 h':Heap}{a x e:Addr}{o:HO}
theorem Un.any(u:Un fs ex H H1 h h1){b:Addr}{ob:Obj}(q:h.get? b=some ob)(n:H b=none)(hx:b∉ex):∃sl,h1.get? b=some {ob with slots:=sl}:=by
 by_cases hb:b∈fs
 ·exact u.slot b ob q n hb hx
 ·exact⟨ob.slots,u.keep b ob q n hb hx⟩
theorem Un.trans(a:Un fs ex H H1 h h1)(b:Un fs ex H1 H2 h1 h2):Un fs ex H H2 h h2 where
 keep:=λc ob q n hc hx=>b.keep c ob (a.keep c ob q n hc hx) (a.free c ob q n hx) hc hx
 slot:=λc ob q n hc hx=>by
  obtain⟨sl,e1⟩:=a.slot c ob q n hc hx
  obtain⟨sl',e2⟩:=b.slot c _ e1 (a.free c ob q n hx) hc hx
  exact⟨sl',e2⟩
 free:=λc ob q n hx=>by
  obtain⟨o',e1⟩:=a.there c ob q hx
  exact b.free c o' e1 (a.free c ob q n hx) hx
 there:=λc ob q hx=>by
  obtain⟨o',e1⟩:=a.there c ob q hx
  exact b.there c o' e1 hx
 tups:=λc xs q=>b.tups c xs (a.tups c xs q)
 frzs:=λc ob xs q=>b.frzs c ob xs (a.frzs c ob xs q)
 tbls:=λc ps q=>by
  obtain⟨m1,e1⟩:=a.tbls c ps q
  obtain⟨m2,e2⟩:=b.tbls c _ e1
  exact⟨m1++m2,by rw[e2,Array.append_assoc]⟩
theorem Un.kept(k:∀b u,h.get? b=some u->h'.get? b=some u):Un fs ex H H h h':=
 ⟨λb ob q _ _ _=>k b ob q,λb ob q _ _ _=>⟨ob.slots,k b ob q⟩,λ_ _ _ n _=>n,λb ob q _=>⟨ob,k b ob q⟩,λ_ _ q=>q,λ_ _ _ q=>q,λ_ ps q=>⟨#[],by rw[q];simp⟩⟩
theorem Un.refl:Un fs ex H H h h:=Un.kept λ_ _ q=>q
theorem Un.laid(k:∀b u,h.get? b=some u->h'.get? b=some u)(hp:h.objs.size<=a)(hn:H a=none):Un fs ex H (upd H a o) h h' where
 keep:=λb u q _ _ _=>k b u q
 slot:=λb u q _ _ _=>⟨u.slots,k b u q⟩
 free:=λb u q n _=>by rw[QZ (ZU (Zu (ZA q) hp))];exact n
 there:=λb u q _=>⟨u,k b u q⟩
 tups:=λb xs q=>by rw[QZ (Qcd q hn)];exact q
 frzs:=λb u xs q=>by rw[QZ (Qcd q hn)];exact q
 tbls:=λb ps q=>⟨#[],by rw[QZ (Qcd q hn),q];simp⟩
theorem Un.write(mu:Mut (H x))(he:e=x∨H e=some (.own x))(k:∀b u,b≠e->h.get? b=some u->h'.get? b=some u)(heo:∃u,h'.get? e=some u):Un fs ex H (upd H x o) h h':=by
 have hx:∀b,H b=none->b≠x:=λb n z=>by subst z;rw[n]at mu;exact mu
 have hb:∀b,H b=none->b≠e:=λb n z=>by
  subst z
  rcases he with r | r
  ·exact hx b n r
  ·rw[n]at r;cases r
 have hm:∀b u,H b=some u->¬Mut (some u)->b≠x:=λb u q nm z=>by subst z;rw[q]at mu;exact nm mu
 refine⟨λb u q n _ _=>k b u (hb b n) q,λb u q n _ _=>⟨u.slots,k b u (hb b n) q⟩,λb u q n _=>by rw[QZ (hx b n)];exact n,λb u q _=>?_,
  λb xs q=>by rw[QZ (hm b _ q λz=>z)];exact q,λb u xs q=>by rw[QZ (hm b _ q λz=>z)];exact q,λb ps q=>⟨#[],by rw[QZ (hm b _ q λz=>z),q];simp⟩⟩
 by_cases hbe:b=e
 ·subst hbe;exact heo
 ·exact⟨u,k b u hbe q⟩
theorem Un.mono(u:Un fs ex H H1 h h1)(hs:∀b∈fs,b∈fs')(hx:∀b∈ex,b∈ex'):Un fs' ex' H H1 h h1:=
 ⟨λb ob q n hb he=>u.keep b ob q n (λz=>hb (hs b z)) λz=>he (hx b z),λ_ _ q n _ he=>u.any q n λz=>he (hx _ z),λb ob q n he=>u.free b ob q n λz=>he (hx b z),λb ob q he=>u.there b ob q λz=>he (hx b z),u.tups,u.frzs,u.tbls⟩
end
noncomputable def trk(h:Heap)(H:Hp):List Addr:=(List.range h.objs.size).filter λa=>(H a).isSome
noncomputable def QhC(h:Heap)(H:Hp):Heap:=PySem.W.hideAll h (trk h H)
theorem QsS(h:Heap)(H:Hp):(QhC h H).objs.size=h.objs.size:=PySem.W.hideAll_size _ _
theorem QvH{h:Heap}{H:Hp}{b:Addr}{o:Obj}(e:h.get? b=some o)(n:H b=none):(QhC h H).get? b=some o:=
 PySem.W.hideAll_get _ e λhm=>by
  have q:(H b).isSome=true:=(Zaq.mp hm).2
  rw[n]at q;simp at q
theorem QwX{h:Heap}{H:Hp}{b:Addr}{o:Obj}(e:(QhC h H).get? b=some o):h.get? b=some o/\H b=none:=by
 have e':h.get? b=some o:=PySem.W.of_hideAll (trk h H) e
 refine⟨e',?_⟩
 cases q:H b with
 | none=>rfl
 | some x=>
  have hm:b∈trk h H:=Zaq.mpr ⟨Zk.mpr (ZA e'),by simp[q]⟩
  have z:(QhC h H).get? b=none:=PySem.W.hideAll_none (trk h H) hm
  rw[z]at e;cases e
noncomputable def QxZ(g h:Heap)(L:Addr):List (Addr×Obj):=(List.range h.objs.size).filterMap λa=>if a=L∨(g.get? a).isSome=true then none else(h.get? a).map λo=>(a,o)
noncomputable def rest(g h:Heap)(L d:Addr):List (Addr×Obj):=(QxZ g h L).filter λp=>decide (p.1≠d)
end L2
namespace L2
open PySem PySem.Spec PyProof.Rows
structure Mod (K:PySem.W.Frag) (mg:Str->Option Value) (base:Heap):Prop where
 kin:K.In base
 glob:base.Ns mainGlobals mg
 blt:∃mb,base.Ns builtinsNs mb/\∀x:Str,x≠ "__name__" ->mb x=bootBuiltins x
 nolimit:base.NoLimit
structure Cx where
 prog:Program
 w:World
 K:PySem.W.Frag
 mg:Str->Option Value
 base:Heap
 A:Around
 N:List Str
 s₀:Shared
 H₀:Hp
 env:Env
 outer:List Env
 stack:List Env
 ex:List Addr
 fn:Str->Bool
 calm:Bool
 pn:List (Addr×Obj)
 xe:Value->Shared->Prop
noncomputable def frs(l:List Env):List Addr:=l.filterMap (·.frame)
noncomputable abbrev Cx.fs(X:Cx):List Addr:=frs X.outer
def Vis(sc:Scope)(x:Str):Prop:=sc.names.lookup x=some .local ∨sc.names.lookup x=some .cell∨sc.names.lookup x=some .free
def Loc(sc:Scope)(x:Str):Prop:=sc.names.lookup x=some .local ∨sc.names.lookup x=some .cell
def Look(env:Env)(h:Heap)(m:Str->Option Value)(x:Str)(u:Value):Prop:=
 (env.kindOf x=some .local /\m x=some u)∨((env.kindOf x=some .cell∨env.kindOf x=some .free)/\∃c,env.cells.lookup x=some c/\h.IsCell c (some u))
structure Cx.Ok (X:Cx):Prop where
 mod:Mod X.K X.mg X.base
 kind:X.env.scope.kind= .function
 glob:X.env.globals=mainGlobals
 blt:X.env.builtins=builtinsNs
 above:X.s₀.heap.objs.size<=X.env.locals
 inj:∀x y c,X.env.cells.lookup x=some c->X.env.cells.lookup y=some c->x=y
 has:∀x,(X.env.kindOf x=some .cell∨X.env.kindOf x=some .free)->∃c,X.env.cells.lookup x=some c
 cab:∀x c,X.fn x=true->X.env.cells.lookup x=some c->X.s₀.heap.objs.size<=c
 hd:X.calm=true->X.A.handled=none
 frames:X.A.frames=some X.stack
 stk:X.stack=X.outer∨(X.stack=X.env::X.outer/\X.env.frame=some X.env.locals)
 exf:∀b∈X.ex,b≠X.env.locals/\∀x c,X.env.cells.lookup x=some c->c≠b
 bs:∀b o,X.base.get? b=some o->X.s₀.heap.get? b=some o/\X.H₀ b=none
 bsz:X.base.objs.size<=X.s₀.heap.objs.size
 noex:∀b o,X.base.get? b=some o->b∉X.ex
 exfs:∀b∈X.ex,b∉X.fs
 Qd7:X.s₀.heap.FunFrames X.base X.outer
 frf:∀b∈X.fs,X.H₀ b=none
structure Inv (X:Cx) (pins:List (Addr×Obj)) (σ:List (Option V)) (H:Hp) (s:Shared):Prop where
 ok:X.Ok
 os:s.os=X.s₀.os
 bare:AllBare s.gens
 base:Un X.fs X.ex X.H₀ H X.s₀.heap s.heap
 loc:∃m,s.heap.Ns X.env.locals m/\∀(i:Nat) (x:Str) (v:V),X.N[i]? =some x->σ[i]? =some (some v)->Vis X.env.scope x->∃u,RelV v u/\Look X.env s.heap m x u
 cell:∀x c,X.env.cells.lookup x=some c->∃v,s.heap.IsCell c v
 free:H X.env.locals=none
 freeC:∀x c,X.env.cells.lookup x=some c->H c=none
 pin:∀p∈X.pn++pins,s.heap.get? p.1=some p.2/\H p.1=none/\p.1≠X.env.locals/\p.1∉X.fs/\∀v,p.2.data≠ .cell v
 hok:HOk X.prog X.w H s.heap
 len:σ.length=X.N.length
section
variable {X:Cx}{pins:List (Addr×Obj)}{σ:List (Option V)}{H H':Hp}{s:Shared}{h':Heap}
theorem Cx.Ok.QBc(ok:X.Ok){b:Addr}{o:Obj}(e:X.base.get? b=some o):b∉X.fs:=λhb=>by
 have:=(ok.Qd7.mem hb).1
 rw[e]at this;cases this
theorem Inv.bs(I:Inv X pins σ H s):∀b o,X.base.get? b=some o->s.heap.get? b=some o/\H b=none:=λb o e=>
 ⟨I.base.keep b o (I.ok.bs b o e).1 (I.ok.bs b o e).2 (I.ok.QBc e) (I.ok.noex b o e),I.base.free b o (I.ok.bs b o e).1 (I.ok.bs b o e).2 (I.ok.noex b o e)⟩
theorem Inv.bk(I:Inv X pins σ H s):∀b o,X.base.get? b=some o->s.heap.get? b=some o:=λb o e=>(I.bs b o e).1
theorem Inv.mod(I:Inv X pins σ H s):Mod X.K X.mg X.base:=I.ok.mod
theorem Inv.kIn(I:Inv X pins σ H s):X.K.In s.heap:=I.ok.mod.kin.keeps I.bk
theorem Inv.nolimit(I:Inv X pins σ H s):s.heap.NoLimit:=I.ok.mod.nolimit.keeps I.bk
theorem Inv.fr(I:Inv X pins σ H s):∃m,Fr X.base X.env.locals s.heap m:=
 let ⟨m,hn,_⟩:=I.loc
 ⟨m,hn,I.bk,Zi I.ok.bsz I.ok.above⟩
theorem Inv.lt(I:Inv X pins σ H s):X.env.locals<s.heap.objs.size:=let ⟨_,hn,_⟩:=I.loc;hn.lt
theorem Inv.sz(I:Inv X pins σ H s):X.s₀.heap.objs.size<=s.heap.objs.size:=Zi I.ok.above (Zbg I.lt)
theorem Inv.QA2(I:Inv X pins σ H s){a:Addr}(h:s.heap.objs.size<=a):a∉X.fs:=λhb=>by
 obtain⟨_,o,ho,_⟩:=I.ok.Qd7.mem hb
 exact absurd (Zu (ZA ho) (Zi I.sz h)) (Zad _)
theorem Inv.cne(I:Inv X pins σ H s):∀x c,X.env.cells.lookup x=some c->c≠X.env.locals:=λx c e z=>by
 obtain⟨v,o,ho,hd⟩:=I.cell x c e
 obtain⟨m,⟨o',es,ep,ho',hd',_⟩,_⟩:=I.loc
 rw[z,ho']at ho;cases ho;rw[hd']at hd;cases hd
theorem Inv.Qd7(I:Inv X pins σ H s):s.heap.FunFrames X.base X.outer:=by
 have all:∀(l:List Env),(∀b∈frs l,b∈X.fs)->X.s₀.heap.FunFrames X.base l->s.heap.FunFrames X.base l:=by
  intro l
  induction l with
  | nil=>intro _ _;trivial
  | cons env r ih=>
   intro hs hl
   obtain⟨hk,⟨L,o,hf,hn,ho,hd⟩,hr⟩:=hl
   have hL:L∈X.fs:=hs L (by unfold frs;rw[ZbG,hf];exact Zp)
   obtain⟨sl,e⟩:=I.base.slot L o ho (I.ok.frf L hL) hL λz=>I.ok.exfs L z hL
   exact⟨hk,⟨L,_,hf,hn,e,hd⟩,ih (λb hb=>hs b (by unfold frs;rw[ZbG,hf];exact Ze _ hb)) hr⟩
 exact all X.outer (λ_ hb=>hb) I.ok.Qd7
theorem Inv.stack(I:Inv X pins σ H s):s.heap.FunFrames X.base X.stack:=by
 rcases I.ok.stk with e | ⟨e,hf⟩
 ·rw[e];exact I.Qd7
 ·rw[e]
  obtain⟨m,hn,_⟩:=I.loc
  refine .cons (by rw[I.ok.kind];decide) hf hn ?_ I.Qd7
  exact Heap.get?_none_of_le (Zi I.ok.bsz I.ok.above)
theorem Inv.Qkq(I:Inv X pins σ H s):∀b∈frs X.stack,b∈X.env.locals::X.fs:=λb hb=>by
 rcases I.ok.stk with e | ⟨e,hf⟩
 ·rw[e]at hb;exact Ze _ hb
 ·rw[e]at hb
  unfold frs at hb
  rw[ZbG,hf]at hb
  exact hb
theorem Inv.Qqs(I:Inv X pins σ H s):∀b∈frs X.stack,H b=none:=λb hb=>by
 rcases Zq.mp (I.Qkq b hb)with e | hb
 ·rw[e];exact I.free
 ·obtain⟨_,o,ho,_⟩:=I.ok.Qd7.mem hb
  exact I.base.free b o ho (I.ok.frf b hb) λz=>I.ok.exfs b z hb
theorem Inv.step{g':Array GenState}{t':Nat}{d':Drawn}{ch:List Addr}(I:Inv X pins σ H s)
  (hch:∀b∈ch,(b∈X.ex∨X.s₀.heap.objs.size<=b)/\b≠X.env.locals/\(∀x c,X.env.cells.lookup x=some c->c≠b)/\∀p∈X.pn++pins,p.1≠b)
  (keep:∀b o,b≠X.env.locals->b∉X.fs->b∉ch->s.heap.get? b=some o->H b=none->h'.get? b=some o)
  (slot:∀b o,b≠X.env.locals->b∈X.fs->b∉ch->s.heap.get? b=some o->H b=none->∃sl,h'.get? b=some {o with slots:=sl}) (free:∀b o,b∉ch->s.heap.get? b=some o->H b=none->H' b=none)
  (there:∀b o,b∉ch->s.heap.get? b=some o->∃o',h'.get? b=some o')
  (tups:∀b xs,H b=some (.tup xs)->H' b=some (.tup xs)) (frzs:∀b o u,H b=some (.frz o u)->H' b=some (.frz o u)) (tbls:∀b ps,H b=some (.tbl ps)->∃more,H' b=some (.tbl (ps++more)))
  (ns:∀m,s.heap.Ns X.env.locals m->h'.Ns X.env.locals m) (hok:HOk X.prog X.w H' h') (hg:AllBare g'):
  Inv X pins σ H' {s with heap:=h',gens:=g',drawn:=d',toks:=t'}:=by
 have neL:∀b o,X.s₀.heap.get? b=some o->b≠X.env.locals:=λb o e=>ZU (Zu (ZA e) I.ok.above)
 have neC:∀b o,X.s₀.heap.get? b=some o->b∉X.ex->b∉ch:=λb o e hx hb=>by
  rcases(hch b hb).1 with z | z
  ·exact hx z
  ·exact absurd (Zu (ZA e) z) (Zad _)
 have cellK:∀x c,X.env.cells.lookup x=some c->∀v,s.heap.IsCell c v->h'.IsCell c v:=λx c e v ⟨o,ho,hd⟩=>by
  have nch:c∉ch:=λz=>(hch c z).2.2.1 x c e rfl
  by_cases hc:c∈X.fs
  ·obtain⟨sl,q⟩:=slot c o (I.cne x c e) hc nch ho (I.freeC x c e)
   exact⟨_,q,hd⟩
  ·exact⟨o,keep c o (I.cne x c e) hc nch ho (I.freeC x c e),hd⟩
 refine⟨I.ok,I.os,hg,⟨λb o e n hb hx=>?_,λb o e n hb hx=>?_,λb o e n hx=>?_,λb o e hx=>?_,λb xs e=>tups b xs (I.base.tups b xs e),λb o xs e=>frzs b o xs (I.base.frzs b o xs e),λb ps e=>?_⟩,?_,λx c e=>?_,?_,λx c e=>?_,λp hp=>?_,hok,I.len⟩
 ·exact keep b o (neL b o e) hb (neC b o e hx) (I.base.keep b o e n hb hx) (I.base.free b o e n hx)
 ·obtain⟨sl,e1⟩:=I.base.slot b o e n hb hx
  obtain⟨sl',e2⟩:=slot b _ (neL b o e) hb (neC b o e hx) e1 (I.base.free b o e n hx)
  exact⟨sl',e2⟩
 ·obtain⟨o',e1⟩:=I.base.there b o e hx
  exact free b o' (neC b o e hx) e1 (I.base.free b o e n hx)
 ·obtain⟨o',e1⟩:=I.base.there b o e hx
  exact there b o' (neC b o e hx) e1
 ·obtain⟨m1,e1⟩:=I.base.tbls b ps e
  obtain⟨m2,e2⟩:=tbls b _ e1
  exact⟨m1++m2,by rw[e2,Array.append_assoc]⟩
 ·obtain⟨m,hn,hl⟩:=I.loc
  refine⟨m,ns m hn,λi x v e1 e2 e3=>?_⟩
  obtain⟨u,r,l⟩:=hl i x v e1 e2 e3
  refine⟨u,r,?_⟩
  rcases l with l | ⟨k,c,e,z⟩
  ·exact .inl l
  ·exact .inr ⟨k,c,e,cellK x c e _ z⟩
 ·obtain⟨v,z⟩:=I.cell x c e
  exact⟨v,cellK x c e v z⟩
 ·obtain⟨m,⟨o,_,_,ho,_⟩,_⟩:=I.loc
  exact free _ o (λz=>(hch _ z).2.1 rfl) ho I.free
 ·obtain⟨v,o,ho,hd⟩:=I.cell x c e
  exact free c o (λz=>(hch c z).2.2.1 x c e rfl) ho (I.freeC x c e)
 ·obtain⟨e,n,ne,nf,d⟩:=I.pin p hp
  have nch:p.1∉ch:=λz=>(hch p.1 z).2.2.2 p hp rfl
  exact⟨keep p.1 p.2 ne nf nch e n,free p.1 p.2 nch e n,ne,nf,d⟩
theorem Inv.un{t':Nat}(I:Inv X pins σ H s)(u:Un X.fs [] H H' s.heap h')(hok:HOk X.prog X.w H' h'):Inv X pins σ H' {s with heap:=h',toks:=t'}:=by
 obtain⟨m,⟨o,es,ep,ho,r⟩,_⟩:=id I.loc
 obtain⟨sl,hL⟩:=u.any ho I.free (by simp)
 exact I.step (g':=s.gens) (d':=s.drawn) (ch:=[]) (λ_ z=>nomatch z) (λb o _ hb _ e n=>u.keep b o e n hb (by simp)) (λb o _ hb _ e n=>u.slot b o e n hb (by simp)) (λb o _ e n=>u.free b o e n (by simp)) (λb o _ e=>u.there b o e (by simp)) u.tups u.frzs u.tbls (λm' hm=>by
  obtain⟨o',es',ep',ho',r'⟩:=hm
  rw[ho]at ho';cases ho'
  exact⟨_,es',ep',hL,r'⟩) hok I.bare
theorem Inv.call{g':Array GenState}{t':Nat}{d':Drawn}{ch:List Addr}(I:Inv X pins σ H s)(u:Un (frs X.stack) ch H H' s.heap h')(hok:HOk X.prog X.w H' h')(hg:AllBare g')
  (hch:∀b∈ch,(b∈X.ex∨X.s₀.heap.objs.size<=b)/\b≠X.env.locals/\(∀x c,X.env.cells.lookup x=some c->c≠b)/\∀p∈X.pn++pins,p.1≠b):
  Inv X pins σ H' {s with heap:=h',gens:=g',drawn:=d',toks:=t'}:=by
 obtain⟨m,⟨o,es,ep,ho,r⟩,_⟩:=id I.loc
 obtain⟨sl,hL⟩:=u.any ho I.free λz=>(hch _ z).2.1 rfl
 exact I.step (ch:=ch) hch (λb o hL hb hc e n=>u.keep b o e n (λz=>(Zq.mp (I.Qkq b z)).elim hL hb) hc) (λb o _ _ hc e n=>u.any e n hc) (λb o hc e n=>u.free b o e n hc) (λb o hc e=>u.there b o e hc) u.tups u.frzs u.tbls (λm' hm=>by
  obtain⟨o',es',ep',ho',r'⟩:=hm
  rw[ho]at ho';cases ho'
  exact⟨_,es',ep',hL,r'⟩) hok hg
theorem Inv.turned{t':Nat}{it:Addr}(I:Inv X pins σ H s)(k:∀b o,b≠it->s.heap.get? b=some o->h'.get? b=some o)(hn:H it=none)(hL:it≠X.env.locals)
  (h1:it∈X.ex∨X.s₀.heap.objs.size<=it) (h2:∀x c,X.env.cells.lookup x=some c->c≠it) (h3:∀p∈X.pn++pins,p.1≠it):Inv X pins σ H {s with heap:=h',toks:=t'}:=by
 have nit:∀b u,H b=some u->b≠it:=λb u e z=>by rw[z,hn]at e;cases e
 refine I.step (g':=s.gens) (d':=s.drawn) (ch:=[it]) (λb hb=>?_) (λb o _ _ hc e _=>k b o (λz=>hc (by simp[z])) e) (λb o _ _ hc e _=>⟨o.slots,k b o (λz=>hc (by simp[z])) e⟩) (λ_ _ _ _ n=>n)
  (λb o hc e=>⟨o,k b o (λz=>hc (by simp[z])) e⟩) (λ_ _ e=>e) (λ_ _ _ e=>e) (λb ps e=>⟨#[],by rw[e];simp⟩) (λm hm=>?_) (λb u e=>?_) I.bare
 ·have e:b=it:=by simpa using hb
  subst e
  exact⟨h1,hL,h2,h3⟩
 ·obtain⟨o,es,ep,ho,r⟩:=hm
  exact⟨o,es,ep,k _ o (Ne.symm hL) ho,r⟩
 ·refine(I.hok b u e).Qki (λc v hc q=>k c v ?_ q) (λ_ q=>q) λ_ _ q=>q
  rcases hc with z | z
  ·rw[z];exact nit b u e
  ·exact nit c _ z
theorem Inv.tok(I:Inv X pins σ H s)(t:Nat):Inv X pins σ H {s with toks:=t}:=I.un (h':=s.heap) (t':=t) Un.refl I.hok
theorem Inv.kept{t':Nat}(I:Inv X pins σ H s)(k:∀b u,s.heap.get? b=some u->h'.get? b=some u):Inv X pins σ H {s with heap:=h',toks:=t'}:=I.un (Un.kept k) (I.hok.kept k)
theorem Inv.laid{a:Addr}{o:HO}{t':Nat}(I:Inv X pins σ H s)(k:∀b u,s.heap.get? b=some u->h'.get? b=some u)(hp:s.heap.objs.size<=a)(new:QcU X.prog X.w (upd H a o) h' a o):
  Inv X pins σ (upd H a o) {s with heap:=h',toks:=t'}:=I.un (Un.laid k hp (I.hok.fresh hp)) (I.hok.laid k hp new)
theorem Inv.write{x e:Addr}{o:HO}{t':Nat}(I:Inv X pins σ H s)(mu:Mut (H x))(he:e=x∨H e=some (.own x))(k:∀b u,b≠e->s.heap.get? b=some u->h'.get? b=some u)(heo:∃u,h'.get? e=some u)
  (new:QcU X.prog X.w (upd H x o) h' x o):Inv X pins σ (upd H x o) {s with heap:=h',toks:=t'}:=I.un (Un.write mu he k heo) (I.hok.write mu he k heo new)
theorem Inv.weak{σ':List (Option V)}(I:Inv X pins σ H s)(hl:σ'.length=σ.length)(w:∀(i:Nat) v,σ'[i]? =some (some v)->σ[i]? =some (some v)):Inv X pins σ' H s:=
 ⟨I.ok,I.os,I.bare,I.base,let ⟨m,hn,hl'⟩:=I.loc;⟨m,hn,λi x v e1 e2 e3=>hl' i x v e1 (w i v e2) e3⟩,I.cell,I.free,I.freeC,I.pin,I.hok,hl.trans I.len⟩
theorem Inv.QqK{pins':List (Addr×Obj)}(I:Inv X pins σ H s)(h:∀p∈pins',s.heap.get? p.1=some p.2/\H p.1=none/\p.1≠X.env.locals/\p.1∉X.fs/\∀v,p.2.data≠ .cell v):Inv X pins' σ H s:=
 ⟨I.ok,I.os,I.bare,I.base,I.loc,I.cell,I.free,I.freeC,λp hp=>(ZC.mp hp).elim (λz=>I.pin p (Zd _ z)) (h p),I.hok,I.len⟩
theorem Qo3{N:List Str}(hN:N.Nodup){i j:Nat}{x:Str}(a:N[i]? =some x)(b:N[j]? =some x):i=j:=by
 obtain⟨h1,e1⟩:=Zg.mp a
 obtain⟨h2,e2⟩:=Zg.mp b
 exact(List.getElem_inj hN).mp (e1.trans e2.symm)
theorem QmZ{M:Model}{A:Around}{E:Value->Shared->Prop}{i:Nat}{x:Str}{v:V}{u:Value}{Q:Unit->Shared->Prop}(I:Inv X pins σ H s)(hN:X.N.Nodup)(hi:X.N[i]? =some x)(hx:Loc X.env.scope x)(r:RelV v u)
  (h:∀s',Inv X pins (σ.set i (some v)) H s'->(∃a,Heap.SameBut a s.heap s'.heap/\(a=X.env.locals∨X.env.cells.lookup x=some a))->Q () s') (hf:X.fn x=true∨X.env.scope.names.lookup x=some .local :=by first | exact .inl rfl | exact .inr rfl | assumption):wpAny M A (storeName X.env x u) Q E s:=by
 obtain⟨m,hn,hl⟩:=id I.loc
 have hcls:(X.env.scope.kind == .class || (X.env.scope.kind == .module && X.env.locals != X.env.globals))=false:=by rw[I.ok.kind];rfl
 have hiσ:i<σ.length:=by rw[I.len];exact(Zg.mp hi).1
 have cne:=I.cne
 have tracked:∀{a:Addr}{h':Heap},(∃o,s.heap.get? a=some o/\H a=none)->Heap.SameBut a s.heap h'->HOk X.prog X.w H h':=λ{a h'} ha hs b ob e=>by
  obtain⟨_,_,hfree⟩:=ha
  refine(I.hok b ob e).Qki (λc w' hc q=>(hs.2 c ?_).trans q) (λ_ q=>q) λ_ _ q=>q
  rintro rfl
  rcases hc with rfl | hc
  ·rw[hfree]at e;cases e
  ·rw[hfree]at hc;cases hc
 rcases hx with hk | hk
 ·refine wpAny_storeName_local hk hn (λh' hn' hs=>?_) hcls
  obtain⟨oL,_,_,hoL,_⟩:=id hn
  refine h _ ⟨I.ok,I.os,I.bare,⟨λb o e n hb hx=>?_,λb o e n hb hx=>?_,I.base.free,λb o e hx=>?_,I.base.tups,I.base.frzs,I.base.tbls⟩,⟨_,hn',λj y v' e1 e2 e3=>?_⟩,λy c e=>?_,I.free,I.freeC,λp hp=>?_,tracked ⟨oL,hoL,I.free⟩ hs,by simpa using I.len⟩ ⟨_,hs,.inl rfl⟩
  ·exact(hs.2 b (ZU (Zu (ZA e) I.ok.above))).trans (I.base.keep b o e n hb hx)
  ·obtain⟨sl,e1⟩:=I.base.slot b o e n hb hx
   exact⟨sl,(hs.2 b (ZU (Zu (ZA e) I.ok.above))).trans e1⟩
  ·obtain⟨o',e1⟩:=I.base.there b o e hx
   exact⟨o',(hs.2 b (ZU (Zu (ZA e) I.ok.above))).trans e1⟩
  ·by_cases hj:j=i
   ·subst hj
    rw[hi]at e1;cases e1
    rw[Zl hiσ]at e2
    cases e2
    exact⟨u,r,.inl ⟨hk,by simp⟩⟩
   ·rw[Zc (Ne.symm hj)]at e2
    obtain⟨u',r',q⟩:=hl j y v' e1 e2 e3
    refine⟨u',r',?_⟩
    rcases q with⟨k,e⟩ | ⟨k,c,e,z⟩
    ·refine .inl ⟨k,?_⟩
     have:y≠x:=λe=>hj (Qo3 hN e1 (e▸hi))
     simp[this,e]
    ·exact .inr ⟨k,c,e,z.sameBut hs (cne y c e)⟩
  ·obtain⟨w',z⟩:=I.cell y c e
   exact⟨w',z.sameBut hs (cne y c e)⟩
  ·obtain⟨e,n,ne,nf,d⟩:=I.pin p hp
   exact⟨(hs.2 p.1 ne).trans e,n,ne,nf,d⟩
 ·have hfn:X.fn x=true:=by
   rcases hf with z | z
   ·exact z
   ·rw[z]at hk;cases hk
  obtain⟨c,hc⟩:=I.ok.has x (.inl hk)
  obtain⟨w',z⟩:=I.cell x c hc
  refine wpAny_storeName_cell I.ok.kind hk hc z (λh' hc' hs=>?_)
  obtain⟨oc,hoc,hocd⟩:=id z
  refine h {s with heap:=h'} ⟨I.ok,I.os,I.bare,⟨λb o e n hb hx=>?_,λb o e n hb hx=>?_,I.base.free,λb o e hx=>?_,I.base.tups,I.base.frzs,I.base.tbls⟩,⟨m,hn.sameBut hs (Ne.symm (cne x c hc)),λj y v' e1 e2 e3=>?_⟩,λy c' e=>?_,I.free,I.freeC,λp hp=>?_,tracked ⟨oc,hoc,I.freeC x c hc⟩ hs,by simpa using I.len⟩ ⟨c,hs,.inr hc⟩
  ·exact(hs.2 b (ZU (Zu (ZA e) (I.ok.cab x c hfn hc)))).trans (I.base.keep b o e n hb hx)
  ·obtain⟨sl,e1⟩:=I.base.slot b o e n hb hx
   exact⟨sl,(hs.2 b (ZU (Zu (ZA e) (I.ok.cab x c hfn hc)))).trans e1⟩
  ·obtain⟨o',e1⟩:=I.base.there b o e hx
   exact⟨o',(hs.2 b (ZU (Zu (ZA e) (I.ok.cab x c hfn hc)))).trans e1⟩
  ·by_cases hj:j=i
   ·subst hj
    rw[hi]at e1;cases e1
    rw[Zl hiσ]at e2
    cases e2
    exact⟨u,r,.inr ⟨.inl hk,c,hc,hc'⟩⟩
   ·rw[Zc (Ne.symm hj)]at e2
    obtain⟨u',r',q⟩:=hl j y v' e1 e2 e3
    refine⟨u',r',?_⟩
    rcases q with q | ⟨k,c',e,z'⟩
    ·exact .inl q
    ·refine .inr ⟨k,c',e,z'.sameBut hs ?_⟩
     rintro rfl
     exact hj (Qo3 hN e1 (I.ok.inj _ _ _ e hc▸hi))
  ·by_cases hcc:c'=c
   ·subst hcc;exact⟨_,hc'⟩
   ·obtain⟨w2,z2⟩:=I.cell y c' e
    exact⟨w2,z2.sameBut hs hcc⟩
  ·obtain⟨e,n,ne,nf,d⟩:=I.pin p hp
   refine⟨(hs.2 p.1 ?_).trans e,n,ne,nf,d⟩
   intro q
   rw[q,hoc]at e
   have q':oc=p.2:=Option.some.inj e
   exact d w' (by rw[← q'];exact hocd)
theorem Qop{M:Model}{A:Around}{E:Value->Shared->Prop}{i:Nat}{x:Str}{v:V}{u:Value}{Q:Unit->Shared->Prop}(I:Inv X pins σ H s)(hN:X.N.Nodup)(hi:X.N[i]? =some x)(hx:Loc X.env.scope x)(r:RelV v u)
  (h:∀s',Inv X pins (σ.set i (some v)) H s'->Q () s') (hf:X.fn x=true∨X.env.scope.names.lookup x=some .local :=by first | exact .inl rfl | exact .inr rfl | assumption):wpAny M A (storeName X.env x u) Q E s:=
 QmZ I hN hi hx r (λs' I' _=>h s' I') hf
theorem Inv.QAt{s':Shared}{ch:List Addr}(I:Inv X pins σ H s)(ho:s'.os=s.os)(u:Un (frs X.stack) ch H H' s.heap s'.heap)(hok:HOk X.prog X.w H' s'.heap)(hg:AllBare s'.gens)
  (hch:∀b∈ch,(b∈X.ex∨X.s₀.heap.objs.size<=b)/\b≠X.env.locals/\(∀x c,X.env.cells.lookup x=some c->c≠b)/\∀p∈X.pn++pins,p.1≠b):Inv X pins σ H' s':=by
 obtain⟨h',g',d',t',o'⟩:=s'
 have e:o'=s.os:=ho
 subst e
 exact I.call (g':=g') (t':=t') (d':=d') u hok hg hch
end
noncomputable abbrev XK:=Value->Option Addr->Hp->Prop
noncomputable abbrev St:=List (Option V)
noncomputable abbrev VK:=V->Hp->Prop
noncomputable abbrev TE:=St->Hp->VK->Prop
noncomputable abbrev TT:=St->Hp->(Bool->Hp->Prop)->Prop
noncomputable abbrev TA:=St->Hp->(List V->Hp->Prop)->Prop
structure Ends where
 nx:St->Hp->Prop
 rt:VK
 bk:St->Hp->Prop:=λ_ _=>False
 ct:St->Hp->Prop:=λ_ _=>False
noncomputable abbrev TS:=Ends->St->Hp->Prop
def EP(X:Cx)(pins:List (Addr×Obj))(σ:St)(Q:VK)(u:Value)(s':Shared):Prop:=∃v H',Inv X pins σ H' s'/\RelV v u/\Q v H'
def TP(X:Cx)(pins:List (Addr×Obj))(σ:St)(Q:Bool->Hp->Prop)(b:Bool)(s':Shared):Prop:=∃H',Inv X pins σ H' s'/\Q b H'
def AP(X:Cx)(pins:List (Addr×Obj))(σ:St)(Q:List V->Hp->Prop)(us:List Value)(s':Shared):Prop:=∃vs H',Inv X pins σ H' s'/\QF vs us/\Q vs H'
def SP(X:Cx)(pins:List (Addr×Obj))(D:Ends)(f:Flow)(s':Shared):Prop:=
 match f with
 | .next=>∃σ' H',Inv X pins σ' H' s'/\D.nx σ' H'
 | .brk=>∃σ' H',Inv X pins σ' H' s'/\D.bk σ' H'
 | .cont=>∃σ' H',Inv X pins σ' H' s'/\D.ct σ' H'
 | .ret u=>∃v σ' H',Inv X pins σ' H' s'/\RelV v u/\D.rt v H'
def PE(X:Cx)(e:Expr)(t:TE):Prop:=
 ∀(pins:List (Addr×Obj)) (s:Shared) (σ:St) (H:Hp) (Q:VK),Inv X pins σ H s->t σ H Q->wpAny (model X.prog X.w) X.A (eval e X.env) (EP X pins σ Q) X.xe s
def PT(X:Cx)(e:Expr)(t:TT):Prop:=
 ∀(pins:List (Addr×Obj)) (s:Shared) (σ:St) (H:Hp) (Q:Bool->Hp->Prop),Inv X pins σ H s->t σ H Q->wpAny (model X.prog X.w) X.A (isTrue e X.env (eval e X.env)) (TP X pins σ Q) X.xe s
def PW(X:Cx)(e:Expr)(t:TT):Prop:=
 ∀(whole:Sem Value) (pins:List (Addr×Obj)) (s:Shared) (σ:St) (H:Hp) (Q:Bool->Hp->Prop),Inv X pins σ H s->t σ H Q->wpAny (model X.prog X.w) X.A (isTrue e X.env whole) (TP X pins σ Q) X.xe s
theorem PW.pt{X:Cx}{e:Expr}{t:TT}(h:PW X e t):PT X e t:=h _
def PA(X:Cx)(es:List Expr)(t:TA):Prop:=
 ∀(pos:Pos) (pins:List (Addr×Obj)) (s:Shared) (σ:St) (H:Hp) (Q:List V->Hp->Prop),Inv X pins σ H s->t σ H Q->wpAny (model X.prog X.w) X.A (spliced (backTo pos (starEach es X.env))) (AP X pins σ Q) X.xe s
def PS(X:Cx)(st:Stmt)(t:TS):Prop:=
 ∀(pins:List (Addr×Obj)) (s:Shared) (σ:St) (H:Hp) (D:Ends),Inv X pins σ H s->t D σ H->wpAny (model X.prog X.w) X.A (exec st X.env) (SP X pins D) X.xe s
def PSs(X:Cx)(st:List Stmt)(t:TS):Prop:=
 ∀(pins:List (Addr×Obj)) (s:Shared) (σ:St) (H:Hp) (D:Ends),Inv X pins σ H s->t D σ H->wpAny (model X.prog X.w) X.A (execs st X.env) (SP X pins D) X.xe s
theorem thn{α:Type}{t:Sem α}{Q Q':α->Shared->Prop}{M:Model}{A:Around}{E:Value->Shared->Prop}{s:Shared}(h:wpAny M A t Q E s)(hQ:∀a s,Q a s->Q' a s):wpAny M A t Q' E s:=wpAny_mono h hQ λ_ _ x=>x
end L2
namespace L2
open PySem PySem.Spec PyProof.Rows
section
variable {X:Cx}
noncomputable def Qf1(i:Nat):TE:=λσ H Q=>∃v,σ[i]? =some (some v)/\Q v H
noncomputable def tC(v:V):TE:=λ_ H Q=>Q v H
theorem QsU{i:Nat}{x:Str}{pos:Pos}(hN:X.N[i]? =some x)(hv:Vis X.env.scope x)(hd:(x == ("__debug__" :Str))=false:=by decide)(hcd:(x == ("__classdict__" :Str))=false:=by decide):PE X (.Name x pos) (Qf1 i):=by
 intro pins s σ H Q I h
 obtain⟨v,e,h⟩:=h
 obtain⟨m,hn,hl⟩:=I.loc
 obtain⟨u,r,l⟩:=hl i x v hN e hv
 have fin:EP X pins σ Q u s:=⟨v,H,I,r,h⟩
 rcases l with⟨hk,hm⟩ | ⟨hk,c,hc,hcell⟩
 ·exact wpAny_Name (wpAny_loadName_local I.ok.kind hk hn hm fin) hd
 ·rcases hk with hk | hk
  ·exact wpAny_Name (wpAny_loadName_cell I.ok.kind hk hc hcell fin) hd
  ·exact wpAny_Name (wpAny_loadName_free I.ok.kind hk hc hcell fin hcd) hd
theorem Qy4{i j pos}:PE X (.Constant (.int i) j pos) (tC (.int i)):=λ_ _ _ H _ I h=>wpAny_Constant_int ⟨.int i,H,I.tok _,⟨_,rfl⟩,h⟩
theorem QAw{b j pos}:PE X (.Constant (.bool b) j pos) (tC (.bl b)):=λ_ _ _ H _ I h=>Constant_bool ⟨.bl b,H,I,rfl,h⟩
theorem QyF{j pos}:PE X (.Constant .none j pos) (tC .non):=λ_ _ _ H _ I h=>Constant_none ⟨.non,H,I,rfl,h⟩
theorem QyI{x j pos}:PE X (.Constant (.str x) j pos) (tC (.str x)):=λ_ _ _ H _ I h=>Calls.Constant_str ⟨.str x,H,I.tok _,⟨_,rfl⟩,h⟩
def Gl(X:Cx)(x:Str):Prop:=X.env.kindOf x=some .globalImplicit
theorem Ql5{E:Value->Shared->Prop}{pins:List (Addr×Obj)}{s:Shared}{σ:St}{H:Hp}{x:Str}{u:Value}{pos:Pos}{Q:Value->Shared->Prop}(I:Inv X pins σ H s)(hg:Gl X x)(hm:X.mg x=some u)(h:Q u s)
  (hd:(x == ("__debug__" :Str))=false:=by decide):wpAny (model X.prog X.w) X.A (eval (.Name x pos) X.env) Q E s:=
 Calls.Name_function_global I.ok.kind hg (Calls.loadGlobal_global (by rw[I.ok.glob];exact I.mod.glob.keeps I.bk) hm h) hd
theorem QdW{E:Value->Shared->Prop}{pins:List (Addr×Obj)}{s:Shared}{σ:St}{H:Hp}{x:Str}{u:Value}{pos:Pos}{Q:Value->Shared->Prop}(I:Inv X pins σ H s)(hg:Gl X x)(hm:X.mg x=none)(hv:bootBuiltins x=some u)(h:Q u s)
  (hn:x≠ "__name__" :=by decide) (hd:(x == ("__debug__" :Str))=false:=by decide):wpAny (model X.prog X.w) X.A (eval (.Name x pos) X.env) Q E s:=by
 obtain⟨mb,h1,h2⟩:=I.mod.blt
 exact Calls.Name_function_global I.ok.kind hg (Calls.loadGlobal_builtin (by rw[I.ok.glob];exact I.mod.glob.keeps I.bk) hm (by rw[I.ok.blt];exact h1.keeps I.bk) ((h2 x hn).trans hv) h) hd
theorem Qxg{x:Str}{v:V}{u:Value}{pos:Pos}(hg:Gl X x)(hm:X.mg x=some u)(r:RelV v u)(hd:(x == ("__debug__" :Str))=false:=by decide):PE X (.Name x pos) (tC v):=
 λ_ _ _ H _ I h=>Ql5 I hg hm ⟨v,H,I,r,h⟩ hd
theorem Qhb{x:Str}{v:V}{u:Value}{pos:Pos}(hg:Gl X x)(hm:X.mg x=none)(hv:bootBuiltins x=some u)(r:RelV v u)(hn:x≠ "__name__" :=by decide)(hd:(x == ("__debug__" :Str))=false:=by decide):PE X (.Name x pos) (tC v):=
 λ_ _ _ H _ I h=>QdW I hg hm hv ⟨v,H,I,r,h⟩ hn hd
variable {a b:Expr}{ta tb:TE}{pos:Pos}
variable {tA tB':TT}{rest:List Expr}
noncomputable def QBe(t u:TT):TT:=λσ H Q=>t σ H λc H1=>if c=true then u σ H1 Q else Q false H1
noncomputable def tOr(t u:TT):TT:=λσ H Q=>t σ H λc H1=>if c=true then Q true H1 else u σ H1 Q
noncomputable def QBD(t:TT):TT:=λσ H Q=>t σ H λc H1=>Q (!c) H1
theorem Qwf(ha:PT X a tA):PW X (.BoolOp .And [a] pos) tA:=by
 intro wh pins s σ H Q I h
 refine isTrue_and (thn (ha pins s σ H Q I h) λc s1 e=>?_)
 cases c with
 | true=>exact isTrue_and_nil e
 | false=>exact e
theorem Qyc(ha:PT X a tA):PW X (.BoolOp .Or [a] pos) tA:=by
 intro wh pins s σ H Q I h
 refine isTrue_or (thn (ha pins s σ H Q I h) λc s1 e=>?_)
 cases c with
 | false=>exact isTrue_or_nil e
 | true=>exact e
theorem QzL(ha:PT X a tA)(hb:PW X (.BoolOp .And (b::rest) pos) tB'):PW X (.BoolOp .And (a::b::rest) pos) (QBe tA tB'):=by
 intro wh pins s σ H Q I h
 refine isTrue_and (thn (ha pins s σ H _ I h) λc s1 ⟨H1,I1,q1⟩=>?_)
 cases c with
 | true=>exact hb wh pins s1 σ H1 Q I1 q1
 | false=>exact⟨H1,I1,q1⟩
theorem QAN(ha:PT X a tA)(hb:PW X (.BoolOp .Or (b::rest) pos) tB'):PW X (.BoolOp .Or (a::b::rest) pos) (tOr tA tB'):=by
 intro wh pins s σ H Q I h
 refine isTrue_or (thn (ha pins s σ H _ I h) λc s1 ⟨H1,I1,q1⟩=>?_)
 cases c with
 | true=>exact⟨H1,I1,q1⟩
 | false=>exact hb wh pins s1 σ H1 Q I1 q1
theorem Qy8(ha:PT X a tA):PT X (.UnaryOp .Not a pos) (QBD tA):=by
 intro pins s σ H Q I h
 exact isTrue_not (ha pins s σ H (λc H1=>Q (!c) H1) I h)
theorem Qzg{op}{t:TE}(h:PE X a t):PE X (.BoolOp op [a] pos) t:=λpins s σ H Q I hw=>BoolOp_one (h pins s σ H Q I hw)
noncomputable def tIf(t:TT)(ta tb:TE):TE:=λσ H Q=>t σ H λc H1=>if c=true then ta σ H1 Q else tb σ H1 Q
theorem QvR{c:Expr}(hc:PT X c tA)(ha:PE X a ta)(hb:PE X b tb):PE X (.IfExp c a b pos) (tIf tA ta tb):=by
 intro pins s σ H Q I h
 refine wpAny_IfExp (thn (hc pins s σ H _ I h) λd s1 ⟨H1,I1,q1⟩=>?_)
 cases d with
 | true=>exact ha pins s1 σ H1 Q I1 q1
 | false=>exact hb pins s1 σ H1 Q I1 q1
end
end L2
namespace L2
open PySem PySem.Spec PyProof.Rows
def SqL(K:PySem.W.Frag)(H:Hp)(a:Addr)(xs:List V):Prop:=
 Rd H a (.lst xs)∨
  ∃(o:Obj) (its:Array Value) (n:Nat),K.lookup a=some o/\o.cls= .type "list" /\o.dict=none/\o.data= .seq its n/\its.size<=sizeLine/\QF xs its.toList
def SqT(K:PySem.W.Frag)(H:Hp)(a:Addr)(xs:List V):Prop:=
 Rd H a (.tup xs)∨
  ∃(o:Obj) (its:Array Value) (n:Nat),K.lookup a=some o/\o.cls= .type "tuple" /\o.data= .seq its n/\its.size<=sizeLine/\QF xs its.toList
noncomputable def QBM:Value->Option V
 | .none=>some .non
 | .bool b=>some (.bl b)
 | .int i _=>some (.int i)
 | .str x _=>some (.str x)
 | .bytes b _=>some (.byt b)
 | .float b _=>some (.flt b)
 | .ref a=>some (.ref a)
 | .type n=>some (.ty n)
 | _=>none
theorem RelV.abs{x:V}{u:Value}(r:RelV x u):QBM u=some x:=by
 cases x with
 | non=>cases r;rfl
 | bl _=>cases r;rfl
 | int _=>obtain⟨t,rfl⟩:=r;rfl
 | str _=>obtain⟨t,rfl⟩:=r;rfl
 | byt _=>obtain⟨t,rfl⟩:=r;rfl
 | flt _=>obtain⟨t,rfl⟩:=r;rfl
 | ref _=>cases r;rfl
 | ty _=>cases r;rfl
theorem RelV.inj{x y:V}{u:Value}(r:RelV x u)(q:RelV y u):x=y:=Option.some.inj (r.abs.symm.trans q.abs)
theorem QF.inj:∀{xs ys:List V}{us:List Value},QF xs us->QF ys us->xs=ys
 | _,_,_,.nil,.nil=>rfl
 | _,_,_,.cons r t,.cons r' t'=>by rw[r.inj r',QF.inj t t']
section
variable {X:Cx}{pins:List (Addr×Obj)}{σ:St}{H:Hp}{s:Shared}{a:Addr}{xs ys:List V}
theorem SqL.of{K:PySem.W.Frag}(h:H a=some (.lst xs)):SqL K H a xs:= .inl (.inl h)
theorem SqT.of{K:PySem.W.Frag}(h:H a=some (.tup xs)):SqT K H a xs:= .inl (.inl h)
theorem Inv.list(I:Inv X pins σ H s)(h:SqL X.K H a xs):∃its:List Value,QF xs its/\PlainL s.heap a its.toArray/\xs.length<=sizeLine:=by
 rcases h with h | ⟨o,its,n,hk,hc,hd,hs,hz,r⟩
 ·obtain⟨z,its,n,r,e⟩:=h.ok I.hok
  exact⟨its,r,⟨_,n,e,rfl,rfl,rfl⟩,z⟩
 ·refine⟨its.toList,r,⟨o,n,I.kIn a o hk,hc,hd,by simpa using hs⟩,?_⟩
  have e:=r.length
  simp only[Array.length_toList]at e
  omega
theorem Inv.tuple(I:Inv X pins σ H s)(h:SqT X.K H a xs):∃its:List Value,QF xs its/\IsTup s.heap a its.toArray/\xs.length<=sizeLine:=by
 rcases h with h | ⟨o,its,n,hk,hc,hs,hz,r⟩
 ·obtain⟨z,its,r,p⟩:=h.ok I.hok
  exact⟨its,r,p,z⟩
 ·refine⟨its.toList,r,⟨o,I.kIn a o hk,hc,n,by simpa using hs⟩,?_⟩
  have e:=r.length
  simp only[Array.length_toList]at e
  omega
theorem Inv.QhV(I:Inv X pins σ H s)(h:SqL X.K H a xs)(h':SqL X.K H a ys):xs=ys:=by
 obtain⟨its,r,⟨o,n,e,_,_,d⟩,_⟩:=I.list h
 obtain⟨its',r',⟨o',n',e',_,_,d'⟩,_⟩:=I.list h'
 rw[e]at e';cases e'
 rw[d]at d'
 injection d' with d1 _
 have:its=its':=by simpa using congrArg Array.toList d1
 subst this
 exact r.inj r'
theorem Inv.QtF(I:Inv X pins σ H s)(h:SqT X.K H a xs)(h':SqT X.K H a ys):xs=ys:=by
 obtain⟨its,r,⟨o,e,_,n,d⟩,_⟩:=I.tuple h
 obtain⟨its',r',⟨o',e',_,n',d'⟩,_⟩:=I.tuple h'
 rw[e]at e';cases e'
 rw[d]at d'
 injection d' with d1 _
 have:its=its':=by simpa using congrArg Array.toList d1
 subst this
 exact r.inj r'
end
noncomputable abbrev Cx.Qe1(X:Cx)(E:Value->Shared->Prop):Cx:={X with xe:=E}
noncomputable abbrev Cx.nox(X:Cx):Cx:=X.Qe1 λ_ _=>False
theorem Cx.Ok.Qe1{X:Cx}(ok:X.Ok)(E:Value->Shared->Prop):(X.Qe1 E).Ok:=
 ⟨ok.mod,ok.kind,ok.glob,ok.blt,ok.above,ok.inj,ok.has,ok.cab,ok.hd,ok.frames,ok.stk,ok.exf,ok.bs,ok.bsz,ok.noex,ok.exfs,ok.Qd7,ok.frf⟩
theorem Cx.Ok.QdT{X:Cx}{E:Value->Shared->Prop}(ok:(X.Qe1 E).Ok):X.Ok:=
 ⟨ok.mod,ok.kind,ok.glob,ok.blt,ok.above,ok.inj,ok.has,ok.cab,ok.hd,ok.frames,ok.stk,ok.exf,ok.bs,ok.bsz,ok.noex,ok.exfs,ok.Qd7,ok.frf⟩
section
variable {X:Cx}{pins:List (Addr×Obj)}{σ:St}{H:Hp}{s:Shared}{E:Value->Shared->Prop}
theorem Inv.Qe1(I:Inv X pins σ H s)(E:Value->Shared->Prop):Inv (X.Qe1 E) pins σ H s:=⟨I.ok.Qe1 E,I.os,I.bare,I.base,I.loc,I.cell,I.free,I.freeC,I.pin,I.hok,I.len⟩
theorem Inv.QdT(I:Inv (X.Qe1 E) pins σ H s):Inv X pins σ H s:=⟨I.ok.QdT,I.os,I.bare,I.base,I.loc,I.cell,I.free,I.freeC,I.pin,I.hok,I.len⟩
theorem SP.QdT{D:Ends}{f:Flow}{s':Shared}(h:SP (X.Qe1 E) pins D f s'):SP X pins D f s':=by
 cases f with
 | next=>obtain⟨σ',H',I,q⟩:=h;exact⟨σ',H',I.QdT,q⟩
 | brk=>obtain⟨σ',H',I,q⟩:=h;exact⟨σ',H',I.QdT,q⟩
 | cont=>obtain⟨σ',H',I,q⟩:=h;exact⟨σ',H',I.QdT,q⟩
 | ret u=>obtain⟨v,σ',H',I,r,q⟩:=h;exact⟨v,σ',H',I.QdT,r,q⟩
theorem PE.nox{e:Expr}{t:TE}(h:PE X.nox e t):PE X e t:=λpins s σ H Q I hw=>
 wpAny_mono (h pins s σ H Q (I.Qe1 _) hw) (λ_ _ ⟨v,H',I',r,q⟩=>⟨v,H',I'.QdT,r,q⟩) λ_ _ z=>False.elim z
theorem PT.nox{e:Expr}{t:TT}(h:PT X.nox e t):PT X e t:=λpins s σ H Q I hw=>
 wpAny_mono (h pins s σ H Q (I.Qe1 _) hw) (λ_ _ ⟨H',I',q⟩=>⟨H',I'.QdT,q⟩) λ_ _ z=>False.elim z
theorem PSs.nox{st:List Stmt}{t:TS}(h:PSs X.nox st t):PSs X st t:=λpins s σ H D I hw=>
 wpAny_mono (h pins s σ H D (I.Qe1 _) hw) (λ_ _ q=>q.QdT) λ_ _ z=>False.elim z
end
section
variable {X:Cx}{st:Stmt}{rest:List Stmt}{t u:TS}{e:Expr}{te:TE}{pos:Pos}
noncomputable def Qrm:TS:=λD σ H=>D.nx σ H
noncomputable def Qu1(t u:TS):TS:=λD σ H=>t {D with nx:=u D} σ H
theorem QwM:PSs X [] Qrm:=λ_ _ σ H _ I h=>wpAny_execs_nil ⟨σ,H,I,h⟩
theorem QcV(h1:PS X st t)(h2:PSs X rest u):PSs X (st::rest) (Qu1 t u):=by
 intro pins s σ H D I h
 refine wpAny_execs_cons (thn (h1 pins s σ H {D with nx:=u D} I h) λf s1 q=>?_)
 cases f with
 | next=>
  obtain⟨σ',H',I',q⟩:=q
  exact h2 pins s1 σ' H' D I' q
 | ret v=>exact q
 | brk=>exact q
 | cont=>exact q
noncomputable def QzU:TS:=λD σ H=>D.bk σ H
noncomputable def QAi:TS:=λD σ H=>D.ct σ H
theorem Qwp:PS X (.Pass pos) Qrm:=λ_ _ σ H _ I h=>wpAny_Pass ⟨σ,H,I,h⟩
theorem QuB:PS X (.Break pos) QzU:=λ_ _ σ H _ I h=>wpAny_Break ⟨σ,H,I,h⟩
theorem QpR:PS X (.Continue pos) QAi:=λ_ _ σ H _ I h=>wpAny_Continue ⟨σ,H,I,h⟩
theorem Inv.quiet{pins:List (Addr×Obj)}{σ:St}{H:Hp}{s:Shared}(I:Inv X pins σ H s):interactive X.env=false:=by simp[interactive,I.ok.kind]
theorem Qzv{x j pos pos'}:PS X (.Expr (.Constant (.str x) j pos) pos') Qrm:=λ_ s σ H _ I h=>wpAny_Expr (Calls.Constant_str (show SP X _ _ .next {s with toks:=s.toks+1}from⟨σ,H,I.tok _,h⟩)) I.quiet
noncomputable def Qnv(te:TE):TS:=λD σ H=>te σ H λ_ H1=>D.nx σ H1
theorem Qmi(he:PE X e te)(hs:swapsWith e none pos.line X.env=pure false:=by rfl):PS X (.Expr e pos) (Qnv te):=by
 intro pins s σ H D I h
 exact wpAny_Expr_any (thn (he pins s σ H _ I h) λv s1 ⟨x,H1,I1,r1,q1⟩=>⟨σ,H1,I1,q1⟩) I.quiet hs
noncomputable def QBK(te:TE):TS:=λD σ H=>te σ H D.rt
theorem Qx6(he:PE X e te):PS X (.Return (some e) pos) (QBK te):=by
 intro pins s σ H D I h
 exact wpAny_Return_some (thn (he pins s σ H _ I h) λv s1 ⟨x,H1,I1,r1,q1⟩=>⟨x,σ,H1,I1,r1,q1⟩)
noncomputable def Qz0:TS:=λD _ H=>D.rt .non H
theorem Qwl:PS X (.Return none pos) Qz0:=λ_ _ σ H _ I h=>wpAny_Return_none ⟨.non,σ,H,I,rfl,h⟩
noncomputable def QA3(c:TT)(t u:TS):TS:=λD σ H=>c σ H λb H1=>if b=true then t D σ H1 else u D σ H1
theorem QAV{c:Expr}{a b:List Stmt}{tc:TT}(hc:PT X c tc)(ha:PSs X a t)(hb:PSs X b u):PS X (.If c a b pos) (QA3 tc t u):=by
 intro pins s σ H D I h
 refine wpAny_If (thn (hc pins s σ H _ I h) λd s1 ⟨H1,I1,q1⟩=>?_)
 cases d with
 | true=>exact ha pins s1 σ H1 D I1 q1
 | false=>exact hb pins s1 σ H1 D I1 q1
noncomputable def Qy5:TS:=λ_ _ _=>False
theorem Qu6:PS X st Qy5:=λ_ _ _ _ _ _ h=>h.elim
end
noncomputable abbrev TG:=V->St->Hp->(St->Hp->Prop)->Prop
noncomputable abbrev TGs:=List V->St->Hp->(St->Hp->Prop)->Prop
def PG(X:Cx)(target:Expr)(t:TG):Prop:=
 ∀(pins:List (Addr×Obj)) (s:Shared) (σ:St) (H:Hp) (v:V) (u:Value) (Q:St->Hp->Prop),Inv X pins σ H s->RelV v u->t v σ H Q→
  wpAny (model X.prog X.w) X.A (assign target X.env u) (λ_ s'=>∃σ' H',Inv X pins σ' H' s'/\Q σ' H') X.xe s
def PGs(X:Cx)(ts:List Expr)(t:TGs):Prop:=
 ∀(pins:List (Addr×Obj)) (s:Shared) (σ:St) (H:Hp) (vs:List V) (us:List Value) (Q:St->Hp->Prop),Inv X pins σ H s->QF vs us->t vs σ H Q→
  wpAny (model X.prog X.w) X.A (assignInOrder ((assignEach ts X.env).map (·.2)) us) (λ_ s'=>∃σ' H',Inv X pins σ' H' s'/\Q σ' H') X.xe s
noncomputable abbrev Qn6:=V->V->V->Hp->(Hp->Prop)->Prop
def Quq(X:Cx)(t:Qn6):Prop:=
 ∀(pins:List (Addr×Obj)) (s:Shared) (σ:St) (H:Hp) (o i v:V) (ov iv u:Value) (Q:Hp->Prop),Inv X pins σ H s->RelV o ov->RelV i iv->RelV v u->t o i v H Q→
  wpAny (model X.prog X.w) X.A (setItem ov iv u) (λ_ s'=>∃H',Inv X pins σ H' s'/\Q H') X.xe s
noncomputable abbrev TIp:=V->V->Hp->VK->Prop
def PIp(X:Cx)(op:Operator)(t:TIp):Prop:=
 ∀(pins:List (Addr×Obj)) (s:Shared) (σ:St) (H:Hp) (x y:V) (v u:Value) (Q:VK),Inv X pins σ H s->RelV x v->RelV y u->t x y H Q→
  wpAny (model X.prog X.w) X.A (inplaceOp op v u) (EP X pins σ Q) X.xe s
section
variable {X:Cx}{pos:Pos}
noncomputable def Qgf(i:Nat):TG:=λv σ H Q=>Q (σ.set i (some v)) H
theorem Qqq{i:Nat}{x:Str}(hN:X.N.Nodup)(hi:X.N[i]? =some x)(hx:Loc X.env.scope x)(hf:X.fn x=true∨X.env.scope.names.lookup x=some .local :=by first | exact .inl rfl | exact .inr rfl | assumption):PG X (.Name x pos) (Qgf i):=by
 intro pins s σ H v u Q I r h
 exact wpAny_assign_Name (Qop I hN hi hx r (λs' I'=>⟨_,H,I',h⟩) hf)
noncomputable def Qzq:TGs:=λvs σ H Q=>vs=[]/\Q σ H
noncomputable def Qv0(t:TG)(u:TGs):TGs:=λvs σ H Q=>∃v r,vs=v::r/\t v σ H λσ' H'=>u r σ' H' Q
theorem Qwn:PGs X [] Qzq:=by
 intro pins s σ H vs us Q I r h
 obtain⟨e,h⟩:=h
 subst e
 cases r
 exact assignInOrder_nil ⟨σ,H,I,h⟩
theorem Qt8{e:Expr}{es:List Expr}{t:TG}{u:TGs}(h1:PG X e t)(h2:PGs X es u)
  (hs:(assignEach (e::es) X.env).map (·.2)=assign e X.env::(assignEach es X.env).map (·.2):=by rfl):PGs X (e::es) (Qv0 t u):=by
 intro pins s σ H vs us Q I r h
 obtain⟨v,vr,e1,h⟩:=h
 subst e1
 cases r with
 | cons r rr=>
  rw[hs]
  refine assignInOrder_cons (thn (h1 pins s σ H _ _ _ I r h) λ_ s1 ⟨σ1,H1,I1,q1⟩=>?_)
  exact h2 pins s1 σ1 H1 _ _ Q I1 rr q1
noncomputable def QBC(K:PySem.W.Frag)(n:Nat)(t:TGs):TG:=λv σ H Q=>∃a xs,v= .ref a/\SqT K H a xs/\xs.length=n/\t xs σ H Q
theorem Qym{es:List Expr}{k:Nat}{t:TGs}{n:Nat}(hc:X.calm=true)(h:PGs X es t)
  (hn:(assignEach es X.env).length=n:=by rfl) (hst:(assignEach es X.env).findIdx? (·.1)=none:=by rfl):PG X (.Tuple es k pos) (QBC X.K n t):=by
 intro pins s σ H v u Q I r hw
 obtain⟨a,xs,e1,hq,hl,hw⟩:=hw
 subst e1
 cases r
 obtain⟨its,rv,ht,hz⟩:=I.tuple hq
 refine assign_Tuple_tuple (I.ok.hd hc) ht (by simp[hn,← hl,rv.length]) hst λh' hx=>?_
 have I1:Inv X pins σ H {s with heap:=h'}:=I.kept (t':=s.toks) λb o e=>hx b o (ZU (ZA e)) e
 exact h pins _ σ H xs _ Q I1 (by simpa using rv) hw
noncomputable def Qa6(to ti:TE)(t:Qn6):TG:=λv σ H Q=>to σ H λo H1=>ti σ H1 λi H2=>t o i v H2 λH3=>Q σ H3
theorem Qge{o i:Expr}{to ti:TE}{t:Qn6}(ho:PE X o to)(hi:PE X i ti)(hs:Quq X t)
  (ha:∀v,assign (.Subscript o i pos) X.env v=(do
   let ov ← holding [v] (eval o X.env)
   let iv ← holding [v,ov] (eval i X.env)
   standAt pos
   holding [v,ov,iv] (setItem ov iv v)
   release [v,ov,iv] []):=by intro _;rfl):PG X (.Subscript o i pos) (Qa6 to ti t):=by
 intro pins s σ H v u Q I r h
 rw[ha]
 refine wpAny_bind (wpAny_holding (thn (ho pins s σ H _ I h) λov s1 ⟨x,H1,I1,r1,q1⟩=>?_))
 refine wpAny_bind (wpAny_holding (thn (hi pins s1 σ H1 _ I1 q1) λiv s2 ⟨y,H2,I2,r2,q2⟩=>?_))
 refine wpAny_bind (wpAny_standAt (wpAny_bind (wpAny_holding (thn (hs pins s2 σ H2 x y v ov iv u _ I2 r1 r2 r q2) λ_ s3 ⟨H3,I3,q3⟩=>?_))))
 exact wpAny_release ⟨σ,H3,I3,q3⟩
noncomputable def QeG(te:TE)(g:TG):TS:=λD σ H=>te σ H λx H1=>g x σ H1 D.nx
theorem Qfa{tg e:Expr}{te:TE}{g:TG}(he:PE X e te)(hg:PG X tg g)(hs:swapsWithSole [tg] e pos.line X.env=pure false:=by rfl)(hw:swappedStores [tg] e X.env=pure none:=by rfl)
  (h1:(assignEach [tg] X.env).map (·.2)=[assign tg X.env]:=by rfl):PS X (.Assign [tg] e pos) (QeG te g):=by
 intro pins s σ H D I h
 refine wpAny_Assign_stores (thn (he pins s σ H _ I h) λv s1 ⟨x,H1,I1,r1,q1⟩=>?_) hs hw
 rw[h1]
 exact thn (hg pins s1 σ H1 x v _ I1 r1 q1) λ_ s2 q=>q
theorem Qic{i:Nat}{x:Str}{e:Expr}{te:TE}{pos':Pos}(hN:X.N.Nodup)(hi:X.N[i]? =some x)(hx:Loc X.env.scope x)(he:PE X e te)(hs:swapsWith e (some (.Name x pos')) pos.line X.env=pure false:=by rfl)(hf:X.fn x=true∨X.env.scope.names.lookup x=some .local :=by first | exact .inl rfl | exact .inr rfl | assumption):
  PS X (.Assign [.Name x pos'] e pos) (QeG te (Qgf i)):=by
 intro pins s σ H D I h
 refine wpAny_Assign_Name (thn (he pins s σ H _ I h) λv s1 ⟨y,H1,I1,r1,q1⟩=>?_) hs
 exact Qop I1 hN hi hx r1 (λs2 I2=>⟨_,H1,I2,q1⟩) hf
noncomputable def QAO(to ti te:TE)(tget:V->V->Hp->VK->Prop)(tip:TIp)(tset:Qn6):TS:=λD σ H=>to σ H λo H1=>ti σ H1 λi H2=>tget o i H2 λx H3=>te σ H3 λy H4=>tip x y H4 λz H5=>tset o i z H5 λH6=>D.nx σ H6
def Qy9(X:Cx)(t:V->V->Hp->VK->Prop):Prop:=
 ∀(pins:List (Addr×Obj)) (s:Shared) (σ:St) (H:Hp) (o i:V) (ov iv:Value) (Q:VK),Inv X pins σ H s->RelV o ov->RelV i iv->t o i H Q→
  wpAny (model X.prog X.w) X.A (getItem ov iv) (EP X pins σ Q) X.xe s
theorem Qxq{o i e:Expr}{to ti te:TE}{tget:V->V->Hp->VK->Prop}{tip:TIp}{tset:Qn6}{op:Operator}{tpos:Pos}(ho:PE X o to)(hi:PE X i ti)(hg:Qy9 X tget)(he:PE X e te)(hp:PIp X op tip)(hs:Quq X tset)
  (ha:∀ov iv new,augStore i ov iv new=(do holding [new,ov,iv] (setItem ov iv new);release [new,ov,iv] [];pure .next):=by intros;rfl):PS X (.AugAssign (.Subscript o i tpos) op e pos) (QAO to ti te tget tip tset):=by
 intro pins s σ H D I h
 refine wpAny_AugAssign_SubscriptAny (thn (ho pins s σ H _ I h) λov s1 ⟨x1,H1,I1,r1,q1⟩=>?_) ha
 refine thn (hi pins s1 σ H1 _ I1 q1) λiv s2 ⟨x2,H2,I2,r2,q2⟩=>?_
 refine thn (hg pins s2 σ H2 x1 x2 ov iv _ I2 r1 r2 q2) λold s3 ⟨x3,H3,I3,r3,q3⟩=>?_
 refine thn (he pins s3 σ H3 _ I3 q3) λv s4 ⟨x4,H4,I4,r4,q4⟩=>?_
 refine thn (hp pins s4 σ H4 x3 x4 old v _ I4 r3 r4 q4) λnew s5 ⟨x5,H5,I5,r5,q5⟩=>?_
 exact thn (hs pins s5 σ H5 x1 x2 x5 ov iv new _ I5 r1 r2 r5 q5) λ_ s6 ⟨H6,I6,q6⟩=>⟨σ,H6,I6,q6⟩
end
section
variable {X:Cx}{pos:Pos}
noncomputable def Qzt(c:TT)(tb:TS):TS:=λD σ H=>∃W:Nat->St->Hp->Prop,(∃m,W m σ H)/\∀m σ H,W m σ H→
 c σ H λb H1=>if b=true then ∃N:St->Hp->Prop,(∀σ' H',N σ' H'->∃m',m'<m/\W m' σ' H')/\tb {D with nx:=N,ct:=N,bk:=D.nx} σ H1 else D.nx σ H1
theorem Qvb{c:Expr}{body:List Stmt}{tc:TT}{tb:TS}(hp:PassesOwn (model X.prog X.w) X.A X.env X.xe)(hc:PT X c tc)(hb:PSs X body tb):PS X (.While c body [] pos) (Qzt tc tb):=by
 intro pins s σ H D I h
 obtain⟨W,⟨m0,w0⟩,turn⟩:=h
 refine wpAny_While (codeAny_whileLoop (λn s'=>∃σ' H',Inv X pins σ' H' s'/\W n σ' H') ?_ m0 ⟨σ,H,I,w0⟩)
 rintro n s1 ⟨σ1,H1,I1,w1⟩
 refine wpAny_passesOwn hp (thn (hc pins s1 σ1 H1 _ I1 (turn n σ1 H1 w1)) λb s2 ⟨H2,I2,q2⟩=>?_)
 cases b with
 | true=>
  obtain⟨N,hN,q2⟩:=q2
  rw[if_pos rfl]
  refine wpAny_passesOwn hp (thn (hb pins s2 σ1 H2 _ I2 q2) λf s3 q3=>?_)
  cases f with
  | next=>
   obtain⟨σ3,H3,I3,n3⟩:=q3
   obtain⟨m',hm,w3⟩:=hN σ3 H3 n3
   exact⟨m',hm,σ3,H3,I3,w3⟩
  | cont=>
   obtain⟨σ3,H3,I3,n3⟩:=q3
   obtain⟨m',hm,w3⟩:=hN σ3 H3 n3
   exact⟨m',hm,σ3,H3,I3,w3⟩
  | brk=>exact q3
  | ret v=>exact q3
 | false=>
  rw[if_neg Zan]
  exact wpAny_execs_nil ⟨σ1,H2,I2,q2⟩
end
structure It where
 go:Nat->Hp->Prop
 yld:Nat->Hp->V->Hp->Prop
 stop:Nat->Hp->Prop
def QeQ(X:Cx)(pins:List (Addr×Obj))(H:Hp)(b:Addr):Prop:=
 H b=none/\b≠X.env.locals/\b∉X.fs/\(b∈X.ex∨X.s₀.heap.objs.size<=b)/\(∀x c,X.env.cells.lookup x=some c->c≠b)/\∀p∈X.pn++pins,p.1≠b
theorem Inv.Ql9{X:Cx}{pins:List (Addr×Obj)}{σ:St}{H H':Hp}{s:Shared}{b:Addr}(I:Inv X pins σ H s)(hb:s.heap.objs.size<=b)(hn:H' b=none):QeQ X pins H' b:=by
 refine⟨hn,Zca (Zu I.lt hb),I.QA2 hb,.inr (Zi I.sz hb),λx c e z=>?_,λp hp z=>?_⟩
 ·obtain⟨v,q⟩:=I.cell x c e
  exact absurd (Zu q.lt (by rw[z];exact hb)) (Zad _)
 ·exact absurd (Zu (ZA (I.pin p hp).1) (by rw[z];exact hb)) (Zad _)
structure Turn (P:Program) (w:World) (K:PySem.W.Frag) (tg:Expr) (J:It) (fp:List Addr) (it:Addr) (tn:Nat->Heap->Prop):Prop where
 mem:it∈fp
 obj:∀i h,tn i h->∀b∈fp,∃o,h.get? b=some o/\∀v,o.data≠ .cell v
 keep:∀i h h',tn i h->(∀b∈fp,∀o,h.get? b=some o->h'.get? b=some o)->tn i h'
 item:∀(X:Cx),X.prog=P->X.w=w->X.K=K->X.calm=true->∀(i:Nat) (pins:List (Addr×Obj)) (s:Shared) (σ:St) (H:Hp) (E:Value->Shared->Prop),Inv X pins σ H s->(∀b∈fp,QeQ X pins H b)->tn i s.heap->J.go i H→
  wpAny (model P w) X.A (pyNext (.ref it)) (λr s1=>∃u,r=some u∧
   wpAny (model P w) X.A (letOwnedTupleGo tg (.ref it) u) (λ_ s2=>∃x H',Inv X pins σ H' s2/\RelV x u/\J.yld i H x H'/\tn (i+1) s2.heap/\∀b∈fp,H' b=none) E s1) E s
 done:∀(X:Cx),X.prog=P->X.w=w->X.K=K->X.calm=true->∀(i:Nat) (pins:List (Addr×Obj)) (s:Shared) (σ:St) (H:Hp) (E:Value->Shared->Prop),Inv X pins σ H s->(∀b∈fp,QeQ X pins H b)->tn i s.heap->J.stop i H→
  wpAny (model P w) X.A (pyNext (.ref it)) (λr s1=>r=none/\Inv X pins σ H s1) E s
 self:∀(A:Around) (i:Nat) (s:Shared) (Q:Value->Shared->Prop) (E:Value->Shared->Prop),tn i s.heap->Q (.ref it) s->wpAny (model P w) A (pyIter (.ref it)) Q E s
noncomputable abbrev TI:=St->Hp->(It->Hp->Prop)->Prop
def PIE(X:Cx)(pins:List (Addr×Obj))(σ:St)(tg:Expr)(R:It->Hp->Prop)(itv:Value)(s2:Shared):Prop:=
 ∃(it:Addr) (fp:List Addr) (tn:Nat->Heap->Prop) (J:It) (H':Hp),itv= .ref it/\Inv X pins σ H' s2/\Turn X.prog X.w X.K tg J fp it tn/\tn 0 s2.heap/\(∀b∈fp,QeQ X pins H' b)/\R J H'
def PI(X:Cx)(tg iter:Expr)(wi:TI):Prop:=
 ∀(pins:List (Addr×Obj)) (s:Shared) (σ:St) (H:Hp) (R:It->Hp->Prop),Inv X pins σ H s->wi σ H R→
  wpAny (model X.prog X.w) X.A (eval iter X.env) (λv s1=>wpAny (model X.prog X.w) X.A (pyIter v) (PIE X pins σ tg R) X.xe s1) X.xe s
theorem Qnp{M:Model}{A:Around}{E:Value->Shared->Prop}{s:Shared}{tg:Expr}{it:Addr}{u:Value}{o:Obj}{n:String}{vs:Array Value}{Q:Unit->Shared->Prop}(ho:s.heap.get? it=some o)(hc:o.cls= .type n)(hd:o.data= .fields vs)
    (hn:["enumerate","zip","dict_itemiterator","dict_reverseitemiterator","odict_iterator","itertools.zip_longest","itertools.pairwise"].contains n=false) (hQ:Q () s):wpAny M A (letOwnedTupleGo tg (.ref it) u) Q E s:=by
  unfold letOwnedTupleGo
  cases tg<;>first
    | exact wpAny_pure hQ
    | (cases u<;>first
        | exact wpAny_pure hQ
        | (refine wpAny_bind (wpAny_load ho ?_)
           rw[hc,hd]
           show wpAny M A (if(["enumerate","zip","dict_itemiterator","dict_reverseitemiterator","odict_iterator","itertools.zip_longest","itertools.pairwise"].contains n && vs[0]? == some (rawInt _))=true then _ else _) Q E s
           rw[if_neg (by intro h;rw[hn,Bool.false_and]at h;cases h)]
           exact wpAny_pure hQ))
noncomputable def Itl(K:PySem.W.Frag)(a:Addr):It:=
 ⟨λi H=>∃xs x,SqL K H a xs/\xs[i]? =some x,λi H x H'=>H'=H/\∀xs,SqL K H a xs->xs[i]? =some x,λi H=>∃xs,SqL K H a xs/\xs.length<=i⟩
noncomputable def Itt(K:PySem.W.Frag)(a:Addr):It:=
 ⟨λi H=>∃xs x,SqT K H a xs/\xs[i]? =some x,λi H x H'=>H'=H/\∀xs,SqT K H a xs->xs[i]? =some x,λi H=>∃xs,SqT K H a xs/\xs.length<=i⟩
noncomputable def Itr(lo:Int)(n:Nat):It:=⟨λi _=>i<n,λi H x H'=>H'=H/\x= .int (lo+i),λi _=>n<=i⟩
theorem Qsm{P:Program}{w:World}{K:PySem.W.Frag}{tg:Expr}(a it:Addr):Turn P w K tg (Itl K a) [it] it (λi h=>h.IsListIter it a i) where
 mem:=by simp
 obj:=λi h st b hb=>by
  have e:b=it:=by simpa using hb
  subst e
  obtain⟨o,e,c,d⟩:=st
  exact⟨o,e,λv z=>by rw[d]at z;cases z⟩
 keep:=λi h h' st k=>st.at λo e=>k it (by simp) o e
 item:=by
  intro X hP hw hK hc i pins s σ H E I hf st hg
  subst hP hw hK
  obtain⟨xs,x,hq,hx⟩:=hg
  obtain⟨its,rv,p,hz⟩:=I.list hq
  obtain⟨u,hu,ru⟩:=rv.get hx
  obtain⟨f0,f1,f2,f3,f4,f5⟩:=hf it (by simp)
  refine wpAny_pyNext_list_item st p.isList (x:=u) (by simpa using hu) λh' st' sb=>?_
  have I1:Inv X pins σ H {s with heap:=h'}:=I.turned (t':=s.toks) (λb o hb e=>(sb.2 b hb).trans e) f0 f1 f3 f4 f5
  obtain⟨o,e,c,d⟩:=id st'
  exact⟨u,rfl,Qnp (s:={s with heap:=h'}) e c d (by decide) ⟨x,H,I1,ru,⟨rfl,λys hy=>by rw[I.QhV hy hq];exact hx⟩,st',λb hb=>(hf b hb).1⟩⟩
 done:=by
  intro X hP hw hK hc i pins s σ H E I hf st hg
  subst hP hw hK
  obtain⟨xs,hq,hx⟩:=hg
  obtain⟨its,rv,p,hz⟩:=I.list hq
  obtain⟨f0,f1,f2,f3,f4,f5⟩:=hf it (by simp)
  have hl:=rv.length
  exact wpAny_pyNext_list_end (I.ok.hd hc) st p.isList (by simp;omega) λh' eb=>⟨rfl,I.turned (t':=s.toks) (λb o hb e=>eb b o hb e) f0 f1 f3 f4 f5⟩
 self:=λ_ _ _ _ _ st h=>wpAny_pyIter_listiter st h
theorem Qq9{P:Program}{w:World}{K:PySem.W.Frag}{tg:Expr}(a it:Addr):Turn P w K tg (Itt K a) [it] it (λi h=>h.IsTupleIter it a i) where
 mem:=by simp
 obj:=λi h st b hb=>by
  have e:b=it:=by simpa using hb
  subst e
  obtain⟨o,e,c,d⟩:=st
  exact⟨o,e,λv z=>by rw[d]at z;cases z⟩
 keep:=λi h h' st k=>st.at λo e=>k it (by simp) o e
 item:=by
  intro X hP hw hK hc i pins s σ H E I hf st hg
  subst hP hw hK
  obtain⟨xs,x,hq,hx⟩:=hg
  obtain⟨its,rv,p,hz⟩:=I.tuple hq
  obtain⟨u,hu,ru⟩:=rv.get hx
  obtain⟨f0,f1,f2,f3,f4,f5⟩:=hf it (by simp)
  refine wpAny_pyNext_tuple_item st (show s.heap.IsTuple a its.toArray from p) (x:=u) (by simpa using hu) λh' st' sb=>?_
  have I1:Inv X pins σ H {s with heap:=h'}:=I.turned (t':=s.toks) (λb o hb e=>(sb.2 b hb).trans e) f0 f1 f3 f4 f5
  obtain⟨o,e,c,d⟩:=id st'
  exact⟨u,rfl,Qnp (s:={s with heap:=h'}) e c d (by decide) ⟨x,H,I1,ru,⟨rfl,λys hy=>by rw[I.QtF hy hq];exact hx⟩,st',λb hb=>(hf b hb).1⟩⟩
 done:=by
  intro X hP hw hK hc i pins s σ H E I hf st hg
  subst hP hw hK
  obtain⟨xs,hq,hx⟩:=hg
  obtain⟨its,rv,p,hz⟩:=I.tuple hq
  obtain⟨f0,f1,f2,f3,f4,f5⟩:=hf it (by simp)
  have hl:=rv.length
  exact wpAny_pyNext_tuple_end (I.ok.hd hc) st (show s.heap.IsTuple a its.toArray from p) (by simp;omega) λh' eb=>⟨rfl,I.turned (t':=s.toks) (λb o hb e=>eb b o hb e) f0 f1 f3 f4 f5⟩
 self:=λ_ _ _ _ _ st h=>wpAny_pyIter_tupleiter st h
theorem Qro{P:Program}{w:World}{K:PySem.W.Frag}{tg:Expr}(it:Addr)(lo:Int)(n:Nat):Turn P w K tg (Itr lo n) [it] it (λi h=>IsRangeIter h it (lo+(i:Nat)*1) ((n:Int)-(i:Nat)) 1) where
 mem:=by simp
 obj:=λi h st b hb=>by
  have e:b=it:=by simpa using hb
  subst e
  exact⟨_,st,λv z=>by
   have z':Data.fields _=Data.cell v:=z
   cases z'⟩
 keep:=λi h h' st k=>k it (by simp) _ st
 item:=by
  intro X hP hw hK hc i pins s σ H E I hf st hg
  subst hP hw hK
  obtain⟨f0,f1,f2,f3,f4,f5⟩:=hf it (by simp)
  have W:=Walks.range (prog:=X.prog) (w:=X.w) (I.ok.hd hc) it lo 1 n
  refine W.item i s _ _ hg st λv h' tk hv st' kk=>?_
  obtain⟨t,rfl⟩:=hv
  have I1:Inv X pins σ H {s with heap:=h',toks:=tk}:=I.turned (λb o hb e=>kk b o (by simpa using hb) e) f0 f1 f3 f4 f5
  refine⟨_,rfl,Qnp (s:={s with heap:=h',toks:=tk}) (n:= "range_iterator") st' rfl rfl (by decide) ⟨.int (lo+i),H,I1,⟨t,?_⟩,⟨rfl,rfl⟩,st',λb hb=>(hf b hb).1⟩⟩
  rw[Zab]
 done:=by
  intro X hP hw hK hc i pins s σ H E I hf st hg
  subst hP hw hK
  obtain⟨f0,f1,f2,f3,f4,f5⟩:=hf it (by simp)
  exact wpAny_pyNext_range_end (I.ok.hd hc) st (by have:n<=i:=hg;omega) λh' eb=>⟨rfl,I.turned (t':=s.toks) (λb o hb e=>eb b o hb e) f0 f1 f3 f4 f5⟩
 self:=λ_ _ _ _ _ st h=>wpAny_pyIter_rangeiter st h
end L2
namespace L2
open PySem PySem.Spec PyProof.Rows
section
variable {X:Cx}{tg:Expr}
theorem Qos{pins:List (Addr×Obj)}{σ:St}{H:Hp}{s:Shared}{R:It->Hp->Prop}{E:Value->Shared->Prop}{lo hi:Int}{t u v:Tok}{tk:Nat}(I:Inv X pins σ H s)(h1: -(2^62)<=lo)(h2:lo<2^62)(h3: -(2^62)<=hi)(h4:hi<2^62)
  (q:R (Itr lo (hi-lo).toNat) H):wpAny (model X.prog X.w) X.A (pyIter (.ref s.heap.objs.size)) (PIE X pins σ tg R) E {s with heap:=s.heap.push {cls:= .type "range",data:= .fields #[.int lo t,.int hi u,.int 1 v]},toks:=tk}:=by
 refine wpAny_pyIter_range (IsRange.new ..) (small_one h1 h2 h3 h4) ?_
 have I1:Inv X pins σ H {s with heap:=s.heap.push {cls:= .type "range",data:= .fields #[.int lo t,.int hi u,.int 1 v]},toks:=tk}:=I.kept λb o e=>Zn _ e
 refine⟨(s.heap.push {cls:= .type "range",data:= .fields #[.int lo t,.int hi u,.int 1 v]}).objs.size,[(s.heap.push {cls:= .type "range",data:= .fields #[.int lo t,.int hi u,.int 1 v]}).objs.size],_,_,H,rfl,
  I1.kept (t':=tk) λb o e=>Zn _ e,Qro _ lo (hi-lo).toNat,?_,λb hb=>?_,q⟩
 ·have e1:lo+((0:Nat):Int)*1=lo:=by simp
  have e2:(((hi-lo).toNat:Nat):Int)-((0:Nat):Int)=Builtin.Range.rangeSize lo hi 1:=by rw[rangeSize_one];split<;>omega
  show IsRangeIter _ _ (lo+((0:Nat):Int)*1) ((((hi-lo).toNat:Nat):Int)-((0:Nat):Int)) 1
  rw[e1,e2]
  exact ZN _ rfl
 ·have e:b=(s.heap.push {cls:= .type "range",data:= .fields #[.int lo t,.int hi u,.int 1 v]}).objs.size:=by simpa using hb
  subst e
  exact I1.Ql9 (Zh _) (I1.hok.fresh (Zh _))
noncomputable def QAd(ta:TA):TI:=λσ H R=>ta σ H λvs H1=>∃j:Int,vs=[.int j]/\ -(2^62)<=j/\j<2^62/\R (Itr 0 j.toNat) H1
noncomputable def QAG(ta:TA):TI:=λσ H R=>ta σ H λvs H1=>∃i j:Int,vs=[.int i,.int j]/\(-(2^62)<=i/\i<2^62/\ -(2^62)<=j/\j<2^62)/\R (Itr i (j-i).toNat) H1
theorem Qsc{a:Expr}{ta:TA}{p pos:Pos}(hg:Gl X "range")(hm:X.mg "range" =none)(ha:PA X [a] ta)(hs:starEach [a] X.env=[(false,eval a X.env)]:=by rfl):PI X tg (.Call (.Name "range" p) [a] [] pos) (QAd ta):=by
 intro pins s σ H R I h
 refine Call_ (QdW I hg hm boot_range (ZW (thn (ha pos pins s σ H _ I h) λus s1 ⟨vs,H1,I1,r1,q1⟩=>?_) hs rfl))
 obtain⟨j,e,q1,q2,q⟩:=q1
 subst e
 cases r1 with
 | cons r rr=>
  cases rr
  obtain⟨t,rfl⟩:=r
  exact call_range_1 (Qos I1 (by omega) (by omega) q1 q2 (by simpa using q))
theorem Qsq{a b:Expr}{ta:TA}{p pos:Pos}(hg:Gl X "range")(hm:X.mg "range" =none)(ha:PA X [a,b] ta)(hs:starEach [a,b] X.env=[(false,eval a X.env),(false,eval b X.env)]:=by rfl)(hs2:starEach [b] X.env=[(false,eval b X.env)]:=by rfl):
  PI X tg (.Call (.Name "range" p) [a,b] [] pos) (QAG ta):=by
 intro pins s σ H R I h
 refine Call_ (QdW I hg hm boot_range (ZW (thn (ha pos pins s σ H _ I h) λus s1 ⟨vs,H1,I1,r1,q1⟩=>?_) (by rw[hs,hs2]) (by rw[hs2];rfl)))
 obtain⟨i,j,e,⟨q1,q2,q3,q4⟩,q⟩:=q1
 subst e
 cases r1 with
 | cons r rr=>
  cases rr with
  | cons r' rr=>
   cases rr
   obtain⟨t,rfl⟩:=r
   obtain⟨t',rfl⟩:=r'
   exact call_range_2 (Qos I1 q1 q2 q3 q4 q)
noncomputable def QBE(wi:TI)(g:TG)(tb:TS):TS:=λD σ H=>wi σ H λJ H1=>∃W:Nat->Nat->St->Hp->Prop,(∃m,W 0 m σ H1)/\∀i m σ H,W i m σ H→
 (J.stop i H/\D.nx σ H)∨(J.go i H/\∃N:St->Hp->Prop,(∀σ' H',N σ' H'->∃m',m'<m/\W (i+1) m' σ' H')/\∀x H',J.yld i H x H'->g x σ H' λσ2 H2=>tb {D with nx:=N,ct:=N,bk:=D.nx} σ2 H2)
noncomputable def QiD(fp:List Addr)(h:Heap):List (Addr×Obj):=fp.filterMap λb=>(h.get? b).map λo=>(b,o)
theorem Qh0{fp:List Addr}{h:Heap}{b:Addr}{o:Obj}(hb:b∈fp)(e:h.get? b=some o):(b,o)∈QiD fp h:=Zbl.mpr ⟨b,hb,by rw[e];rfl⟩
theorem Qtk{fp:List Addr}{h:Heap}{p:Addr×Obj}(hp:p∈QiD fp h):p.1∈fp/\h.get? p.1=some p.2:=by
 obtain⟨b,hb,e⟩:=Zbl.mp hp
 cases q:h.get? b with
 | none=>rw[q]at e;cases e
 | some o=>
  rw[q]at e
  have e':(b,o)=p:=Option.some.inj e
  subst e'
  exact⟨hb,q⟩
theorem Inv.pinned{pins:List (Addr×Obj)}{σ:St}{H:Hp}{s:Shared}{fp:List Addr}(I:Inv X pins σ H s)(hf:∀b∈fp,QeQ X pins H b)(ho:∀b∈fp,∃o,s.heap.get? b=some o/\∀v,o.data≠ .cell v):Inv X (pins++QiD fp s.heap) σ H s:=
 I.QqK λp hp=>(ZC.mp hp).elim (λz=>I.pin p (Zb _ z)) λz=>by
  obtain⟨hb,e⟩:=Qtk z
  obtain⟨f0,f1,f2,_⟩:=hf p.1 hb
  obtain⟨o,e',d⟩:=ho p.1 hb
  rw[e]at e';cases e'
  exact⟨e,f0,f1,f2,d⟩
theorem Inv.QhF{pins pl:List (Addr×Obj)}{σ:St}{H:Hp}{s:Shared}(I:Inv X (pins++pl) σ H s):Inv X pins σ H s:=I.QqK λp hp=>I.pin p (Zb _ (Zd _ hp))
theorem Qyo{iter:Expr}{body:List Stmt}{wi:TI}{g:TG}{tb:TS}{pos:Pos}(hp:PassesOwn (model X.prog X.w) X.A X.env X.xe)(hc:X.calm=true)(hi:PI X tg iter wi)(hg:PG X tg g)(hb:PSs X body tb)
  (hs:∀x,foldedSetIterable iter X.env x=pure x:=by intro _;rfl):PS X (.For tg iter body [] pos) (QBE wi g tb):=by
 intro pins s σ H D I h
 refine wpAny_For (thn (hi pins s σ H _ I h) λv s1 h1=>thn h1 λitv s2 h2=>?_) hs
 obtain⟨it,fp,tn,J,H2,e,I2,T,st2,f2,W,⟨m0,w0⟩,turn⟩:=h2
 subst e
 have stat:∀{H':Hp},(∀b∈fp,H' b=none)->∀b∈fp,QeQ X pins H' b:=λhn b hb=>⟨hn b hb,(f2 b hb).2⟩
 refine codeAny_forLoop_any (λn s'=>∃i σ' H',Inv X pins σ' H' s'/\tn i s'.heap/\(∀b∈fp,H' b=none)/\W i n σ' H') ?_ m0 ⟨0,σ,H2,I2,st2,λb hb=>(f2 b hb).1,w0⟩
 rintro n s3 ⟨i,σ3,H3,I3,st3,fr3,w3⟩
 rcases turn i n σ3 H3 w3 with⟨stop,qn⟩ | ⟨go,N,hN,step⟩
 ·refine wpAny_passesOwn hp (thn (T.done X rfl rfl rfl hc i pins s3 σ3 H3 X.xe I3 (stat fr3) st3 stop) λr s4 ⟨hr,I4⟩=>?_)
  subst hr
  exact wpAny_execs_nil ⟨σ3,H3,I4,qn⟩
 ·refine wpAny_passesOwn hp (thn (T.item X rfl rfl rfl hc i pins s3 σ3 H3 X.xe I3 (stat fr3) st3 go) λr s4 ⟨u,hr,h4⟩=>?_)
  subst hr
  refine wpAny_passesOwn hp (thn h4 λ_ s5 ⟨x,H5,I5,r5,y5,st5,fr5⟩=>?_)
  have I5':=I5.pinned (stat fr5) (T.obj _ _ st5)
  refine wpAny_passesOwn hp (thn (hg _ s5 σ3 H5 x u _ I5' r5 (step x H5 y5)) λ_ s6 ⟨σ6,H6,I6,q6⟩=>?_)
  refine wpAny_passesOwn hp (thn (hb _ s6 σ6 H6 _ I6 q6) λf s7 q7=>?_)
  have again:∀{σ7:St}{H7:Hp},Inv X (pins++QiD fp s5.heap) σ7 H7 s7->N σ7 H7->∃m,m<n/\∃i σ' H',Inv X pins σ' H' s7/\tn i s7.heap/\(∀b∈fp,H' b=none)/\W i m σ' H':=λ{σ7 H7} I7 n7=>by
   obtain⟨m',hm,w7⟩:=hN σ7 H7 n7
   refine⟨m',hm,i+1,σ7,H7,I7.QhF,T.keep _ _ _ st5 λb hb o e=>(I7.pin (b,o) (Zb _ (Zb _ (Qh0 hb e)))).1,λb hb=>?_,w7⟩
   obtain⟨o,e,d⟩:=T.obj _ _ st5 b hb
   exact(I7.pin (b,o) (Zb _ (Zb _ (Qh0 hb e)))).2.1
  cases f with
  | next=>obtain⟨σ7,H7,I7,n7⟩:=q7;exact again I7 n7
  | cont=>obtain⟨σ7,H7,I7,n7⟩:=q7;exact again I7 n7
  | brk=>obtain⟨σ7,H7,I7,q7⟩:=q7;exact⟨σ7,H7,I7.QhF,q7⟩
  | ret v=>obtain⟨x7,σ7,H7,I7,r7,q7⟩:=q7;exact⟨x7,σ7,H7,I7.QhF,r7,q7⟩
end
end L2
namespace L2
open PySem PySem.Spec PyProof.Rows
noncomputable abbrev R2:=V->V->Hp->VK->Prop
def OpR(X:Cx)(f:Value->Value->Sem Value)(r:R2):Prop:=
 ∀(pins:List (Addr×Obj)) (s:Shared) (σ:St) (H:Hp) (x y:V) (v u:Value) (Q:VK),Inv X pins σ H s->RelV x v->RelV y u->r x y H Q→
  wpAny (model X.prog X.w) X.A (f v u) (EP X pins σ Q) X.xe s
def UnR(X:Cx)(f:Value->Sem Value)(r:V->Hp->VK->Prop):Prop:=
 ∀(pins:List (Addr×Obj)) (s:Shared) (σ:St) (H:Hp) (x:V) (v:Value) (Q:VK),Inv X pins σ H s->RelV x v->r x H Q→
  wpAny (model X.prog X.w) X.A (f v) (EP X pins σ Q) X.xe s
def QcO(X:Cx)(f:Value)(r:List V->Hp->VK->Prop):Prop:=
 ∀(pins:List (Addr×Obj)) (s:Shared) (σ:St) (H:Hp) (xs:List V) (us:List Value) (Q:VK),Inv X pins σ H s->QF xs us->r xs H Q→
  wpAny (model X.prog X.w) X.A (call f us) (EP X pins σ Q) X.xe s
def QBA(X:Cx)(r:V->Hp->(Bool->Hp->Prop)->Prop):Prop:=
 ∀(pins:List (Addr×Obj)) (s:Shared) (σ:St) (H:Hp) (x:V) (v:Value) (Q:Bool->Hp->Prop),Inv X pins σ H s->RelV x v->r x H Q→
  wpAny (model X.prog X.w) X.A (truthy v) (TP X pins σ Q) X.xe s
noncomputable def tOp(r:R2)(ta tb:TE):TE:=λσ H Q=>ta σ H λx H1=>tb σ H1 λy H2=>r x y H2 Q
noncomputable def tUn(r:V->Hp->VK->Prop)(ta:TE):TE:=λσ H Q=>ta σ H λx H1=>r x H1 Q
noncomputable def rI(C:Int->Int->Prop)(g:Int->Int->V):R2:=λx y H Q=>∃i j,x= .int i/\y= .int j/\C i j/\Q (g i j) H
noncomputable def rI0(g:Int->Int->V):R2:=λx y H Q=>∃i j,x= .int i/\y= .int j/\Q (g i j) H
noncomputable def rU(g:Int->V):V->Hp->VK->Prop:=λx H Q=>∃i,x= .int i/\Q (g i) H
section
variable {X:Cx}{a b c:Expr}{ta tb tc:TE}{pos:Pos}
theorem QuE(ha:PE X a ta)(hb:PE X b tb){pins:List (Addr×Obj)}{s:Shared}{σ:St}{H:Hp}{R:V->V->Hp->Prop}(I:Inv X pins σ H s)
  (h:ta σ H λx H1=>tb σ H1 λy H2=>R x y H2) {Q:Value->Shared->Prop}{f:Value->Value->Sem Value}
  (hf:∀v u s2 x y H2,Inv X pins σ H2 s2->RelV x v->RelV y u->R x y H2->wpAny (model X.prog X.w) X.A (f v u) Q X.xe s2):
  wpAny (model X.prog X.w) X.A (eval a X.env) (λv s₁=>wpAny (model X.prog X.w) X.A (eval b X.env) (λu s₂=>wpAny (model X.prog X.w) X.A (f v u) Q X.xe s₂) X.xe s₁) X.xe s:=by
 refine thn (ha pins s σ H _ I h) λv s1 ⟨x,H1,I1,r1,q1⟩=>?_
 refine thn (hb pins s1 σ H1 _ I1 q1) λu s2 ⟨y,H2,I2,r2,q2⟩=>?_
 exact hf v u s2 x y H2 I2 r1 r2 q2
theorem QrH{op:Operator}{r:R2}(ho:OpR X (binaryOp op) r)(ha:PE X a ta)(hb:PE X b tb):PE X (.BinOp a op b pos) (tOp r ta tb):=by
 intro pins s σ H Q I h
 exact wpAny_BinOp (QuE ha hb I h λv u s2 x y H2 I2 rx ry q=>ho pins s2 σ H2 x y v u Q I2 rx ry q)
theorem QAE{op:UnaryOp}{r:V->Hp->VK->Prop}(ho:UnR X (unaryOp op) r)(ha:PE X a ta):PE X (.UnaryOp op a pos) (tUn r ta):=by
 intro pins s σ H Q I h
 exact UnaryOp_ (thn (ha pins s σ H _ I h) λv s1 ⟨x,H1,I1,r1,q1⟩=>ho pins s1 σ H1 x v Q I1 r1 q1)
theorem QA6{op:Operator}{r:R2}(ho:OpR X (inplaceOp op) r){pins:List (Addr×Obj)}{s:Shared}{σ:St}{H:Hp}{x y:V}{v u:Value}{Q:VK}(I:Inv X pins σ H s)
  (rx:RelV x v) (ry:RelV y u) (q:r x y H Q):wpAny (model X.prog X.w) X.A (inplaceOp op v u) (EP X pins σ Q) X.xe s:=ho pins s σ H x y v u Q I rx ry q
theorem opI{f:Value->Value->Sem Value}{C:Int->Int->Prop}{g:Int->Int->Int}
  (rule:∀(i j:Int) (t u:Tok) (s:Shared) (Q:Value->Shared->Prop) (E:Value->Shared->Prop),C i j->Q (.int (g i j) s.toks) {s with toks:=s.toks+1}->wpAny (model X.prog X.w) X.A (f (.int i t) (.int j u)) Q E s):
  OpR X f (rI C λi j=> .int (g i j)):=by
 intro pins s σ H x y v u Q I rx ry h
 obtain⟨i,j,rfl,rfl,hc,q⟩:=h
 obtain⟨t,rfl⟩:=rx
 obtain⟨t',rfl⟩:=ry
 exact rule i j t t' s _ _ hc ⟨.int (g i j),H,I.tok _,⟨_,rfl⟩,q⟩
theorem QoD{f:Value->Value->Sem Value}{g:Int->Int->Int}
  (rule:∀(i j:Int) (t u:Tok) (s:Shared) (Q:Value->Shared->Prop) (E:Value->Shared->Prop),Q (.int (g i j) s.toks) {s with toks:=s.toks+1}->wpAny (model X.prog X.w) X.A (f (.int i t) (.int j u)) Q E s):
  OpR X f (rI0 λi j=> .int (g i j)):=by
 intro pins s σ H x y v u Q I rx ry h
 obtain⟨i,j,rfl,rfl,q⟩:=h
 obtain⟨t,rfl⟩:=rx
 obtain⟨t',rfl⟩:=ry
 exact rule i j t t' s _ _ ⟨.int (g i j),H,I.tok _,⟨_,rfl⟩,q⟩
theorem QrD{f:Value->Value->Sem Value}{g:Int->Int->Bool}
  (rule:∀(i j:Int) (t u:Tok) (s:Shared) (Q:Value->Shared->Prop) (E:Value->Shared->Prop),Q (.bool (g i j)) s->wpAny (model X.prog X.w) X.A (f (.int i t) (.int j u)) Q E s):
  OpR X f (rI0 λi j=> .bl (g i j)):=by
 intro pins s σ H x y v u Q I rx ry h
 obtain⟨i,j,rfl,rfl,q⟩:=h
 obtain⟨t,rfl⟩:=rx
 obtain⟨t',rfl⟩:=ry
 exact rule i j t t' s _ _ ⟨.bl (g i j),H,I,rfl,q⟩
def Qzb(i j:Int):Prop:=0<=j/\j<=1000000/\i.natAbs<2^64
def QyP(i j:Int):Prop:=(-(2^64)<i/\i<2^64)∨(-(2^64)<j/\j<2^64)
theorem QyP.ok{i j:Int}(h:QyP i j):IntMulOk i j:=by
 rcases h with⟨h1,h2⟩ | ⟨h1,h2⟩
 ·exact .of_left (intBits_le_64 h1 h2)
 ·exact .of_right (intBits_le_64 h1 h2)
theorem Qq2(k:Nat):(0:Int)<=2^k:=by
 rw[two_pow_cast]
 exact ZaJ _
theorem Qy6:OpR X (binaryOp .Add) (rI0 λi j=> .int (i+j)):=QoD λ_ _ _ _ _ _ _ q=>add_int q
theorem QzF:OpR X (binaryOp .Sub) (rI0 λi j=> .int (i-j)):=QoD λ_ _ _ _ _ _ _ q=>sub_int q
theorem Qx8:OpR X (binaryOp .LShift) (rI Qzb λi j=> .int (i*2^j.toNat)):=opI λ_ _ _ _ _ _ _ hc q=>lshift_int_small hc.1 hc.2.1 hc.2.2 q
theorem Qzs:OpR X (binaryOp .RShift) (rI (λ_ j=>0<=j) λi j=> .int (i / 2^j.toNat)):=opI λi j _ _ _ _ _ hc q=>
 rshift_int hc (by rw[ZbK i (Qq2 _)];exact q)
theorem QzJ:OpR X (binaryOp .BitAnd) (rI0 λi j=> .int (Builtin.bitAnd i j)):=QoD λ_ _ _ _ _ _ _ q=>and_int q
theorem Qw5:OpR X (inplaceOp .Add) (rI0 λi j=> .int (i+j)):=QoD λ_ _ _ _ _ _ _ q=>iadd_int q
theorem Qxz:OpR X (inplaceOp .Sub) (rI0 λi j=> .int (i-j)):=QoD λ_ _ _ _ _ _ _ q=>isub_int q
theorem unI{f:Value->Sem Value}{g:Int->Int}
  (rule:∀(i:Int) (t:Tok) (s:Shared) (Q:Value->Shared->Prop) (E:Value->Shared->Prop),Q (.int (g i) s.toks) {s with toks:=s.toks+1}->wpAny (model X.prog X.w) X.A (f (.int i t)) Q E s):
  UnR X f (rU λi=> .int (g i)):=by
 intro pins s σ H x v Q I rx h
 obtain⟨i,rfl,q⟩:=h
 obtain⟨t,rfl⟩:=rx
 exact rule i t s _ _ ⟨.int (g i),H,I.tok _,⟨_,rfl⟩,q⟩
theorem Qzy:UnR X (unaryOp .USub) (rU λi=> .int (-i)):=unI λ_ _ _ _ _ q=>neg_int q
end
section
variable {X:Cx}{a b c:Expr}{ta tb tc:TE}{pos:Pos}
theorem QAL:OpR X (compareOp .Lt) (rI0 λi j=> .bl (decide (i<j))):=QrD λ_ _ _ _ _ _ _ q=>lt_int q
theorem QAg:OpR X (compareOp .LtE) (rI0 λi j=> .bl (decide (i<=j))):=QrD λ_ _ _ _ _ _ _ q=>le_int q
theorem QAS:OpR X (compareOp .Gt) (rI0 λi j=> .bl (decide (j<i))):=QrD λ_ _ _ _ _ _ _ q=>gt_int q
theorem Qz8:OpR X (compareOp .GtE) (rI0 λi j=> .bl (decide (j<=i))):=QrD λ_ _ _ _ _ _ _ q=>ge_int q
theorem OpR.or{f:Value->Value->Sem Value}{r r':R2}(h:OpR X f r)(h':OpR X f r'):OpR X f (λx y H Q=>r x y H Q∨r' x y H Q):=by
 intro pins s σ H x y v u Q I rx ry q
 rcases q with q | q
 ·exact h pins s σ H x y v u Q I rx ry q
 ·exact h' pins s σ H x y v u Q I rx ry q
theorem QBR(b:Expr){op:CmpOp}(h:op≠ .In:=by decide)(h2:op≠ .NotIn:=by decide):behindInMarks op b=false:=by
 have e1:(op == CmpOp.In)=false:=by cases op<;>first | rfl | exact absurd rfl h
 have e2:(op == CmpOp.NotIn)=false:=by cases op<;>first | rfl | exact absurd rfl h2
 cases b<;>simp[behindInMarks,e1,e2]
theorem QxQ{op:CmpOp}{r:R2}(ho:OpR X (compareOp op) r)(ha:PE X a ta)(hb:PE X b tb)(hm:behindInMarks op b=false):PE X (.Compare a [op] [b] pos) (tOp r ta tb):=by
 intro pins s σ H Q I h
 exact wpAny_Compare1 (QuE ha hb I h λv u s2 x y H2 I2 rx ry q=>ho pins s2 σ H2 x y v u Q I2 rx ry q) hm
noncomputable def QAF(t:TE):TT:=λσ H Q=>t σ H λx H'=>∃k,x= .bl k/\Q k H'
theorem QwD{op:CmpOp}{r:R2}(ho:OpR X (compareOp op) r)(ha:PE X a ta)(hb:PE X b tb)(hm:behindInMarks op b=false):PT X (.Compare a [op] [b] pos) (QAF (tOp r ta tb)):=by
 intro pins s σ H Q I h
 refine wpAny_isTrue_Compare1 (thn (ha pins s σ H _ I h) λv s1 ⟨x,H1,I1,r1,q1⟩=>thn (hb pins s1 σ H1 _ I1 q1) λu s2 ⟨y,H2,I2,r2,q2⟩=>
  thn (ho pins s2 σ H2 x y v u _ I2 r1 r2 q2) λc s3 ⟨z,H3,I3,r3,k,e,q3⟩=>?_) hm
 subst e
 cases r3
 exact wpAny_truthy_bool ⟨H3,I3,q3⟩
def Qui(K:PySem.W.Frag)(x:V)(H:Hp)(k:Bool):Prop:=
 match x with
 | .non=>k=false
 | .bl b=>k=b
 | .int i=>k=(i != 0)
 | .str y=>y.length<=sizeLine/\k=((y.length:Int) != 0)
 | .byt y=>y.size<=sizeLine/\k=((y.size:Int) != 0)
 | .ref p=>(∃xs,SqL K H p xs/\k= !xs.isEmpty)∨(∃xs,SqT K H p xs/\k= !xs.isEmpty)∨∃kvs,H p=some (.dK kvs)/\k= !kvs.isEmpty
 | _=>False
theorem QrK{κ:Type}{kvs:List (κ×V)}{vs:List (κ×Value)}(r:KV kvs vs):(!vs.isEmpty)= !kvs.isEmpty:=by
 cases r<;>rfl
theorem QkO{xs:List V}{its:List Value}(r:QF xs its):(!its.toArray.isEmpty)= !xs.isEmpty:=by
 cases r<;>simp
theorem Qg3:(sizeLine:Nat)<2^63:=by rw[sizeLine_eq];decide
theorem QkU:QBA X (λx H Q=>∃k,Qui X.K x H k/\Q k H):=by
 intro pins s σ H x v Q I rx h
 obtain⟨k,e,q⟩:=h
 have hl:=Qg3
 have hs:sizeLine=16777216:=sizeLine_eq
 cases x with
 | non=>
  cases rx
  have e':k=false:=e
  subst e'
  exact truthy_none ⟨H,I,q⟩
 | bl b=>
  cases rx
  have e':k=b:=e
  subst e'
  exact wpAny_truthy_bool ⟨H,I,q⟩
 | int i=>
  obtain⟨t,rfl⟩:=rx
  have e':k=(i != 0):=e
  subst e'
  exact PySem.P.truthy_int ⟨H,I,q⟩
 | str y=>
  obtain⟨t,rfl⟩:=rx
  obtain⟨hy,e'⟩:y.length<=sizeLine/\k=((y.length:Int) != 0):=e
  subst e'
  exact PySem.P.truthy_str (by omega) ⟨H,I.tok _,q⟩
 | byt y=>
  obtain⟨t,rfl⟩:=rx
  obtain⟨hy,e'⟩:y.size<=sizeLine/\k=((y.size:Int) != 0):=e
  subst e'
  exact PySem.W.truthy_bytes (by omega) ⟨H,I.tok _,q⟩
 | ref p=>
  cases rx
  have e':(∃xs,SqL X.K H p xs/\k= !xs.isEmpty)∨(∃xs,SqT X.K H p xs/\k= !xs.isEmpty)∨∃kvs,H p=some (.dK kvs)/\k= !kvs.isEmpty:=e
  rcases e' with⟨xs,hx,e'⟩ | ⟨xs,hx,e'⟩ | ⟨kvs,hx,e'⟩
  ·subst e'
   obtain⟨its,r,pl,hz⟩:=I.list hx
   have hlen:=r.length
   exact wpAny_truthy_list pl.isList (by simp only[Zw];omega) ⟨H,I.tok _,by rw[QkO r];exact q⟩
  ·subst e'
   obtain⟨its,r,pl,hz⟩:=I.tuple hx
   have hlen:=r.length
   exact truthy_tuple pl (by simp only[Zw];omega) ⟨H,I.tok _,by rw[QkO r];exact q⟩
  ·subst e'
   obtain⟨hz,hS,vs,r,m⟩:kvs.length<=sizeLine/\(p == sysModules)=false/\∃vs,KV kvs vs/\s.heap.DictOf (Ql0 X.prog X.w) p vs:=I.hok p _ hx
   have hlen:kvs.length=vs.length:=Paired.length r
   exact wpAny_truthy_dict hS m (by omega) ⟨H,I.tok _,by rw[QrK r];exact q⟩
 | _=>exact(show False from e).elim
theorem QuO(ha:PE X a ta)(he:∀whole,isTrue a X.env whole=(do let v ← whole;standAt a.pos;holding [v] (truthy v))):
  PT X a (λσ H Q=>ta σ H λx H'=>∃k,Qui X.K x H' k/\Q k H'):=by
 intro pins s σ H Q I h
 exact isTrue_plain (thn (ha pins s σ H _ I h) λv s1 ⟨x,H1,I1,r1,q1⟩=>QkU pins s1 σ H1 x v Q I1 r1 q1) (he _)
theorem vals1{x:V}{us:List Value}(r:QF [x] us):∃u,us=[u]/\RelV x u:=by
 cases r with
 | cons r1 r2=>cases r2;exact⟨_,rfl,r1⟩
theorem vals2{x y:V}{us:List Value}(r:QF [x,y] us):∃u w',us=[u,w']/\RelV x u/\RelV y w':=by
 cases r with
 | cons r1 r2=>
  cases r2 with
  | cons r3 r4=>cases r4;exact⟨_,_,rfl,r1,r3⟩
theorem QvV:QcO X (.builtin "abs") (λxs H Q=>∃i,xs=[.int i]/\Q (.int (if i<0 then-i else i)) H):=by
 intro pins s σ H xs us Q I r h
 obtain⟨i,rfl,q⟩:=h
 obtain⟨u,rfl,t,rfl⟩:=vals1 r
 exact call_abs_int λu tk=>⟨.int (if i<0 then-i else i),H,I.tok _,⟨_,rfl⟩,q⟩
theorem Qs4(hc:X.calm=true):QcO X (.builtin "max") (λxs H Q=>∃i j,xs=[.int i,.int j]/\Q (.int (if j>i then j else i)) H):=by
 intro pins s σ H xs us Q I r h
 obtain⟨i,j,rfl,q⟩:=h
 obtain⟨u,w',rfl,⟨t,rfl⟩,⟨t',rfl⟩⟩:=vals2 r
 refine max_two_ints (I.ok.hd hc) λh' tk k=>⟨_,H,I.kept k,?_,q⟩
 by_cases hj:j>i
 ·rw[if_pos hj,if_pos hj];exact⟨_,rfl⟩
 ·rw[if_neg hj,if_neg hj];exact⟨_,rfl⟩
theorem Qs0(hc:X.calm=true):QcO X (.builtin "min") (λxs H Q=>∃i j,xs=[.int i,.int j]/\Q (.int (if j<i then j else i)) H):=by
 intro pins s σ H xs us Q I r h
 obtain⟨i,j,rfl,q⟩:=h
 obtain⟨u,w',rfl,⟨t,rfl⟩,⟨t',rfl⟩⟩:=vals2 r
 refine min_two_ints (I.ok.hd hc) λh' tk k=>⟨_,H,I.kept k,?_,q⟩
 by_cases hj:j<i
 ·rw[if_pos hj,if_pos hj];exact⟨_,rfl⟩
 ·rw[if_neg hj,if_neg hj];exact⟨_,rfl⟩
end
end L2
namespace L2
open PySem PySem.Spec PyProof.Rows
structure QyX (h:Heap) (x dx C:Addr) (mA:Str->Option Value):Prop where
 obj:h.get? x=some (PySem.W.instObj C dx)
 ns:h.Ns1 dx mA
 ne:dx≠x
theorem QsX{h:Heap}{dx:Addr}{mA:Str->Option Value}(n:h.Ns1 dx mA):∃od,h.get? dx=some od/\∀name,PySem.W.lookIn name od=some (mA name):=by
 obtain⟨o,es,ep,ho,hd,hk,_,hm⟩:=n
 refine⟨o,ho,λname=>?_⟩
 have e:=hm name
 unfold nsFind findBy at e
 rw[← Array.find?_toList]at e
 unfold PySem.W.lookIn
 rw[hd]
 dsimp only
 split
 ·rename_i y q
  rw[q]at e
  exact congrArg some e
 ·rename_i q
  rw[q]at e
  have a:es.toList.any (·.refKey)=false:=by
   rw[List.any_eq_false]
   intro y hy
   obtain⟨z,t,hkey⟩:=hk y (Array.mem_toList_iff.mp hy)
   simp[DictEntry.refKey,hkey]
  have a':¬es.toList.any (·.refKey)=true:=by rw[a];exact Zan
  rw[if_neg a']
  exact congrArg some e
theorem QyX.look{h:Heap}{x dx C:Addr}{mA:Str->Option Value}(I:QyX h x dx C mA):∃od,PySem.W.InstAt h x (PySem.W.instObj C dx) C (some od)/\∀name,PySem.W.lookIn name od=some (mA name):=
 let ⟨od,ho,hl⟩:=QsX I.ns
 ⟨od,⟨I.obj,rfl,rfl,ho⟩,hl⟩
section
variable {prog:Program}{w:World}{A:Around}{E:Value->Shared->Prop}{s:Shared}{K:PySem.W.Frag}{x dx C f:Addr}{mA:Str->Option Value}{name:Str}{v:Value}
end
theorem Qlv.some_of{v:V}{o:Option Value}(r:Qlv (some v) o):∃u,o=some u/\RelV v u:=by
 cases o with
 | none=>exact(show False from r).elim
 | some u=>exact⟨u,rfl,r⟩
theorem Qlv.none_of{o:Option Value}(r:Qlv none o):o=none:=by
 cases o with
 | none=>rfl
 | some u=>exact(show False from r).elim
section
variable {P:Program}{w:World}{H H':Hp}{h h':Heap}{a C dx:Addr}{fs fs':List (Str×V)}
end
structure Cls (K:PySem.W.Frag) (C:Addr):Prop where
 pg:PySem.W.plainGet K C Str.empty=true
 hd:PySem.W.hasDictIn K C=true
 po:PySem.W.plainOver K C=true
 sa:PySem.W.findIn K (.ref C) "__setattr__" =some (some (.builtin "object.__setattr__"))
theorem Cls.get{K:PySem.W.Frag}{C:Addr}(c:Cls K C)(f:Str):PySem.W.plainGet K C f=true:=c.pg
structure Con (K:PySem.W.Frag) (C:Addr) (f:Str) (v:V) (u:Value):Prop where
 at_:PySem.W.findIn K (.ref C) f=some (some u)
 rel:RelV v u
 get:PySem.W.specialIn K u "__get__" =some none
 cp:PySem.W.copiedNames.contains f=false
structure QB1 (K:PySem.W.Frag) (C:Addr) (m:Str) (f:Addr):Prop where
 at_:PySem.W.findIn K (.ref C) m=some (some (.ref f))
 fn:PySem.W.isFn K (.ref f)=true
 kp:PySem.W.keepIn K (.ref f)=true
section
variable {X:Cx}{pins:List (Addr×Obj)}{σ:St}{H:Hp}{s:Shared}{a C dx:Addr}{fs:List (Str×V)}{f:Str}{v:V}{A:Around}{E:Value->Shared->Prop}
theorem Inv.made(I:Inv X pins σ H s):Inv X pins σ (upd (upd H s.heap.objs.size (.own (s.heap.objs.size+1))) (s.heap.objs.size+1) (.ins C s.heap.objs.size []))
  {s with heap:=(s.heap.push PySem.W.emptyDict).push (PySem.W.instObj C s.heap.objs.size)}:=by
 have e1:(s.heap.push PySem.W.emptyDict).get? s.heap.objs.size=some PySem.W.emptyDict:=ZN s.heap rfl
 have e2:((s.heap.push PySem.W.emptyDict).push (PySem.W.instObj C s.heap.objs.size)).get? (s.heap.objs.size+1)=some (PySem.W.instObj C s.heap.objs.size):=by
  have:=ZN (s.heap.push PySem.W.emptyDict) (o:=PySem.W.instObj C s.heap.objs.size) rfl
  rwa[Zbd]at this
 have e3:(s.heap.push PySem.W.emptyDict).Ns s.heap.objs.size (λ_=>none):=⟨PySem.W.emptyDict,#[],_,e1,rfl,(λe he=>absurd he (by simp)),λ_=>rfl⟩
 have I1:=I.laid (a:=s.heap.objs.size) (o:= .own (s.heap.objs.size+1)) (h':=s.heap.push PySem.W.emptyDict) (t':=s.toks) (λb u q=>Zn _ q) (Zh _) ⟨_,e1⟩
 refine I1.laid (a:=s.heap.objs.size+1) (o:= .ins C s.heap.objs.size []) (t':=s.toks) (λb u q=>Zn _ q) (Nat.le_of_eq (Zbd _ _)) ?_
 have ne:s.heap.objs.size≠s.heap.objs.size+1:=ZU (ZaT _)
 refine⟨by rw[QZ ne,Qaw],Zac _,ne,e2,λ_=>none,(Heap.Ns1.of_empty e3).at λo q=>Zn _ q,λ_=>True.intro,λy hy=>absurd rfl hy⟩
end
section
variable {X:Cx}{o e value:Expr}{f:Str}{pos pos' tpos:Pos}{ta tv:TE}
end
section
variable {X:Cx}{pins:List (Addr×Obj)}{σ:St}{H:Hp}{s:Shared}{A:Around}{E:Value->Shared->Prop}{Q:Value->Shared->Prop}{c:Value}{b:Bool}
end
end L2
namespace L2
open PySem PySem.Spec PyProof.Rows
structure QaT (k:Nat) (A:Around):Prop where
 hd:A.handled=none
 dp:A.depth+3*k+5<recursionLimit
 un:A.units+16*k+200<cLine
theorem QaT.mono{j k:Nat}{A:Around}(r:QaT k A)(h:j<=k):QaT j A:=⟨r.hd,by have:=r.dp;omega,by have:=r.un;omega⟩
theorem QaT.deeper{k:Nat}{A:Around}(r:QaT (k+1) A)(env:Env):QaT k (A.deeper env):=
 ⟨r.hd,by have:=r.dp;show A.depth+1+3*k+5<_;omega,by have:=r.un;show A.units+3+16*k+200<_;omega⟩
theorem QaT.in1{k:Nat}{A:Around}(r:QaT (k+1) A):QaT k A.in1:=
 ⟨r.hd,by have:=r.dp;show A.depth+3*k+5<_;omega,by have:=r.un;show A.units+1+16*k+200<_;omega⟩
theorem Qrf{A:Around}{C:Addr}{us:List Value}{kw:List (Str×Value)}:(A.under (.builtin "type.__call__" ⟨.ref C::us,kw⟩)).depth=A.depth+1:=by
 first | rfl | simp[Around.under,Code.weight,Code.isCreation,Code.isGuard,Code.isCaller,Code.frames,Code.isFrame,guardIds]
theorem QrI{A:Around}{C:Addr}{us:List Value}{kw:List (Str×Value)}:(A.under (.builtin "type.__call__" ⟨.ref C::us,kw⟩)).units=A.units+1:=by
 first | rfl | simp[Around.under,Code.cUnits,Code.frames,Code.isFrame]
theorem QaT.make{k:Nat}{A:Around}(r:QaT (k+1) A)(C:Addr)(us:List Value)(kw:List (Str×Value)):QaT k (A.under (.builtin "type.__call__" ⟨.ref C::us,kw⟩)):=
 ⟨r.hd,by have:=r.dp;rw[Qrf];omega,by have:=r.un;rw[QrI];omega⟩
theorem QaT.depth{k:Nat}{A:Around}(r:QaT k A):A.depth<recursionLimit:=by have:=r.dp;omega
theorem QaT.units{k:Nat}{A:Around}(r:QaT k A):A.units+64<cLine:=by have:=r.un;omega
noncomputable def QnO:TA:=λ_ H Q=>Q [] H
noncomputable def QhP(ta:TE)(tr:TA):TA:=λσ H Q=>ta σ H λx H1=>tr σ H1 λxs H2=>Q (x::xs) H2
section
variable {X:Cx}{e:Expr}{es:List Expr}{te:TE}{t:TA}{pos:Pos}
theorem QdV:PA X [] QnO:=λ_ _ _ _ H Q I h=>Calls.spliced_nil ⟨[],H,I,.nil,h⟩
theorem QaP(ha:PE X e te)(hr:PA X es t)(hs:starEach (e::es) X.env=(false,eval e X.env)::starEach es X.env:=by rfl):PA X (e::es) (QhP te t):=by
 intro pos pins s σ H Q I h
 rw[hs]
 show wpAny _ _ (spliced ((false,eval e X.env)::backTo pos (starEach es X.env))) _ _ s
 refine Calls.spliced_cons (thn (ha pins s σ H _ I h) λu s1 ⟨x,H1,I1,r1,q1⟩=>?_)
 exact thn (hr pos pins s1 σ H1 _ I1 q1) λus s2 ⟨xs,H2,I2,r2,q2⟩=>⟨x::xs,H2,I2,.cons r1 r2,q2⟩
noncomputable def Qzc(t:TA):TE:=λσ H Q=>t σ H λxs H1=>xs.length<=sizeLine/\∀p,H1 p=none->Q (.ref p) (upd H1 p (.tup xs))
noncomputable def QBv(t:TA):TE:=λσ H Q=>t σ H λxs H1=>xs.length<=sizeLine/\∀p,H1 p=none->Q (.ref p) (upd H1 p (.lst xs))
theorem QtH{x1}(h:PA X es t):PE X (.Tuple es x1 pos) (Qzc t):=by
 intro pins s σ H Q I hq
 refine wpAny_Tuple_spliced (thn (h pos pins s σ H _ I hq) λus s1 ⟨xs,H1,I1,r,z,q⟩=>⟨by rw[← r.length];exact z,?_⟩)
 have hf:H1 s1.heap.objs.size=none:=I1.hok.fresh (Zh _)
 refine⟨.ref s1.heap.objs.size,upd H1 s1.heap.objs.size (.tup xs),I1.laid (t':=s1.toks) (λb u e=>Zn _ e) (Zh _) ?_,rfl,q _ hf⟩
 exact⟨z,us,r,⟨_,ZN _ rfl,rfl,_,rfl⟩⟩
theorem Qyz(h:PA X es t):PE X (.List es pos) (QBv t):=by
 intro pins s σ H Q I hq
 refine wpAny_List_spliced (thn (h pos pins s σ H _ I hq) λus s1 ⟨xs,H1,I1,r,z,q⟩=>⟨by rw[← r.length];exact z,?_⟩)
 have hf:H1 s1.heap.objs.size=none:=I1.hok.fresh (Zh _)
 refine⟨.ref s1.heap.objs.size,upd H1 s1.heap.objs.size (.lst xs),I1.laid (t':=s1.toks) (λb u e=>Zn _ e) (Zh _) ?_,rfl,q _ hf⟩
 exact⟨z,us,0,r,ZN _ rfl⟩
end
noncomputable abbrev Sp:=List V->Hp->VK->XK->Prop
noncomputable abbrev CXT:=List Env->Hp->Shared->XK->Value->Shared->Prop
structure Qf6 (P:Program) (w:World) (K:PySem.W.Frag) (mg:Str->Option Value) (base:Heap) (A:Around) (outer:List Env) (s:Shared) (H:Hp):Prop where
 frames:A.frames=some outer
 mod:Mod K mg base
 bs:∀b o,base.get? b=some o->s.heap.get? b=some o/\H b=none
 bsz:base.objs.size<=s.heap.objs.size
 Qd7:s.heap.FunFrames base outer
 frf:∀b∈frs outer,H b=none
 hok:HOk P w H s.heap
 bare:AllBare s.gens
def CE(outer:List Env)(P:Program)(w:World)(H:Hp)(s:Shared)(Q:VK)(u:Value)(s':Shared):Prop:=
 ∃v H',s'.os=s.os/\AllBare s'.gens/\Un (frs outer) [] H H' s.heap s'.heap/\HOk P w H' s'.heap/\RelV v u/\Q v H'
def CR(CX:CXT)(outer:List Env)(P:Program)(w:World)(H:Hp)(s:Shared)(Q:VK)(E:XK)(r:Result)(s':Shared):Prop:=
 match r with
 | .ok (.ret u)=>CE outer P w H s Q u s'
 | .ok _=>False
 | .error e=>CX outer H s E e s'
structure Qb2 (P:Program) (w:World) (K:PySem.W.Frag) (mg:Str->Option Value) (base:Heap) (CX:CXT) (k:Nat) (f:Addr) (fd:FuncData) (ps:List Str) (sp:Sp):Prop where
 len:∀vs H Q E,sp vs H Q E->vs.length=ps.length
 run:∀(A:Around) (outer:List Env) (s:Shared) (H:Hp) (args:Args) (us:List Value) (vs:List V) (Q:VK) (E:XK),QaT k A->Qf6 P w K mg base A outer s H->BindsTo s fd args (ps.zip us)->QF vs us->sp vs H Q E→
  codeAny (model P w) A (.call (.ref f) args) (CR CX outer P w H s Q E) s
theorem Qb2.mono{P:Program}{w:World}{K:PySem.W.Frag}{mg:Str->Option Value}{base:Heap}{CX:CXT}{j k:Nat}{f:Addr}{fd:FuncData}{ps:List Str}{sp:Sp}(F:Qb2 P w K mg base CX j f fd ps sp)(h:j<=k):
  Qb2 P w K mg base CX k f fd ps sp:=⟨F.len,λA outer s H args us vs Q E hr=>F.run A outer s H args us vs Q E (hr.mono h)⟩
theorem Qb2.imp{P:Program}{w:World}{K:PySem.W.Frag}{mg:Str->Option Value}{base:Heap}{CX:CXT}{k:Nat}{f:Addr}{fd:FuncData}{ps:List Str}{sp sp':Sp}(F:Qb2 P w K mg base CX k f fd ps sp)
  (h:∀vs H Q E,sp' vs H Q E->sp vs H Q E):Qb2 P w K mg base CX k f fd ps sp':=
 ⟨λvs H Q E q=>F.len vs H Q E (h _ _ _ _ q),λA outer s H args us vs Q E hr he hb hv hs=>F.run A outer s H args us vs Q E hr he hb hv (h _ _ _ _ hs)⟩
theorem Qf6.make{P:Program}{w:World}{K:PySem.W.Frag}{mg:Str->Option Value}{base:Heap}{A:Around}{outer:List Env}{s:Shared}{H:Hp}(e:Qf6 P w K mg base A outer s H)(C:Addr)(us:List Value)(kw:List (Str×Value)):
  Qf6 P w K mg base (A.under (.builtin "type.__call__" ⟨.ref C::us,kw⟩)) outer s H:=⟨by first | exact e.frames | (simpa[Around.under,Code.envs,Code.isFrame,pushEnvs]using e.frames),e.mod,e.bs,e.bsz,e.Qd7,e.frf,e.hok,e.bare⟩
theorem Qf6.in1{P:Program}{w:World}{K:PySem.W.Frag}{mg:Str->Option Value}{base:Heap}{A:Around}{outer:List Env}{s:Shared}{H:Hp}(e:Qf6 P w K mg base A outer s H):
  Qf6 P w K mg base A.in1 outer s H:=⟨e.frames,e.mod,e.bs,e.bsz,e.Qd7,e.frf,e.hok,e.bare⟩
section
variable {X:Cx}{pins:List (Addr×Obj)}{σ:St}{H:Hp}{s s':Shared}
theorem Inv.QBt(I:Inv X pins σ H s):Qf6 X.prog X.w X.K X.mg X.base X.A X.stack s H:=
 ⟨I.ok.frames,I.ok.mod,I.bs,Zi I.ok.bsz I.sz,I.stack,I.Qqs,I.hok,I.bare⟩
theorem Inv.after{Q:VK}{u:Value}(I:Inv X pins σ H s)(h:CE X.stack X.prog X.w H s Q u s'):EP X pins σ Q u s':=by
 obtain⟨v,H',os,bare,un,hok,r,q⟩:=h
 obtain⟨hh,g,d,t,os'⟩:=s'
 obtain rfl:os'=s.os:=os
 exact⟨v,H',I.call (h':=hh) (g':=g) (d':=d) (t':=t) (ch:=[]) un hok bare (λb z=>absurd z (by simp)),r,q⟩
end
noncomputable def Qrk(sp:Sp)(dvs:List V)(E:XK)(t:TA):TE:=λσ H Q=>t σ H λvs H1=>sp (vs++dvs) H1 Q E
def Binds(K:PySem.W.Frag)(fd:FuncData)(ps:List Str)(ds:List Value):Prop:=
 ∀(s:Shared) (us:List Value),K.In s.heap->(us++ds).length=ps.length->BindsTo s fd ⟨us,[]⟩ (ps.zip (us++ds))
theorem Binds.all{K:PySem.W.Frag}{fd:FuncData}{ps:List Str}(h:∀us:List Value,us.length=ps.length->bindArgs fd ⟨us,[]⟩=pure (ps.zip us)):Binds K fd ps []:=λs us _ hl=>by
 rw[ZaW]at hl ⊢
 exact .of_eq (h us hl)
def Qk2(CX:CXT)(X:Cx)(E:XK):Prop:=∀(pins:List (Addr×Obj)) (σ:St) (H:Hp) (s:Shared) (e:Value) (s':Shared),Inv X pins σ H s->CX X.stack H s E e s'->X.xe e s'
section
variable {X:Cx}{CX:CXT}{k:Nat}{f C:Addr}{fd:FuncData}{ps:List Str}{sp:Sp}{dvs:List V}{ds:List Value}{E:XK}{x m:Str}{p pos apos:Pos}{e o:Expr}{es:List Expr}{ta:TE}{t:TA}
theorem Qs1{pins:List (Addr×Obj)}{σ:St}{H:Hp}{s:Shared}{Q:VK}{us:List Value}{vs:List V}(F:Qb2 X.prog X.w X.K X.mg X.base CX k f fd ps sp)(hr:QaT k X.A)(hb:Binds X.K fd ps ds)(hd:QF dvs ds)(hx:Qk2 CX X E)
  (I:Inv X pins σ H s) (r:QF vs us) (h:sp (vs++dvs) H Q E):wpAny (model X.prog X.w) X.A (call (.ref f) us) (EP X pins σ Q) X.xe s:=by
 have r2:QF (vs++dvs) (us++ds):=r.append hd
 have hl:(us++ds).length=ps.length:=by rw[← r2.length];exact F.len _ _ _ _ h
 refine wpAny_call (codeAny_mono (F.run X.A X.stack s H ⟨us,[]⟩ (us++ds) (vs++dvs) Q E hr I.QBt (hb s us I.kIn hl) r2 h) λr s' hq=>?_)
 cases r with
 | error e=>exact hx pins σ H s e s' I hq
 | ok fl=>
  cases fl with
  | ret u=>exact I.after hq
  | next=>exact False.elim hq
  | brk=>exact False.elim hq
  | cont=>exact False.elim hq
theorem QwQ(F:Qb2 X.prog X.w X.K X.mg X.base CX k f fd ps sp)(hr:QaT k X.A)(hg:Gl X x)(hm:X.mg x=some (.ref f))(hk:PySem.W.keepIn X.K (.ref f)=true)(hb:Binds X.K fd ps ds)(hd:QF dvs ds)(hx:Qk2 CX X E)
  (ha:PA X (e::es) t) (hdb:(x == ("__debug__" :Str))=false:=by decide) (he:starEach (e::es) X.env=(false,eval e X.env)::starEach es X.env:=by rfl) (hpl:(backTo pos (starEach es X.env)).any (·.1)=false:=by rfl):
  PE X (.Call (.Name x p) (e::es) [] pos) (Qrk sp dvs E t):=by
 intro pins s σ H Q I h
 refine wpAny_Call_Name_kw (Ql5 I hg hm ?_ hdb)
 refine PySem.W.callWith_K (h₀:=X.base) I.ok.mod.kin hk (thn (ha pos pins s σ H _ I h) λus s1 ⟨vs,H1,I1,r,q⟩=>⟨I1.kIn,?_⟩) he hpl
 exact Qs1 F hr hb hd hx I1 r q
theorem Que(F:Qb2 X.prog X.w X.K X.mg X.base CX k f fd ps sp)(hr:QaT k X.A)(hg:Gl X x)(hm:X.mg x=some (.ref f))(hk:PySem.W.keepIn X.K (.ref f)=true)(hb:Binds X.K fd ps ds)(hd:QF dvs ds)(hx:Qk2 CX X E)
  (hdb:(x == ("__debug__" :Str))=false:=by decide):PE X (.Call (.Name x p) [] [] pos) (Qrk sp dvs E QnO):=by
 intro pins s σ H Q I h
 refine wpAny_Call_Name_kw (Ql5 I hg hm ?_ hdb)
 exact PySem.W.callWith_K0 I.kIn hk (Qs1 (us:=[]) F hr hb hd hx I .nil h)
structure Mk (K:PySem.W.Frag) (C f:Addr):Prop where
 makes:PySem.W.makesIn K C=true
 init:PySem.W.findIn K (.ref C) "__init__" =some (some (.ref f))
 fn:PySem.W.isFn K (.ref f)=true
 kp:PySem.W.keepIn K (.ref C)=true
end
section
variable {X:Cx}{CX:CXT}{k:Nat}{f C:Addr}{fd:FuncData}{ps ks:List Str}{sp:Sp}{E:XK}{x m:Str}{p pos apos kpos:Pos}{e o:Expr}{es:List Expr}{kws:List Keyword}{te ta:TE}{t tk:TA}{nm:Option Str}
structure QBS (K:PySem.W.Frag) (fd:FuncData) (ps ks:List Str) (g:List Value->List Value->List Value) (gV:List V->List V->List V):Prop where
 to:∀(s:Shared) (us ws:List Value),K.In s.heap->(g us ws).length=ps.length->BindsTo s fd ⟨us,ks.zip ws⟩ (ps.zip (g us ws))
 rel:∀{vs:List V}{us:List Value}{zs:List V}{ws:List Value},QF vs us->QF zs ws->QF (gV vs zs) (g us ws)
variable {g:List Value->List Value->List Value}{gV:List V->List V->List V}
end
structure QdJ (N P:List Str) (sc:Scope):Prop where
 kind:sc.kind= .function
 co:sc.isCoroutine=false
 gen:sc.isGenerator=false
 nd:N.Nodup
 pre:N.take P.length=P
 par:∀x∈P,sc.names.lookup x=some .local ∨sc.names.lookup x=some .cell
 nofree:∀y∈sc.names,y.2≠ .free
theorem QmH{kindOf:Str->Option NameKind}{x:Str}:∀{binds:List (Str×Value)}{m:Str->Option Value},(∀v,(x,v)∉binds)->bindL kindOf binds m x=m x
 | [],_,_=>rfl
 | (n,v)::r,m,h=>by
  unfold bindL
  rw[QmH λw hw=>h w (Ze _ hw)]
  split
  ·have:x≠n:=by rintro rfl;exact h v Zp
   simp[this]
  ·rfl
theorem Qmy{kindOf:Str->Option NameKind}{x:Str}:∀{binds:List (Str×Value)}{m:Str->Option Value},(∀v,(x,v)∉binds)->bindC kindOf binds m x=m x
 | [],_,_=>rfl
 | (n,v)::r,m,h=>by
  unfold bindC
  rw[Qmy λw hw=>h w (Ze _ hw)]
  split
  ·rfl
  ·have:x≠n:=by rintro rfl;exact h v Zp
   simp[this]
theorem QmQ{kindOf:Str->Option NameKind}{x:Str}{v:Value}:∀{P:List Str}{vs:List Value}{i:Nat}{m:Str->Option Value},P.Nodup->P[i]? =some x->vs[i]? =some v->kindOf x=some .local →
  bindL kindOf (P.zip vs) m x=some v
 | [],_,_,_,_,h,_,_=>by simp at h
 | _::_,[],_,_,_,_,h,_=>by simp at h
 | p::P,w::vs,0,m,nd,h1,h2,hk=>by
  simp at h1 h2;subst h1;subst h2
  show bindL kindOf ((p,w)::P.zip vs) m p=_
  unfold bindL
  rw[QmH λv hv=>(ZaB.mp nd).1 (Zcg hv).1,if_pos hk]
  simp
 | p::P,w::vs,i+1,m,nd,h1,h2,hk=>by
  show bindL kindOf ((p,w)::P.zip vs) m x=_
  unfold bindL
  exact QmQ (i:=i) (ZaB.mp nd).2 (by simpa using h1) (by simpa using h2) hk
theorem Qmt{kindOf:Str->Option NameKind}{x:Str}{v:Value}:∀{P:List Str}{vs:List Value}{i:Nat}{m:Str->Option Value},P.Nodup->P[i]? =some x->vs[i]? =some v->kindOf x≠some .local →
  bindC kindOf (P.zip vs) m x=some v
 | [],_,_,_,_,h,_,_=>by simp at h
 | _::_,[],_,_,_,_,h,_=>by simp at h
 | p::P,w::vs,0,m,nd,h1,h2,hk=>by
  simp at h1 h2;subst h1;subst h2
  show bindC kindOf ((p,w)::P.zip vs) m p=_
  unfold bindC
  rw[Qmy λv hv=>(ZaB.mp nd).1 (Zcg hv).1,if_neg hk]
  simp
 | p::P,w::vs,i+1,m,nd,h1,h2,hk=>by
  show bindC kindOf ((p,w)::P.zip vs) m x=_
  unfold bindC
  exact Qmt (i:=i) (ZaB.mp nd).2 (by simpa using h1) (by simpa using h2) hk
noncomputable def start(N:List Str)(vs:List V):St:=vs.map some++List.replicate (N.length-vs.length) none
noncomputable def QiK(CX:CXT)(P:Program)(w:World)(K:PySem.W.Frag)(mg:Str->Option Value)(base:Heap)(N:List Str)(qual:Str)(scope:Scope)(f:Addr)(cd:Value)(A:Around)(outer:List Env)(s:Shared)(H:Hp)(E:XK):Cx where
 prog:=P
 w:=w
 K:=K
 mg:=mg
 base:=base
 A:=A.deeper (envOfC qual scope s.heap.objs.size f cd)
 N:=N
 s₀:=s
 H₀:=H
 env:=envOfC qual scope s.heap.objs.size f cd
 outer:=outer
 stack:=envOfC qual scope s.heap.objs.size f cd::outer
 ex:=[]
 calm:=decide (A.handled=none)
 fn:=λ_=>true
 pn:=[]
 xe:=λe s'=>wpAny (model P w) (A.deeper (envOfC qual scope s.heap.objs.size f cd)) (leaving (envOfC qual scope s.heap.objs.size f cd) e) (λ_ s''=>CX outer H s E e s'') (λe' s''=>CX outer H s E e' s'') s'
theorem QnX{sc:Scope}{n:Nat}{x:Str}(h:sc.names.lookup x=some .cell):∃c,(cellsFrom n sc.names []).lookup x=some c:=by
 have q:=Zcb sc.names n [] (.inl h)
 exact ZbP.mp q
theorem Qsw{CX:CXT}{P:Program}{w:World}{K:PySem.W.Frag}{mg:Str->Option Value}{base:Heap}{N ps:List Str}{qual:Str}{scope:Scope}{f:Addr}{cd:Value}{A:Around}{outer:List Env}{s s1:Shared}{H:Hp}{E:XK}{us:List Value}{vs:List V}
  (S:QdJ N ps scope) (e0:Qf6 P w K mg base A outer s H) (hl:vs.length=ps.length) (r:QF vs us)
  (x:InCallC s s.heap.objs.size (bindL (envOfC qual scope s.heap.objs.size f cd).kindOf (ps.zip us) λ_=>none) (cellsFrom (s.heap.objs.size+1) scope.names []) (bindC (envOfC qual scope s.heap.objs.size f cd).kindOf (ps.zip us) λ_=>none) s1):
  Inv (QiK CX P w K mg base N qual scope f cd A outer s H E) [] (start N vs) H s1:=by
 have hpl:ps.length<=N.length:=by have:=congrArg List.length S.pre;rw[ZbA]at this;omega
 obtain⟨h1,tk,rfl,hk⟩:=x.done
 have noA:∀b:Addr,b∉(QiK CX P w K mg base N qual scope f cd A outer s H E).ex:=λb z=>absurd (show b∈([]:List Addr)from z) (by simp)
 refine⟨⟨e0.mod,S.kind,rfl,rfl,Zh _,λy z c h1 h2=>?_,λy hy=>?_,λy c _ h=>?_,λh=>of_decide_eq_true h,Around.frames_deeper e0.frames,.inr ⟨rfl,rfl⟩,λb z=>absurd z (noA b),e0.bs,e0.bsz,λb _ _=>noA b,λb z=>absurd z (noA b),e0.Qd7,e0.frf⟩,
  rfl,e0.bare,Un.kept hk,⟨_,x.toInCall.ns,λi y v h1 h2 h3=>?_⟩,λy c h=>⟨_,x.cell y c h⟩,e0.hok.fresh (Zh _),λy c h=>?_,λp hp=>absurd (show p∈([]:List (Addr×Obj))from hp) (by simp),e0.hok.kept hk,?_⟩
 ·exact name_of_addr x.apart (Zal h1) (Zal h2)
 ·have hy:scope.names.lookup y=some .cell∨scope.names.lookup y=some .free:=hy
  rcases hy with hy | hy
  ·exact QnX hy
  ·exact absurd rfl (S.nofree _ (Zal hy))
 ·exact Zbg (x.above y c (Zal h))
 ·have hi:i<vs.length:=by
   unfold start at h2
   by_cases hi:i<vs.length
   ·exact hi
   ·rw[ZaK (by simpa using hi)]at h2
    rw[ZbR]at h2
    split at h2<;>cases h2
  have ha:vs[i]? =some v:=by
   unfold start at h2
   rw[Zag (by simpa using hi),Zm]at h2
   cases e:vs[i]? with
   | none=>rw[e]at h2;cases h2
   | some a=>rw[e]at h2;cases h2;rfl
  obtain⟨u,hu,rv⟩:=r.get ha
  have hp:ps[i]? =some y:=by
   rw[← S.pre,List.getElem?_take_of_lt (by omega)];exact h1
  have ndP:ps.Nodup:=by rw[← S.pre];exact S.nd.sublist (List.take_sublist _ _)
  refine⟨u,rv,?_⟩
  rcases S.par y (Zao hp)with k | k
  ·exact .inl ⟨k,QmQ ndP hp hu k⟩
  ·obtain⟨c,e⟩:=QnX (n:=s.heap.objs.size+1) k
   refine .inr ⟨.inl k,c,e,?_⟩
   have q:=x.cell y c e
   rw[Qmt ndP hp hu (by show scope.names.lookup y≠_;rw[k];decide)]at q
   exact q
 ·exact e0.hok.fresh (Zbg (x.above y c (Zal h)))
 ·unfold start
  show _=N.length
  rw[Zr,Zs,ZaD]
  omega
theorem QAv{CX:CXT}{P:Program}{w:World}{K:PySem.W.Frag}{mg:Str->Option Value}{base:Heap}{k:Nat}{f:Addr}{name qual:Str}{params:Arguments}{body:List Stmt}{scope:Scope}{dV kV doc pm cdv ct oc:Value}{an od:Option Addr}
  {osl:Array (Option Value)}{N ps:List Str}{sp:Sp}(lk:K.lookup f=some ⟨oc,od,.func (PySem.W.fnOf name qual params body scope dV kV doc pm an cdv ct),osl⟩) (hcd:PySem.W.codeIn K cdv qual=true) (S:QdJ N ps scope)
  (len:∀vs H Q E,sp vs H Q E->vs.length=ps.length)
  (hbody:∀(A:Around) (outer:List Env) (s:Shared) (H:Hp) (vs:List V) (Q:VK) (E:XK),QaT k (A.deeper (envOfC qual scope s.heap.objs.size f cdv))->sp vs H Q E→
   ∃t,PSs (QiK CX P w K mg base N qual scope f cdv A outer s H E) body t/\t {nx:=λ_ H'=>Q .non H',rt:=Q} (start N vs) H):
  Qb2 P w K mg base CX (k+1) f (PySem.W.fnOf name qual params body scope dV kV doc pm an cdv ct) ps sp:=by
 refine⟨len,λA outer s H args us vs Q E hr e0 hb r hsp=>?_⟩
 have hl:=len _ _ _ _ hsp
 have KX:K.In s.heap:=e0.mod.kin.keeps λb o e=>(e0.bs b o e).1
 have lim:s.heap.NoLimit:=e0.mod.nolimit.keeps λb o e=>(e0.bs b o e).1
 have hkind:∀y∈ps.zip us,scope.names.lookup y.1=some .local ∨(scope.names.lookup y.1=some .cell/\((cellsFrom (s.heap.objs.size+1) scope.names []).lookup y.1).isSome=true):=λ⟨n,v⟩ hy=>by
  rcases S.par n (Zcg hy).1 with q | q
  ·exact .inl q
  ·exact .inr ⟨q,Zcb _ _ _ (.inl q)⟩
 refine codeAny_call_function hr.depth (KX _ _ lk) rfl S.co S.gen rfl (PySem.W.codeRec_of KX hcd) (hb _ _ _ _ ?_)
 refine wpAny_newFunctionEnv_cells S.kind hkind λenv he s1 x=>?_
 subst he
 refine⟨lim.keeps x.toInCall.keep,codeAny_func ?_⟩
 obtain⟨t,ht,hq⟩:=hbody A outer s H vs Q E (hr.deeper _) hsp
 have I:Inv (QiK CX P w K mg base N qual scope f cdv A outer s H E) [] (start N vs) H s1:=Qsw S e0 hl r x
 refine wpAny_mono (ht [] s1 (start N vs) H _ I hq) (λfl s' hs=>?_) λe s' hs=>hs
 have fin:∀{σ':St}{H':Hp}{v:V}{u:Value},Inv (QiK CX P w K mg base N qual scope f cdv A outer s H E) [] σ' H' s'->RelV v u->Q v H'->CE outer P w H s Q u s':=
  λ{σ' H' v u} J rv q=>⟨v,H',J.os,J.bare,J.base,J.hok,rv,q⟩
 cases fl with
 | ret u=>
  obtain⟨v,σ',H',J,rv,q⟩:=hs
  exact fin J rv q
 | next=>
  obtain⟨σ',H',J,q⟩:=hs
  exact fin (v:=V.non) (u:=Value.none) J rfl q
 | brk=>
  obtain⟨_,_,_,q⟩:=hs
  exact False.elim q
 | cont=>
  obtain⟨_,_,_,q⟩:=hs
  exact False.elim q
end L2
namespace L2
open PySem PySem.Spec PyProof.Rows
section
variable {X:Cx}{x:Str}{p pos:Pos}{e:Expr}{es:List Expr}{t:TA}{id T:String}{r:List V->Hp->VK->Prop}
noncomputable def tCB(r:List V->Hp->VK->Prop)(t:TA):TE:=λσ H Q=>t σ H λvs H1=>r vs H1 Q
theorem QoR(hc:QcO X (.builtin id) r)(hg:Gl X x)(hm:X.mg x=none)(hv:bootBuiltins x=some (.builtin id))(ha:PA X (e::es) t)(hn:x≠ "__name__" :=by decide)(hdb:(x == ("__debug__" :Str))=false:=by decide)
  (he:starEach (e::es) X.env=(false,eval e X.env)::starEach es X.env:=by rfl) (hpl:(backTo pos (starEach es X.env)).any (·.1)=false:=by rfl):PE X (.Call (.Name x p) (e::es) [] pos) (tCB r t):=by
 intro pins s σ H Q I h
 refine wpAny_Call_Name_kw (QdW I hg hm hv ?_ hn hdb)
 exact PyProof.Rows.callWith_builtin1 (thn (ha pos pins s σ H _ I h) λus s1 ⟨vs,H1,I1,r1,q1⟩=>hc pins s1 σ H1 vs us Q I1 r1 q1) he hpl
theorem QiC(hc:QcO X (.type T) r)(hg:Gl X x)(hm:X.mg x=none)(hv:bootBuiltins x=some (.type T))(ha:PA X (e::es) t)(hn:x≠ "__name__" :=by decide)(hdb:(x == ("__debug__" :Str))=false:=by decide)
  (he:starEach (e::es) X.env=(false,eval e X.env)::starEach es X.env:=by rfl) (hpl:(backTo pos (starEach es X.env)).any (·.1)=false:=by rfl):PE X (.Call (.Name x p) (e::es) [] pos) (tCB r t):=by
 intro pins s σ H Q I h
 refine wpAny_Call_Name_kw (QdW I hg hm hv ?_ hn hdb)
 exact ZW (thn (ha pos pins s σ H _ I h) λus s1 ⟨vs,H1,I1,r1,q1⟩=>hc pins s1 σ H1 vs us Q I1 r1 q1) he hpl
end
end L2
namespace HT
open PySem PyProof.Rows
section
open PySem.SeqAt
open PySem.AutoSeq1 (wpAny_loadPart')
open PySem.MeetsSeq PySem.MeetsSeq2 PySem.MeetsSeq3
end
section
variable {prog:Program}{w:World}{A:Around}{E:Value->Shared->Prop}{s:Shared}
noncomputable def sIx(n d:Nat):Option Int->Nat
 | none=>d
 | some v=>if v<0 then(v+(n:Int)).toNat else min v.toNat n
theorem QfR(n d:Nat):sIx n d none=d:=rfl
theorem Qhr(n d k:Nat):sIx n d (some (k:Int))=min k n:=by
 show(if(k:Int)<0 then((k:Int)+(n:Int)).toNat else min (k:Int).toNat n)=min k n
 rw[if_neg (by omega),ZL]
end
end HT
namespace L2
open PySem PySem.Spec PyProof.Rows
noncomputable abbrev TO:=St->Hp->(Option Int->Hp->Prop)->Prop
def PO(X:Cx)(e:Option Expr)(t:TO):Prop:=
 ∀(pins:List (Addr×Obj)) (s:Shared) (σ:St) (H:Hp) (Q:Option Int->Hp->Prop),Inv X pins σ H s->t σ H Q→
  wpAny (model X.prog X.w) X.A (evalPart e X.env) (λu s'=>∃o H',Inv X pins σ H' s'/\IsPart u o/\Q o H') X.xe s
noncomputable def QwF:TO:=λ_ H Q=>Q none H
noncomputable def Qz9(t:TE):TO:=λσ H Q=>t σ H λx H1=>∃i,x= .int i/\Q (some i) H1
theorem intsAre_of{ns:List Int}:∀{us:List Value},QF (ns.map V.int) us->IntsAre us ns:=by
 induction ns with
 | nil=>intro us r;rw[List.map_nil]at r;cases r;exact .nil
 | cons n ns ih=>
  intro us r
  rw[ZJ]at r
  cases r with
  | cons r1 r2=>
   obtain⟨t,e⟩:=r1
   subst e
   exact .cons n t (ih r2)
section
variable {X:Cx}{e:Expr}{te:TE}{lo hi:Option Expr}{tl th:TO}{pos p2:Pos}
theorem QxO:PO X none QwF:=by
 intro pins s σ H Q I h
 rw[evalPart_none]
 exact wpAny_pure ⟨none,H,I,.none,h⟩
theorem Qxe(h:PE X e te):PO X (some e) (Qz9 te):=by
 intro pins s σ H Q I hw
 rw[evalPart_some]
 refine thn (h pins s σ H _ I hw) λu s1 ⟨x,H1,I1,r1,q1⟩=>?_
 obtain⟨i,rfl,q⟩:=q1
 obtain⟨t,rfl⟩:=r1
 exact⟨some i,H1,I1,.int i t,q⟩
def SlR(X:Cx)(r:V->Option Int->Option Int->Hp->VK->Prop):Prop:=
 ∀(pins:List (Addr×Obj)) (s:Shared) (σ:St) (H:Hp) (x:V) (v vl vu:Value) (lo hi:Option Int) (sl:Addr) (Q:VK),Inv X pins σ H s->RelV x v->s.heap.IsSliceOf sl vl vu .none->IsPart vl lo->IsPart vu hi->r x lo hi H Q→
  ∃T id,typeLookup (.type T) "__getitem__" =pure (some (.builtin id))/\s.TypeIs v T/\wpAny (model X.prog X.w) X.A (getItem v (.ref sl)) (EP X pins σ Q) X.xe s
theorem SlR.or{r r':V->Option Int->Option Int->Hp->VK->Prop}(h:SlR X r)(h':SlR X r'):SlR X (λx lo hi H Q=>r x lo hi H Q∨r' x lo hi H Q):=by
 intro pins s σ H x v vl vu lo hi sl Q I rx hs pl pu q
 rcases q with q | q
 ·exact h pins s σ H x v vl vu lo hi sl Q I rx hs pl pu q
 ·exact h' pins s σ H x v vl vu lo hi sl Q I rx hs pl pu q
noncomputable def tSl(r:V->Option Int->Option Int->Hp->VK->Prop)(te:TE)(tl th:TO):TE:=λσ H Q=>te σ H λx H1=>tl σ H1 λl H2=>th σ H2 λu H3=>r x l u H3 Q
theorem QtT{r:V->Option Int->Option Int->Hp->VK->Prop}(hr:SlR X r)(he:PE X e te)(hl:PO X lo tl)(hu:PO X hi th):PE X (.Subscript e (.Slice lo hi none p2) pos) (tSl r te tl th):=by
 intro pins s σ H Q I h
 refine Subscript_ (thn (he pins s σ H _ I h) λv s1 ⟨x,H1,I1,r1,q1⟩=>?_)
 refine wpAny_Slice (thn (hl pins s1 σ H1 _ I1 q1) λvl s2 ⟨l,H2,I2,pl,q2⟩=>thn (hu pins s2 σ H2 _ I2 q2) λvu s3 ⟨u,H3,I3,pu,q3⟩=>?_)
 rw[evalPart_none]
 refine wpAny_pure ?_
 have I4:Inv X pins σ H3 {s3 with heap:=s3.heap.push {cls:= .type "slice",data:= .fields #[vl,vu,.none]}}:=I3.kept (t':=s3.toks) λb ob q=>Zn _ q
 obtain⟨T,id,hT,ht,hg⟩:=hr pins {s3 with heap:=s3.heap.push {cls:= .type "slice",data:= .fields #[vl,vu,.none]}} σ H3 x v vl vu l u s3.heap.objs.size Q I4 r1 (Heap.IsSliceOf.new ..) pl pu q3
 show wpAny (model X.prog X.w) X.A (subscriptTail e (.Slice lo hi none p2) v (.ref s3.heap.objs.size)) (EP X pins σ Q) X.xe {s3 with heap:=s3.heap.push {cls:= .type "slice",data:= .fields #[vl,vu,.none]}}
 exact tail_any (ops:=[.ref s3.heap.objs.size,v]) ht hT hg (by with_unfolding_all rfl)
noncomputable def Qlr(xs:List V)(lo hi:Option Int):List V:=(xs.drop (HT.sIx xs.length 0 lo)).take (HT.sIx xs.length xs.length hi-HT.sIx xs.length 0 lo)
theorem Qp0(xs:List V)(lo hi:Option Int):(Qlr xs lo hi).length<=xs.length:=by
 unfold Qlr
 rw[ZbA,List.length_drop]
 omega
end
end L2
namespace L2
open PySem PySem.Spec PyProof.Rows
noncomputable def ixN(n:Nat)(i:Int):Option Nat:=if 0<=i then(if i<n then some i.toNat else none)else if-(n:Int)<=i then some (i+n).toNat else none
noncomputable def atI{α:Type}(xs:List α)(i:Int):Option α:=(ixN xs.length i).bind λj=>xs[j]?
theorem QcD{n:Nat}{i:Int}{j:Nat}(h:ixN n i=some j):seqIndex? i n=some j/\j<n/\ -(n:Int)<=i/\i<n:=by
 unfold ixN at h
 by_cases h0:0<=i
 ·rw[if_pos h0]at h
  by_cases h1:i<n
  ·rw[if_pos h1]at h
   have e:i.toNat=j:=Option.some.inj h
   exact⟨by rw[seqIndex_of h0 h1,e],by omega,by omega,h1⟩
  ·rw[if_neg h1]at h;cases h
 ·rw[if_neg h0]at h
  by_cases h1: -(n:Int)<=i
  ·rw[if_pos h1]at h
   have e:(i+n).toNat=j:=Option.some.inj h
   exact⟨by rw[seqIndex_neg (by omega) h1,e],by omega,h1,by omega⟩
  ·rw[if_neg h1]at h;cases h
theorem Qlx{α:Type}{xs:List α}{i:Int}{v:α}(h:atI xs i=some v):∃j,seqIndex? i xs.length=some j/\xs[j]? =some v/\j<xs.length/\ -(xs.length:Int)<=i/\i<xs.length:=by
 unfold atI at h
 cases e:ixN xs.length i with
 | none=>rw[e]at h;cases h
 | some j=>
  rw[e]at h
  obtain⟨h1,h2,h3,h4⟩:=QcD e
  exact⟨j,h1,h,h2,h3,h4⟩
def QiS(b:Expr):Prop:=∀o i,subscripted b false o i=operate [o,i] (getItem o i)
def IxR(X:Cx)(r:R2):Prop:=
 ∀(value slice:Expr) (pins:List (Addr×Obj)) (s:Shared) (σ:St) (H:Hp) (x y:V) (v u:Value) (Q:VK),Inv X pins σ H s->RelV x v->RelV y u->r x y H Q→
  subscripted slice false v u=operate [v,u] (getItem v u)->wpAny (model X.prog X.w) X.A (subscriptTail value slice v u) (EP X pins σ Q) X.xe s
def MtR(X:Cx)(id:String)(r:V->List V->Hp->VK->Prop):Prop:=
 ∀(pins:List (Addr×Obj)) (s:Shared) (σ:St) (H:Hp) (x:V) (xs:List V) (v:Value) (us:List Value) (Q:VK),Inv X pins σ H s->RelV x v->QF xs us->r x xs H Q→
  wpAny (model X.prog X.w) X.A (call (.builtin id) (v::us)) (EP X pins σ Q) X.xe s
section
variable {X:Cx}{a b:Expr}{ta tb:TE}{pos:Pos}
theorem IxR.or{r r':R2}(h:IxR X r)(h':IxR X r'):IxR X (λx y H Q=>r x y H Q∨r' x y H Q):=by
 intro value slice pins s σ H x y v u Q I rx ry q hs
 rcases q with q | q
 ·exact h value slice pins s σ H x y v u Q I rx ry q hs
 ·exact h' value slice pins s σ H x y v u Q I rx ry q hs
theorem MtR.or{id:String}{r r':V->List V->Hp->VK->Prop}(h:MtR X id r)(h':MtR X id r'):MtR X id (λx xs H Q=>r x xs H Q∨r' x xs H Q):=by
 intro pins s σ H x xs v us Q I rx rs q
 rcases q with q | q
 ·exact h pins s σ H x xs v us Q I rx rs q
 ·exact h' pins s σ H x xs v us Q I rx rs q
theorem QvY{r:R2}(hr:IxR X r)(ha:PE X a ta)(hb:PE X b tb)(hs:QiS b):PE X (.Subscript a b pos) (tOp r ta tb):=by
 intro pins s σ H Q I h
 exact Subscript_ (QuE ha hb I h λv u s2 x y H2 I2 rx ry q=>hr a b pins s2 σ H2 x y v u Q I2 rx ry q (hs _ _))
noncomputable def QzI(K:PySem.W.Frag):R2:=λx y H Q=>∃p xs i v,x= .ref p/\y= .int i/\SqL K H p xs/\atI xs i=some v/\Q v H
noncomputable def QBx(K:PySem.W.Frag):R2:=λx y H Q=>∃p xs i v,x= .ref p/\y= .int i/\SqT K H p xs/\atI xs i=some v/\Q v H
theorem QqD:IxR X (QzI X.K):=by
 intro value slice pins s σ H x y v u Q I rx ry h hs
 obtain⟨p,xs,i,z,rfl,rfl,hq,he,q⟩:=h
 cases rx
 obtain⟨t,rfl⟩:=ry
 obtain⟨its,r,pl,hz⟩:=I.list hq
 obtain⟨j,h1,h2,h3,h4,h5⟩:=Qlx he
 obtain⟨w,ew,rw'⟩:=r.get h2
 have hl:=r.length
 have hn:=Qg3
 have fin:EP X pins σ Q w s:=⟨z,H,I,rw',q⟩
 by_cases h0:0<=i
 ·have hj:i.toNat=j:=by
   rw[seqIndex_of h0 h5]at h1
   exact Option.some.inj h1
  exact item_listR pl.isList h0 (by omega) (by rw[hj];simpa using ew) fin hs
 ·have hj:(i+(its.toArray.size:Int)).toNat=j:=by
   rw[seqIndex_neg (by omega) h4]at h1
   rw[Zw,← hl]
   exact Option.some.inj h1
  exact subscriptTail_builtinR (x:=w) pl.isList.typeIs slot_list_getitem.lookup
   (wpAny_getItem_list_neg (Q:=λr s'=>r=w/\EP X pins σ Q r s') pl.isList (by omega) (by rw[Zw]<;>omega) (by omega) (by rw[hj];simpa using ew) ⟨rfl,fin⟩) hs
theorem QsB:IxR X (QBx X.K):=by
 intro value slice pins s σ H x y v u Q I rx ry h hs
 obtain⟨p,xs,i,z,rfl,rfl,hq,he,q⟩:=h
 cases rx
 obtain⟨t,rfl⟩:=ry
 obtain⟨its,r,pl,hz⟩:=I.tuple hq
 obtain⟨j,h1,h2,h3,h4,h5⟩:=Qlx he
 obtain⟨w,ew,rw'⟩:=r.get h2
 have hl:=r.length
 have hn:=Qg3
 have fin:EP X pins σ Q w s:=⟨z,H,I,rw',q⟩
 exact subscriptTail_builtinR (x:=w) pl.typeIs slot_tuple_getitem.lookup
  (getItem_tuple (j:=j) (Q:=λr s'=>r=w/\EP X pins σ Q r s') pl (by omega) (by omega) (by rw[Zw,← hl];exact h1) (by simpa using ew) ⟨rfl,fin⟩) hs
theorem QrL(its:List Value)(n j:Nat)(u:Value):Obj.mapSeq (·.setIfInBounds j u) {cls:= .type "list",data:= .seq its.toArray n}={cls:= .type "list",data:= .seq (its.set j u).toArray n}:=by
 simp[Obj.mapSeq]
theorem Inv.lst{pins:List (Addr×Obj)}{σ:St}{H:Hp}{s:Shared}{p:Addr}{xs:List V}(I:Inv X pins σ H s)(h:H p=some (.lst xs)):
  ∃(its:List Value) (n:Nat),QF xs its/\s.heap.get? p=some {cls:= .type "list",data:= .seq its.toArray n}/\xs.length<=sizeLine:=by
 obtain⟨z,its,n,r,e⟩:=I.hok p _ h
 exact⟨its,n,r,e,z⟩
theorem Inv.Qy1{pins:List (Addr×Obj)}{σ:St}{H:Hp}{s:Shared}{p:Addr}{xs ys:List V}{its its':List Value}{n n':Nat}{f:Obj->Obj}(I:Inv X pins σ H s)(h:H p=some (.lst xs))
  (ho:s.heap.get? p=some {cls:= .type "list",data:= .seq its.toArray n}) (hf:f {cls:= .type "list",data:= .seq its.toArray n}={cls:= .type "list",data:= .seq its'.toArray n'}) (r:QF ys its') (hz:ys.length<=sizeLine) (t:Nat):
  Inv X pins σ (upd H p (.lst ys)) {s with heap:=s.heap.update p f,toks:=t}:=by
 have e:(s.heap.update p f).get? p=some {cls:= .type "list",data:= .seq its'.toArray n'}:=by
  rw[Heap.get?_update_self f ho (by rw[hf]<;>rfl),hf]
 refine I.write (x:=p) (e:=p) (by rw[h];trivial) (.inl rfl) (λb u hb q=>(Heap.get?_update_other _ _ (Ne.symm hb)).trans q) ⟨_,e⟩ ?_
 exact⟨hz,its',n',r,e⟩
noncomputable def Qgh:V->V->V->Hp->(Hp->Prop)->Prop:=λo i v H Q=>∃p xs k j,o= .ref p/\i= .int k/\H p=some (.lst xs)/\ixN xs.length k=some j/\Q (upd H p (.lst (xs.set j v)))
theorem set_list:Quq X Qgh:=by
 intro pins s σ H o i v ov iv u Q I ro ri rv h
 obtain⟨p,xs,k,j,rfl,rfl,hp,hj,q⟩:=h
 cases ro
 obtain⟨t,rfl⟩:=ri
 obtain⟨its,n,r,ho,hz⟩:=I.lst hp
 obtain⟨h1,h2,h3,h4⟩:=QcD hj
 have hl:=r.length
 have hn:=Qg3
 have I':Inv X pins σ (upd H p (.lst (xs.set j v))) {s with heap:=s.heap.update p (Obj.mapSeq (·.setIfInBounds j u))}:=
  I.Qy1 hp ho (QrL its n j u) (r.set rv j) (by rw[ZY];exact hz) s.toks
 by_cases h0:0<=k
 ·have hk:k.toNat=j:=by
   rw[seqIndex_of h0 h4]at h1
   exact Option.some.inj h1
  exact PySem.W.ki_setAt ho h0 (by omega) (by rw[Zw,← hl];exact h4) (by rw[hk];exact⟨_,I',q⟩)
 ·have hk:(k+(its.toArray.size:Int)).toNat=j:=by
   rw[seqIndex_neg (by omega) h3]at h1
   rw[Zw,← hl]
   exact Option.some.inj h1
  exact PySem.W.ki_setBack ho (by omega) (by rw[Zw,← hl];exact h3) (by omega) (by rw[hk];exact⟨_,I',q⟩)
theorem QnN(lo hi:Option Int)(n:Nat):(sliceBounds lo hi none n).1=((HT.sIx n 0 lo:Nat):Int)/\(sliceBounds lo hi none n).2.1=((HT.sIx n n hi:Nat):Int)/\(sliceBounds lo hi none n).2.2=1:=by
 refine⟨?_,?_,rfl⟩
 ·cases lo with
  | none=>simp[sliceBounds,HT.sIx]
  | some i=>
   simp only[sliceBounds,HT.sIx,Option.getD_none,show(1:Int)>0 by decide,if_true]
   by_cases h:i<0
   ·simp only[h,if_true]<;>omega
   ·simp only[h,if_false]<;>omega
 ·cases hi with
  | none=>simp[sliceBounds,HT.sIx]
  | some i=>
   simp only[sliceBounds,HT.sIx,Option.getD_none,show(1:Int)>0 by decide,if_true]
   by_cases h:i<0
   ·simp only[h,if_true]<;>omega
   ·simp only[h,if_false]<;>omega
theorem Qm3(its:List Value)(lo hi:Option Int):slicePick its.toArray lo hi none=((its.drop (HT.sIx its.length 0 lo)).take (HT.sIx its.length its.length hi-HT.sIx its.length 0 lo)).toArray:=by
 obtain⟨h1,h2,h3⟩:=QnN lo hi its.toArray.size
 unfold slicePick
 rw[h1,h2,h3]
 simp only[sliceRange_one,pick_run,Zw]<;>rfl
noncomputable def QBB(K:PySem.W.Frag):V->Option Int->Option Int->Hp->VK->Prop:=λx lo hi H Q=>∃a xs,x= .ref a/\SqL K H a xs/\∀p,H p=none->Q (.ref p) (upd H p (.lst (Qlr xs lo hi)))
theorem Qws:SlR X (QBB X.K):=by
 intro pins s σ H x v vl vu lo hi sl Q I rx hs pl pu h
 obtain⟨a,xs,rfl,hx,q⟩:=h
 cases rx
 obtain⟨its,r,ht,hz⟩:=I.list hx
 have hlen:=r.length
 refine⟨"list",_,slot_list_getitem.lookup,ht.isList.typeIs,?_⟩
 refine wpAny_getItem_list_slice ht.isList hs pl pu .none (by simp) ?_ (by rw[Zw]<;>omega)
 rw[Qm3,← hlen]
 refine⟨.ref s.heap.objs.size,_,I.laid (t':=s.toks) (o:= .lst (Qlr xs lo hi)) (λb ob q=>Zn _ q) (Zh _) ?_,rfl,q _ (I.hok.fresh (Zh _))⟩
 exact⟨Zi (Qp0 xs lo hi) hz,_,0,(r.drop (HT.sIx xs.length 0 lo)).take (HT.sIx xs.length xs.length hi-HT.sIx xs.length 0 lo),ZN _ rfl⟩
theorem Qpm:QcO X (.builtin "len") (λxs H Q=>∃p ys,xs=[.ref p]/\(SqL X.K H p ys∨SqT X.K H p ys)/\Q (.int ys.length) H):=by
 intro pins s σ H xs us Q I r h
 obtain⟨p,ys,rfl,hq,q⟩:=h
 obtain⟨u,rfl,rx⟩:=vals1 r
 cases rx
 have hn:=Qg3
 rcases hq with hq | hq
 ·obtain⟨its,r',pl,hz⟩:=I.list hq
  have hlen:=r'.length
  exact Calls.call_len_list pl.isList (by simp only[Zw]<;>omega) ⟨.int ys.length,H,I.tok _,⟨s.toks+1,by rw[Zw,hlen]⟩,q⟩
 ·obtain⟨its,r',pl,hz⟩:=I.tuple hq
  have hlen:=r'.length
  exact len_tuple pl (by simp only[Zw]<;>omega) ⟨.int ys.length,H,I.tok _,⟨s.toks+1,by rw[Zw,hlen]⟩,q⟩
theorem QcO.or{f:Value}{r r':List V->Hp->VK->Prop}(h:QcO X f r)(h':QcO X f r'):QcO X f (λxs H Q=>r xs H Q∨r' xs H Q):=by
 intro pins s σ H xs us Q I rs q
 rcases q with q | q
 ·exact h pins s σ H xs us Q I rs q
 ·exact h' pins s σ H xs us Q I rs q
theorem QiB:QcO X (.type "list") (λxs H Q=>∃p ys,xs=[.ref p]/\(SqL X.K H p ys∨SqT X.K H p ys)/\∀l,H l=none->Q (.ref l) (upd H l (.lst ys))):=by
 intro pins s σ H xs us Q I r h
 obtain⟨p,ys,rfl,hq,q⟩:=h
 obtain⟨u,rfl,rx⟩:=vals1 r
 cases rx
 have fin:∀(its:List Value),QF ys its->ys.length<=sizeLine->∀(h':Heap) (c':Nat),(∀b o',s.heap.get? b=some o'->h'.get? b=some o')→
   h'.get? s.heap.objs.size=some {cls:= .type "list",dict:=none,data:= .seq its.toArray c',slots:= #[]}->EP X pins σ Q (.ref s.heap.objs.size) {s with heap:=h'}:=λits r' hz h' c' kp e=>
  ⟨.ref s.heap.objs.size,_,I.laid (t':=s.toks) kp (Zh _) (show QcU X.prog X.w _ h' _ (.lst ys)from⟨hz,its,c',r',e⟩),rfl,q _ (I.hok.fresh (Zh _))⟩
 rcases hq with hq | hq
 ·obtain⟨its,r',pl,hz⟩:=I.list hq
  have hlen:=r'.length
  obtain⟨o,ho,hc,n,hd⟩:=pl.isList
  exact call_list_seq p (.inl rfl) ho hc hd (λh' c' kp e=>fin its r' hz h' c' kp e) (by simp only[Zw]<;>omega)
 ·obtain⟨its,r',pl,hz⟩:=I.tuple hq
  have hlen:=r'.length
  obtain⟨o,ho,hc,n,hd⟩:=pl
  exact call_list_seq p (.inr rfl) ho hc hd (λh' c' kp e=>fin its r' hz h' c' kp e) (by simp only[Zw]<;>omega)
theorem Qnf:QcO X (.type "tuple") (λxs H Q=>∃p ys,xs=[.ref p]/\((SqL X.K H p ys/\∀l,H l=none->Q (.ref l) (upd H l (.tup ys)))∨(SqT X.K H p ys/\Q (.ref p) H))):=by
 intro pins s σ H xs us Q I r h
 obtain⟨p,ys,rfl,h⟩:=h
 obtain⟨u,rfl,rx⟩:=vals1 r
 cases rx
 rcases h with⟨hq,q⟩ | ⟨hq,q⟩
 ·obtain⟨its,r',pl,hz⟩:=I.list hq
  have hlen:=r'.length
  refine call_tuple_list pl.isList (λh' kp=>?_) (by simp only[Zw]<;>omega)
  have I1:Inv X pins σ H {s with heap:=h'}:=I.kept (t':=s.toks) kp
  have I2:Inv X pins σ (upd H h'.objs.size (.tup ys)) {s with heap:=h'.push {cls:= .type "tuple",data:= .seq its.toArray}}:=
   I1.laid (t':=s.toks) (λb o e=>Zn _ e) (Zh _) (show QcU X.prog X.w _ _ _ (.tup ys)from⟨hz,its,r',IsTup.new _ _⟩)
  exact⟨.ref h'.objs.size,_,I2,rfl,q _ (I1.hok.fresh (Zh _))⟩
 ·obtain⟨its,r',pl,hz⟩:=I.tuple hq
  exact call_tuple_same pl ⟨.ref p,H,I,rfl,q⟩
def tyV(K:PySem.W.Frag)(T:String)(x:V)(H:Hp):Prop:=match x with
 | .str _=>T= "str"
 | .int _=>T= "int"
 | .ref p=>(T= "list" /\∃xs,SqL K H p xs)∨(T= "tuple" /\∃o,K.lookup p=some o/\o.cls= .type "tuple" /\o.dict=none)∨
   (T= "dict" /\((∃kvs,H p=some (.dK kvs))∨∃kvs,H p=some (.dT kvs)))∨(T= "set" /\∃S n,H p=some (.set S n))
 | _=>False
theorem QsV{pins:List (Addr×Obj)}{σ:St}{H:Hp}{s:Shared}{T:String}{x:V}{v:Value}(I:Inv X pins σ H s)(r:RelV x v)(ty:tyV X.K T x H):
  s.TypeIs v T/\∀a,v= .ref a->∃ob,s.heap.get? a=some ob/\ob.dict=none:=by
 cases x with
 | str z=>
  obtain⟨t,rfl⟩:=r
  cases(show T= "str" from ty)
  exact⟨typeIs_str s z t,λ_ e=>nomatch e⟩
 | int i=>
  obtain⟨t,rfl⟩:=r
  cases(show T= "int" from ty)
  exact⟨typeIs_int s i t,λ_ e=>nomatch e⟩
 | ref p=>
  cases r
  rcases ty with⟨rfl,xs,hq⟩ | ⟨rfl,o,hk,hc,hd⟩ | ⟨rfl,hk⟩ | ⟨rfl,S,n,hk⟩
  ·obtain⟨its,_,pl,_⟩:=I.list hq
   refine⟨pl.isList.typeIs,λa e=>?_⟩
   cases e
   obtain⟨o,n,e,c,hd,_⟩:=pl
   exact⟨o,e,hd⟩
  ·refine⟨⟨o,I.kIn p o hk,hc⟩,λa e=>?_⟩
   cases e
   exact⟨o,I.kIn _ o hk,hd⟩
  ·have z:∃o,s.heap.get? p=some o/\o.ExactDict:=by
    rcases hk with⟨kvs,hk⟩ | ⟨kvs,hk⟩
    ·obtain⟨_,_,_,_,o,_,_,e,ex,_⟩:=I.hok p _ hk
     exact⟨o,e,ex⟩
    ·obtain⟨_,_,_,_,o,_,_,e,ex,_⟩:=I.hok p _ hk
     exact⟨o,e,ex⟩
   obtain⟨o,e,ex⟩:=z
   refine⟨⟨o,e,ex.1⟩,λa e2=>?_⟩
   cases e2
   exact⟨o,e,ex.2.1⟩
  ·obtain⟨o,_,_,_,e,ex,_⟩:=I.hok p _ hk
   refine⟨⟨o,e,ex.1⟩,λa e2=>?_⟩
   cases e2
   exact⟨o,e,ex.2.1⟩
 | _=>exact False.elim ty
noncomputable def QyK(K:PySem.W.Frag)(T:String)(r:V->List V->Hp->VK->Prop)(to:TE):TE:=λσ H Q=>to σ H λx H1=>tyV K T x H1/\r x [] H1 Q
noncomputable def tBM(K:PySem.W.Frag)(T:String)(r:V->List V->Hp->VK->Prop)(to:TE)(t:TA):TE:=λσ H Q=>to σ H λx H1=>tyV K T x H1/\t σ H1 λxs H2=>r x xs H2 Q
variable {o e:Expr}{es:List Expr}{to:TE}{t:TA}{name:Str}{apos cpos:Pos}{T id:String}{r:V->List V->Hp->VK->Prop}
theorem Qzx(pa:PlainAttrs T)(slot:Slot T name id)(hty:typeOf (.builtin id)=pure (.type "method_descriptor"))(hm:MtR X id r)(ho:PE X o to)
  (hbase:attributeBase o name X.env (eval o X.env)=eval o X.env:=by rfl) (hline:(apos.endLine == cpos.line)=true:=by rfl):PE X (.Call (.Attribute o name apos) [] [] cpos) (QyK X.K T r to):=by
 intro pins s σ H Q I h
 refine wpAny_Call_method0_late hbase hline (thn (ho pins s σ H _ I h) λv s1 ⟨x,H1,I1,r1,ty,q1⟩=>?_)
 obtain⟨h1,h2⟩:=QsV I1 r1 ty
 exact⟨T,id,pa,slot,hty,h1,h2,Calls.callWith_builtin rfl (PySem.evalArgs_none (hm pins s1 σ H1 x [] v [] Q I1 r1 .nil q1))⟩
theorem QAU(pa:PlainAttrs T)(slot:Slot T name id)(hty:typeOf (.builtin id)=pure (.type "method_descriptor"))(hm:MtR X id r)(ho:PE X o to)(ha:PA X (e::es) t)
  (hbase:attributeBase o name X.env (eval o X.env)=eval o X.env:=by rfl)
  (hfew:((backTo cpos (starEach (e::es) X.env)).all (λx=> !x.1) && (backToKw cpos (keywordEach [] X.env)).all (λx=>x.1.isSome)
   && decide ((e::es).length+([]:List Keyword).length+(if([]:List Keyword).isEmpty then 0 else 1)<30))=true:=by rfl)
  (hline:(apos.endLine == cpos.line)=true:=by rfl) (hs:starEach (e::es) X.env=(false,eval e X.env)::starEach es X.env:=by rfl) (hplain:(backTo cpos (starEach es X.env)).any (·.1)=false:=by rfl):
  PE X (.Call (.Attribute o name apos) (e::es) [] cpos) (tBM X.K T r to t):=by
 intro pins s σ H Q I h
 refine wpAny_Call_method_late hbase hfew hline rfl (thn (ho pins s σ H _ I h) λv s1 ⟨x,H1,I1,r1,ty,q1⟩=>?_)
 obtain⟨h1,h2⟩:=QsV I1 r1 ty
 refine⟨T,id,pa,slot,hty,h1,h2,?_⟩
 have hA:=ha cpos pins s1 σ H1 _ I1 q1
 rw[hs]at hA ⊢
 refine Calls.callWith_builtin (by show(false || (backTo cpos (starEach es X.env)).any (·.1))=false;rw[hplain]<;>rfl) (Calls.evalArgs_plain ?_)
 exact thn hA λus s2 ⟨vs,H2,I2,r2,q2⟩=>hm pins s2 σ H2 x vs v us Q I2 r1 r2 q2
end
end L2
namespace L2
open PySem PySem.Spec PyProof.Rows
def MtM(X:Cx)(id:String)(r:V->List V->Hp->VK->Prop):Prop:=
 ∀(pins:List (Addr×Obj)) (s:Shared) (σ:St) (H:Hp) (x:V) (xs:List V) (v:Value) (us:List Value) (Q:VK),Inv X pins σ H s->RelV x v->QF xs us->r x xs H Q→
  wpAny (model X.prog X.w) X.A (call (.builtin id) (v::us)) (EP X pins σ Q) X.xe s
theorem QF.one:∀{x:V}{us:List Value},QF [x] us->∃u,us=[u]/\RelV x u
 | _,_,.cons r .nil=>⟨_,rfl,r⟩
theorem QF.two:∀{x y:V}{us:List Value},QF [x,y] us->∃u v,us=[u,v]/\RelV x u/\RelV y v
 | _,_,_,.cons r (.cons q .nil)=>⟨_,_,rfl,r,q⟩
theorem QF.zero:∀{us:List Value},QF [] us->us=[]
 | _,.nil=>rfl
theorem QF.reverse{xs:List V}{us:List Value}(h:QF xs us):QF xs.reverse us.reverse:=by
 induction h with
 | nil=>exact .nil
 | cons r t ih=>rw[Zbr,Zbr];exact QF.append ih (.cons r .nil)
theorem QF.rep{xs:List V}{us:List Value}(h:QF xs us):∀k:Nat,QF (List.replicate k xs).flatten (List.replicate k us).flatten
 | 0=> .nil
 | k+1=>by
  rw[Zam,Zam,Zat,Zat]
  exact QF.append h (QF.rep h k)
theorem foldl_rep(its:List Value):∀(k:Nat) (acc:List Value),
  List.foldl (λx1 x2=>x1++x2) acc.toArray (List.replicate k its.toArray)=(acc++(List.replicate k its).flatten).toArray
 | 0,acc=>by simp
 | k+1,acc=>by
  have e:acc.toArray++its.toArray=(acc++its).toArray:=by simp
  have e2:(acc++its)++(List.replicate k its).flatten=acc++(List.replicate (k+1) its).flatten:=by
   rw[Zam,Zat,ZaP]
  rw[← e2,← foldl_rep its k (acc++its),← e,Zam,List.foldl_cons]
section
variable {X:Cx}{pins:List (Addr×Obj)}{σ:St}{H:Hp}{s:Shared}{l b:Addr}{xs ys zs:List V}
theorem Inv.Qyy{its its':List Value}{n:Nat}{f:Array Value->Array Value}{t':Nat}(I:Inv X pins σ H s)(hH:H l=some (.lst xs))
  (e:s.heap.get? l=some {cls:= .type "list",data:= .seq its.toArray n}) (hf:f its.toArray=its'.toArray) (hv:QF ys its') (hz:ys.length<=sizeLine):
  Inv X pins σ (upd H l (.lst ys)) {s with heap:=s.heap.update l (Obj.mapSeq f),toks:=t'}:=by
 have q:=PySem.IsL.update e f
 rw[hf]at q
 refine I.write (x:=l) (e:=l) (by rw[hH];exact trivial) (.inl rfl) (λb' u hb hu=>(Heap.get?_update_other s.heap (Obj.mapSeq f) (Ne.symm hb)).trans hu) ⟨_,q⟩ ?_
 exact⟨hz,its',_,hv,q⟩
theorem Inv.QyN{its:List Value}{t':Nat}(I:Inv X pins σ H s)(hv:QF ys its)(hz:ys.length<=sizeLine):
  Inv X pins σ (upd H s.heap.objs.size (.lst ys)) {s with heap:=s.heap.push {cls:= .type "list",data:= .seq its.toArray},toks:=t'}:=
 I.laid (λ_ _ q=>Zn _ q) (Zh _) ⟨hz,its,0,hv,ZN _ rfl⟩
theorem Inv.fresh(I:Inv X pins σ H s):H s.heap.objs.size=none:=I.hok.fresh (Zh _)
theorem Inv.QuA(I:Inv X pins σ H s)(hH:H l=some (.lst xs)):xs.length<=sizeLine/\∃(its:List Value) (n:Nat),QF xs its/\xs.length=its.length/\s.heap.get? l=some {cls:= .type "list",data:= .seq its.toArray n}:=by
 obtain⟨z,its,n,r,e⟩:=I.hok l _ hH
 exact⟨z,its,n,r,r.length,e⟩
theorem Qux{n:Nat}(h:n<=sizeLine):Builtin.List.listTooLong n=false:=by
 unfold Builtin.List.listTooLong
 exact decide_eq_false (by omega)
end
section
variable {X:Cx}
noncomputable def Qqe:V->List V->Hp->VK->Prop:=λx vs H Q=>∃l xs y,x= .ref l/\vs=[y]/\H l=some (.lst xs)/\xs.length<sizeLine/\Q .non (upd H l (.lst (xs++[y])))
theorem QmY:MtM X "list.append" Qqe:=by
 intro pins s σ H x vs v us Q I rx rv h
 obtain⟨l,xs,y,rfl,rfl,hH,hz,q⟩:=h
 cases rx
 obtain⟨u,rfl,ru⟩:=rv.one
 obtain⟨z,its,n,r,hl,e⟩:=I.QuA hH
 refine call_meets F.slot_list_append ⟨_,e,rfl⟩ F.entry_list_append (F.args_list_append_2 _ _) (PySem.list_append l its.toArray n u (by rw[Zw];omega)) ⟨e,?_⟩
 refine⟨.non,_,I.Qyy (its':=its++[u]) hH e (by simp) (r.append (.cons ru .nil)) ?_,rfl,q⟩
 rw[Zr,ZaZ]
 omega
noncomputable def Qtb:V->List V->Hp->VK->Prop:=λx vs H Q=>∃l xs,x= .ref l/\vs=[]/\H l=some (.lst xs)/\Q .non (upd H l (.lst []))
theorem Qt4:MtM X "list.clear" Qtb:=by
 intro pins s σ H x vs v us Q I rx rv h
 obtain⟨l,xs,rfl,rfl,hH,q⟩:=h
 cases rx
 have hus:=rv.zero
 subst hus
 obtain⟨z,its,n,r,hl,e⟩:=I.QuA hH
 refine call_meets F.slot_list_clear ⟨_,e,rfl⟩ F.entry_list_clear (F.args_list_clear_1 _) (AutoSeq1.list_clear_list_0 l its.toArray n (by rw[Zw];omega)) ⟨e,?_⟩
 exact⟨.non,_,I.Qyy (its':=[]) (ys:=[]) hH e rfl .nil (Zac _),rfl,q⟩
theorem len_rep{α:Type}(xs:List α)(k:Nat):(List.replicate k xs).flatten.length=k*xs.length:=by
 induction k with
 | zero=>simp
 | succ k ih=>rw[Zam,Zat,Zr,ih,Zcc,Nat.add_comm]
end
section
variable {prog:Program}{w:World}{A:Around}{E:Value->Shared->Prop}{s:Shared}
end
section
variable {X:Cx}
end
end L2
namespace Att
open PySem PySem.W PySem.Calls PyProof.Rows
theorem Qlf{P:Params}{h:Heap}:∀(ns:List Int) (vs:List Value),WellAll P h vs (ns.map WData.int)->IntsAre vs ns:=by
 intro ns
 induction ns with
 | nil=>
  intro vs w
  rw[List.map_nil]at w
  cases w
  exact .nil
 | cons n ns ih=>
  intro vs w
  rw[ZJ]at w
  cases w with
  | cons a b=>
   cases a
   exact .cons _ _ (ih _ b)
theorem QmJ{l:OpenLaw}{n:Nat}(hn:l.most=some n){P:Params}{h:Heap}{args:List WData}{vals:List Value}
  (hpre:l.row.toRowW.claim.pre args=true) (hwl:WellAll P h vals args):
  ∃a vs ns,vals=[Value.ref a]/\args=[WData.list (ns.map WData.int)]/\h.get? a=some {cls:= .type "list",data:= .seq vs.toArray}/\IntsAre vs ns/\ns.length<=n:=by
 have hsh:WShape.hasAll [] args [.list .int]=true:=(pre_splitW hpre).1
 have hc:l.pre.holds [] {args:=args}=true:=(pre_splitW hpre).2
 obtain⟨d,r,rfl,h1,h2⟩:=hasAllW_cons hsh
 obtain rfl:=hasAllW_nil h2
 obtain⟨xs,rfl,h3⟩:=hasW_list h1
 obtain⟨ns,rfl⟩:=items_int h3
 have hlen:ns.length<=n:=by
  unfold OpenLaw.pre at hc
  have h4:(WTm.not (.lt (.lit (.int (n:Int))) (.len (.arg 0)))).holds [] {args:=[.list (ns.map .int)]}=true:=by
   have h4:=(holds_andW hc).1
   rw[hn]at h4
   exact h4
  have h5:=condW_of h4 (w_not (w_lt w_lit (w_len_list (w_arg rfl))))
  rw[Zs]at h5
  refine Nat.le_of_not_lt λq=>?_
  have q':(n:Int)<((ns.length:Nat):Int):=by omega
  first
   | (rw[decide_eq_true q']at h5;exact absurd h5 (by decide))
   | (simp at h5;omega)
 cases hwl with
 | cons w1 w2=>
  cases w2
  cases w1 with
  | list ho hall=>exact⟨_,_,ns,rfl,rfl,ho,Qlf ns _ hall,hlen⟩
theorem QmD(l:OpenLaw)(args:List WData):l.row.toRowW.claim.post args (.bool true) args=true:=
 postW_of (r:=l.row.toRowW) (X:=(true == true))
  (show WShape.has [] (.bool true) .bool=true by first | rfl | decide | simp[WShape.has,WShape.arms,WShape.armsAll])
  (show(WTm.eq .res (.lit (.bool true))).value [] {args:=args,res:=some (.bool true),after:=args}=some (.bool (true == true))from w_eq_bool (w_res rfl) w_lit) rfl
theorem QpV{l:OpenLaw}{n:Nat}{q:Program}{loose:List Str}{XP:(Str->Option Value)->Heap->Prop}{YP:World->Heap->Prop}{d:DefRec}
  (hn:l.most=some n) (hdf:d.params.defaults=[])
  (call:∀(w:World) (s₀ s₁:Shared) (mg mb:Str->Option Value) (fa:Addr) (o:Obj) (pm cd doc:Value) (a:Addr) (vs:List Value) (ns:List Int),
   Ground q loose [] XP w s₀ mg mb s₁.heap->YP w s₁.heap→
   s₁.heap.get? fa=some o->o.data= .func (docDef d.name d.params d.body d.scope pm cd doc)->s₁.heap.CodeRec cd d.name->mg d.name=some (.ref fa)→
   s₁.heap.get? a=some {cls:= .type "list",data:= .seq vs.toArray}->IntsAre vs ns->ns.length<=n->s₁.gens= #[]→
   codeAny (model l.prog w) callerA (.call (.ref fa) ⟨[.ref a],[]⟩) (λr s'=>r= .ok (.ret (.bool true))/\OldK s₁.heap s'.heap/\s'.os=s₁.os/\AllBare s'.gens) s₁):
  WalkO q loose XP YP l.row.toRowW d [] (λf vs=>PySem.call f vs):=by
 intro w s₀ s₁ mg mb G Y fa o pm cd doc dV kV ho hd hcd hD hmg hg args vals as hpre hlay hrd hwl hlo
 obtain rfl:dV= .none:=Dflts.none hD hdf
 obtain rfl:kV= .none:=Dflts.noKw hD
 obtain⟨a,vs,ns,rfl,rfl,hobj,hints,hlen⟩:=QmJ hn hpre hwl
 refine enter_call (codeAny_mono (call w s₀ s₁ mg mb fa o pm cd doc a vs ns G Y ho (fd_plain hd) hcd hmg hobj hints hlen hg) λr s' hq=>?_)
 obtain⟨rfl,h2,h3,h4⟩:=hq
 exact⟨.inl ⟨.bool true,.bool true,[],rfl,λ_=>rfl,.bool true,QmD l _,λ_=>⟨List.Pairwise.nil,λ_ hm=>(nomatch hm)⟩⟩,h2,h3,h4⟩
section
variable {prog:Program}{w:World}{A:Around}{E:Value->Shared->Prop}{s:Shared}{K:Frag}
noncomputable def ledger(h:Heap)(L d:Addr):List (Addr×Obj):=(List.range h.objs.size).filterMap λa=>if a=L∨a=d then none else(h.get? a).map λo=>(a,o)
end
end Att
namespace L2
open PySem PySem.Spec PyProof.Rows
theorem Qe6:∀{vs:List Value}{ns:List Int},IntsAre vs ns->QF (ns.map V.int) vs
 | _,_,.nil=> .nil
 | _,_,.cons n t h=> .cons ⟨t,rfl⟩ (Qe6 h)
def QvS(H:Hp):Prop:=∀b,H b=none∨∃o xs,H b=some (.frz o (.lst xs))
theorem Qpi{P:Program}{w:World}{K:PySem.W.Frag}{mg mb:Str->Option Value}{CX:CXT}{k:Nat}{fa a:Addr}{fd:FuncData}{x:Str}{sp:Sp}{s₁:Shared}{vs:List Value}{ns:List Int}
  (KX:K.In s₁.heap) (hns:s₁.heap.Ns mainGlobals mg) (hb:s₁.heap.Ns builtinsNs mb) (hbb:∀x:Str,x≠ "__name__" ->mb x=bootBuiltins x) (hlim:s₁.heap.NoLimit) (hg:s₁.gens= #[])
  (ha:s₁.heap.get? a=some {cls:= .type "list",data:= .seq vs.toArray}) (hi:IntsAre vs ns) (hl:ns.length<=sizeLine) (hr:QaT k callerA)
  (F:∀base:Heap,K.In base->base.Ns mainGlobals mg->Qb2 P w K mg base CX k fa fd [x] sp) (hbind:∀(s:Shared) (u:Value),BindsTo s fd ⟨[u],[]⟩ [(x,u)])
  (hsp:∀H:Hp,QvS H->SqL K H a (ns.map V.int)->sp [.ref a] H (λv _=>v= .bl true) λ_ _ _=>False)
  (hCX:∀H e s',CX [] H s₁ (λ_ _ _=>False) e s'->False):
  codeAny (model P w) callerA (.call (.ref fa) ⟨[.ref a],[]⟩) (λr s'=>r= .ok (.ret (.bool true))/\OldK s₁.heap s'.heap/\s'.os=s₁.os/\AllBare s'.gens) s₁:=by
 have rv:=Qe6 hi
 have lenV:=hi.length
 have core:∀H:Hp,QvS H->SqL K H a (ns.map V.int)->HOk P w H s₁.heap->(∀b,H b≠none->b=a)->(H a≠none->K.lookup a=none)→
   codeAny (model P w) callerA (.call (.ref fa) ⟨[.ref a],[]⟩) (λr s'=>r= .ok (.ret (.bool true))/\OldK s₁.heap s'.heap/\s'.os=s₁.os/\AllBare s'.gens) s₁:=by
  intro H hO hS hok hA hK
  have base_of:∀{b:Addr}{o:Obj},s₁.heap.get? b=some o->H b=none->(QhC s₁.heap H).get? b=some o:=λe n=>QvH e n
  have noA:∀{b:Addr}{o:Obj}{es:Array DictEntry}{ep:Nat},s₁.heap.get? b=some o->o.data= .dict es ep->H b=none:=λ{b o es ep} e d=>by
   cases q:H b with
   | none=>rfl
   | some u=>
    have e':b=a:=hA b (by rw[q];simp)
    subst e'
    rw[ha]at e;cases e
    have d':Data.seq vs.toArray _=Data.dict es ep:=d
    cases d'
  have nsK:∀{b:Addr}{m:Str->Option Value},s₁.heap.Ns b m->(QhC s₁.heap H).Ns b m:=λ{b m} ⟨o,es,ep,e,d,r⟩=>⟨o,es,ep,base_of e (noA e d),d,r⟩
  have hKb:K.In (QhC s₁.heap H):=λb o e=>base_of (KX b o e) (by
   cases q:H b with
   | none=>rfl
   | some u=>
    have e':b=a:=hA b (by rw[q];simp)
    subst e'
    rw[hK (by rw[q];simp)]at e;cases e)
  have hM:Mod K mg (QhC s₁.heap H):=⟨hKb,nsK hns,⟨mb,nsK hb,hbb⟩,let ⟨mc,h1,h2⟩:=hlim;⟨mc,nsK h1,h2⟩⟩
  have e0:Qf6 P w K mg (QhC s₁.heap H) callerA [] s₁ H:=⟨rfl,hM,λb o e=>QwX e,Nat.le_of_eq (QsS _ _),trivial,λb hb=>absurd (show b∈([]:List Addr)from hb) (by simp),hok,.of_eq hg⟩
  refine codeAny_mono ((F _ hKb (nsK hns)).run callerA [] s₁ H ⟨[.ref a],[]⟩ [.ref a] [.ref a] _ _ hr e0 (hbind s₁ (.ref a)) (.cons rfl .nil) (hsp H hO hS)) λr s' h=>?_
  cases r with
  | error e=>exact(hCX H e s' h).elim
  | ok fl=>
   cases fl with
   | next=>exact False.elim h
   | brk=>exact False.elim h
   | cont=>exact False.elim h
   | ret u=>
    obtain⟨v,H',os,bare,un,hok',r',q⟩:=h
    have q':v= .bl true:=q
    subst q'
    obtain rfl:u=Value.bool true:=r'
    refine⟨rfl,OldK.of_keep λb o e=>?_,os,bare⟩
    cases q:H b with
    | none=>exact un.keep b o e q (by intro z;exact absurd (show b∈([]:List Addr)from z) (by simp)) (by simp)
    | some u=>
     rcases hO b with z | ⟨ob,xs,z⟩
     ·rw[q]at z;cases z
     ·have z2:=un.frzs b ob _ z
      obtain⟨e1,_⟩:=hok b _ z
      obtain⟨e2,_⟩:=hok' b _ z2
      rw[e]at e1;cases e1
      exact e2
 cases hk:K.lookup a with
 | some o=>
  have e:=KX a o hk
  rw[ha]at e
  cases e
  refine core (λ_=>none) (λ_=> .inl rfl) (.inr ⟨_,vs.toArray,_,hk,rfl,rfl,rfl,by rw[Zw,lenV];exact hl,by simpa using rv⟩) (λb u z=>by have z':(none:Option HO)=some u:=z;cases z') (λb z=>absurd rfl z) λz=>absurd rfl z
 | none=>
  refine core (λb=>if b=a then some (.frz {cls:= .type "list",data:= .seq vs.toArray} (.lst (ns.map V.int)))else none) (λb=>?_) (.inl (.inr ⟨{cls:= .type "list",data:= .seq vs.toArray},if_pos rfl⟩)) (λb u z=>?_) (λb z=>?_) λ_=>hk
  ·by_cases hb:b=a
   ·exact .inr ⟨_,_,if_pos hb⟩
   ·exact .inl (if_neg hb)
  ·by_cases hb:b=a
   ·have z':=(if_pos hb).symm.trans z
    cases z'
    subst hb
    exact⟨ha,by rw[Zs];exact hl,vs,_,rv,ha⟩
   ·have z':=(if_neg hb).symm.trans z
    cases z'
  ·by_cases hb:b=a
   ·exact hb
   ·exact absurd (if_neg hb) z
end L2
namespace L2
open PySem PySem.Spec PyProof.Rows
noncomputable abbrev KOf{K:PySem.W.Frag}{h:Heap}(_:K.In h):PySem.W.Frag:=K
theorem QBP{l:PySem.W.OpenLaw}{n k:Nat}{q:Program}{loose:List Str}{XP:(Str->Option Value)->Heap->Prop}{YP:World->Heap->Prop}{d:DefRec}{K:Params->PySem.W.Frag}{CX:World->CXT}{sp:World->Sp}{x:Str}
  (hn:l.most=some n) (hn2:n<=sizeLine) (hdf:d.params.defaults=[]) (hr:QaT k callerA)
  (hY:∀(w:World) (h:Heap),YP w h->(K w.params).In h)
  (F:∀(w:World) (mg:Str->Option Value) (fa:Addr) (h:Heap),(K w.params).In h->h.Ns mainGlobals mg->mg d.name=some (.ref fa)→
   ∃fd:FuncData,(∀(s:Shared) (u:Value),BindsTo s fd ⟨[u],[]⟩ [(x,u)])∧
    ∀base:Heap,(K w.params).In base->base.Ns mainGlobals mg->Qb2 l.prog w (K w.params) mg base (CX w) k fa fd [x] (sp w))
  (hsp:∀(w:World) (H:Hp) (a:Addr) (ns:List Int),ns.length<=n->QvS H->SqL (K w.params) H a (ns.map V.int)->sp w [.ref a] H (λv _=>v= .bl true) λ_ _ _=>False)
  (hCX:∀(w:World) (H:Hp) (s:Shared) (e:Value) (s':Shared),CX w [] H s (λ_ _ _=>False) e s'->False):
  PySem.W.WalkO q loose XP YP l.row.toRowW d [] (λf vs=>PySem.call f vs):=by
 refine Att.QpV hn hdf λw s₀ s₁ mg mb fa o pm cd doc a vs ns G Y ho hd hcd hmg hobj hints hlen hg=>?_
 have KX:=hY w _ Y
 obtain⟨fd,hb,hF⟩:=F w mg fa _ KX G.T.g hmg
 exact Qpi KX G.T.g G.T.b G.T.builtins G.T.nolimit hg hobj hints (Zi hlen hn2) hr hF hb (λH hO hS=>hsp w H a ns hlen hO hS) λH e s'=>hCX w H s₁ e s'
end L2
namespace L2
open PySem PySem.Spec PyProof.Rows
noncomputable def Qfx(s:Stmt):Arguments:=match s with
 | .FunctionDef _ a _ _ _ _ _ _ _ _=>a
 | _=>{posonlyargs:=[],args:=[],vararg:=none,kwonlyargs:=[],kw_defaults:=[],kwarg:=none,defaults:=[]}
noncomputable def QcG(s:Stmt):List Stmt:=match s with
 | .FunctionDef _ _ b _ _ _ _ _ _ _=>b
 | _=>[]
noncomputable def QD(s:Stmt):Scope:=match s with
 | .FunctionDef _ _ _ _ _ _ sc _ _ _=>sc
 | _=>{kind:= .function,names:=[],isGenerator:=false,isCoroutine:=false}
noncomputable abbrev CX0:CXT:=λ_ _ _ _ _ _=>False
noncomputable abbrev E0:XK:=λ_ _ _=>False
theorem Qv3{X:Cx}:Qk2 CX0 X E0:=λ_ _ _ _ _ _ _ h=>h.elim
structure Fun (K:PySem.W.Frag) (x qual:Str) (st:Stmt) (f:Addr) (fd:FuncData):Prop where
 ex:∃(oc:Value) (od:Option Addr) (kV doc pm:Value) (an:Option Addr) (cdv ct:Value) (osl:Array (Option Value)),
  fd=PySem.W.fnOf x qual (Qfx st) (QcG st) (QD st) .none kV doc pm an cdv ct/\K.lookup f=some ⟨oc,od,.func fd,osl⟩/\PySem.W.codeIn K cdv qual=true
 kp:PySem.W.keepIn K (.ref f)=true
section
variable {P:Program}{w:World}{K:PySem.W.Frag}{mg:Str->Option Value}{base:Heap}
theorem Fun.ok{x qual:Str}{st:Stmt}{f:Addr}{fd:FuncData}{N ps:List Str}{k:Nat}{sp:Sp}(F:Fun K x qual st f fd)(S:QdJ N ps (QD st))(len:∀vs H Q E,sp vs H Q E->vs.length=ps.length)
  (hbody:∀(cdv:Value) (A:Around) (outer:List Env) (s:Shared) (H:Hp) (vs:List V) (Q:VK) (E:XK),QaT k (A.deeper (envOfC qual (QD st) s.heap.objs.size f cdv))->sp vs H Q E→
   ∃t,PSs (QiK CX0 P w K mg base N qual (QD st) f cdv A outer s H E).nox (QcG st) t/\t {nx:=λ_ H'=>Q .non H',rt:=Q} (start N vs) H):Qb2 P w K mg base CX0 (k+1) f fd ps sp:=by
 obtain⟨oc,od,kV,doc,pm,an,cdv,ct,osl,rfl,lk,hcd⟩:=F.ex
 refine QAv lk hcd S len λA outer s H vs Q E hr hsp=>?_
 obtain⟨t,h,q⟩:=hbody cdv A outer s H vs Q E hr hsp
 exact⟨t,h.nox,q⟩
theorem Fun.binds{x qual:Str}{st:Stmt}{f:Addr}{fd:FuncData}{ps:List Str}(F:Fun K x qual st f fd)
  (h:∀(kV doc pm:Value) (an:Option Addr) (cdv ct:Value) (us:List Value),us.length=ps.length->bindArgs (PySem.W.fnOf x qual (Qfx st) (QcG st) (QD st) .none kV doc pm an cdv ct) ⟨us,[]⟩=pure (ps.zip us)):Binds K fd ps []:=by
 obtain⟨oc,od,kV,doc,pm,an,cdv,ct,osl,rfl,lk,hcd⟩:=F.ex
 exact .all (h kV doc pm an cdv ct)
theorem Qzl{x qual:Str}{st:Stmt}{f:Addr}{oc:Value}{od an:Option Addr}{osl:Array (Option Value)}{kV doc pm cdv ct:Value}(l:K.lookup f=some ⟨oc,od,.func (PySem.W.fnOf x qual (Qfx st) (QcG st) (QD st) .none kV doc pm an cdv ct),osl⟩)
  (c:PySem.W.codeIn K cdv qual=true) (k:PySem.W.keepIn K (.ref f)=true):Fun K x qual st f (PySem.W.fnOf x qual (Qfx st) (QcG st) (QD st) .none kV doc pm an cdv ct):=⟨⟨oc,od,kV,doc,pm,an,cdv,ct,osl,rfl,l,c⟩,k⟩
end
section
variable {X:Cx}
theorem pv(i:Nat){x:Str}{pos:Pos}(hN:X.N[i]? =some x:=by rfl)(hv:Vis X.env.scope x:=by first | exact Or.inl rfl | exact Or.inr (Or.inl rfl) | exact Or.inr (Or.inr rfl))(hd:(x == ("__debug__" :Str))=false:=by decide)
  (hcd:(x == ("__classdict__" :Str))=false:=by decide):PE X (.Name x pos) (Qf1 i):=QsU hN hv hd hcd
end
theorem Quj{A B:Prop}(h:B):if false=true then A else B:=by
 rw[if_neg Zan]
 exact h
theorem Qvj{A B:Prop}(h:A):if true=true then A else B:=by
 rw[if_pos rfl]
 exact h
def QU(H H':Hp):Prop:=∀b o,H b=some o->H' b=some o
theorem QU.refl(H:Hp):QU H H:=λ_ _ h=>h
theorem QU.trans{H H1 H2:Hp}(a:QU H H1)(b:QU H1 H2):QU H H2:=λc o h=>b c o (a c o h)
theorem QU.free{H H':Hp}(e:QU H H'){l:Addr}(h:H' l=Option.none):H l=Option.none:=by
 cases q:H l with
 | none=>rfl
 | some o=>
  rw[e l o q]at h
  cases h
theorem QU.seq{K:PySem.W.Frag}{H H':Hp}{a:Addr}{xs:List V}(e:QU H H')(h:SqL K H a xs):SqL K H' a xs:=by
 rcases h with(h | ⟨o,h⟩) | h
 ·exact .inl (.inl (e _ _ h))
 ·exact .inl (.inr ⟨o,e _ _ h⟩)
 ·exact .inr h
end L2
namespace L2
open PySem PySem.Spec PyProof.Rows
theorem QlS(env:Env)(body:Str×NameKind->List (Str×Addr)->Sem (ForInStep (List (Str×Addr))))
  (hb:∀n k cs,body (n,k) cs=if(k == NameKind.free)=true then(do let c ← cellOf env n;pure (ForInStep.yield ((n,c)::cs)))else pure (ForInStep.yield cs)):
  ∀(names:List (Str×NameKind)) (acc:List (Str×Addr)),(∀y∈names,y.2= .free->∃c,env.cells.lookup y.1=some c)->(∀x c,acc.lookup x=some c->env.cells.lookup x=some c)→
   ∃cl,forIn names acc body=(pure cl:Sem _)/\(∀x c,cl.lookup x=some c->env.cells.lookup x=some c)/\(∀x,acc.lookup x≠none->cl.lookup x≠none)/\∀y∈names,y.2= .free->cl.lookup y.1≠none
 | [],acc,_,ha=>⟨acc,rfl,ha,λ_ h=>h,λy hy=>by simp at hy⟩
 | (n,k)::r,acc,hn,ha=>by
  rw[List.forIn_cons,hb]
  have hr:∀y∈r,y.2= .free->∃c,env.cells.lookup y.1=some c:=λy hy=>hn y (Ze _ hy)
  by_cases hk:k= .free
  ·subst hk
   obtain⟨c,hc⟩:=hn (n,.free) Zp rfl
   have hce:cellOf env n=pure c:=by unfold cellOf;rw[show env.cells.lookup n=some c from hc]
   rw[if_pos (by rfl),hce]
   obtain⟨cl,e,h1,h2,h3⟩:=QlS env body hb r ((n,c)::acc) hr (λx c' e=>by
    rw[Zx]at e
    cases q:x == n with
    | true=>rw[q]at e;cases e;rw[beq_iff_eq]at q;rw[q];exact hc
    | false=>rw[q]at e;exact ha x c' e)
   have hcons:∀x,((n,c)::acc).lookup x≠none->cl.lookup x≠none:=h2
   refine⟨cl,by simpa using e,h1,λx hx=>hcons x ?_,λy hy hf=>?_⟩
   ·rw[Zx];cases x == n with
    | true=>simp
    | false=>exact hx
   ·rcases Zq.mp hy with rfl | hy
    ·exact hcons _ (by simp[Zx])
    ·exact h3 y hy hf
  ·rw[if_neg (by simpa using hk)]
   obtain⟨cl,e,h1,h2,h3⟩:=QlS env body hb r acc hr ha
   refine⟨cl,by simpa using e,h1,h2,λy hy hf=>?_⟩
   rcases Zq.mp hy with rfl | hy
   ·exact absurd hf hk
   ·exact h3 y hy hf
theorem Qwq{scope:Scope}{env:Env}(h:∀y∈scope.names,y.2= .free->∃c,env.cells.lookup y.1=some c):
  ∃cl,closureFor scope env=pure cl/\(∀x c,cl.lookup x=some c->env.cells.lookup x=some c)/\∀y∈scope.names,y.2= .free->∃c,cl.lookup y.1=some c:=by
 unfold closureFor
 obtain⟨cl,e,h1,_,h3⟩:=QlS env (λx cs=>match x with | (name,kind)=>if(kind == NameKind.free)=true then(do let c ← cellOf env name;pure (ForInStep.yield ((name,c)::cs)))else pure (ForInStep.yield cs)) (λ_ _ _=>rfl) scope.names [] h (λx c e=>by simp at e)
 refine⟨cl,?_,h1,λy hy hf=>Option.ne_none_iff_exists'.mp (h3 y hy hf)⟩
 show(forIn scope.names [] _ >>= λr=>pure r)=_
 rw[e];rfl
noncomputable def cxc(X:Cx)(N':List Str)(scope:Scope)(cl:List (Str×Addr))(C:Addr)(fp:List Addr)(s3:Shared)(H3:Hp):Cx:=
 {X with N:=N',s₀:=s3,H₀:=H3,env:=compEnvC scope cl C X.env,outer:=X.stack,ex:=fp,fn:=λx=>decide (scope.names.lookup x=some .cell),pn:=[],xe:=λ_ _=>False}
def PTs(X:Cx)(ifs:List Expr)(t:TT):Prop:=
 ∀(pins:List (Addr×Obj)) (s:Shared) (σ:St) (H:Hp) (Q:Bool->Hp->Prop),Inv X pins σ H s->t σ H Q→
  wpAny (model X.prog X.w) X.A (forIn ifs true λc r=>if r=true then do let ok ← isTrue c X.env (eval c X.env);pure (ForInStep.yield ok)else pure (ForInStep.yield r)) (TP X pins σ Q) X.xe s
noncomputable def QBi:TT:=λ_ H Q=>Q true H
theorem Qxn{X:Cx}:PTs X [] QBi:=λ_ _ _ H _ I h=>wpAny_tests_nil ⟨H,I,h⟩
theorem QxT{X:Cx}{c:Expr}{t:TT}(h:PT X c t):PTs X [c] t:=λpins s σ H Q I q=>wpAny_tests_one (h pins s σ H Q I q)
def Qk6(X:Cx)(N':List Str)(scope:Scope)(σ σ':St):Prop:=
 σ'.length=N'.length/\∀(j:Nat) (x:Str) (v:V),N'[j]? =some x->σ'[j]? =some (some v)->scope.names.lookup x=some .free/\∃i:Nat,X.N[i]? =some x/\σ[i]? =some (some v)/\(X.env.kindOf x=some .cell∨X.env.kindOf x=some .free)
noncomputable def Qnl(wi:TI)(cap:St->St->Prop)(g:TG)(tc:TT)(te:TE):TE:=λσ H Q=>wi σ H λJ H1=>∃σc,cap σ σc/\∀D,H1 D=none->∃W:Nat->Nat->List V->Hp->Prop,
 (∃m,W 0 m [] (upd H1 D (.lst [])))/\∀i m acc H2,W i m acc H2->(J.stop i H2/\Q (.ref D) H2)∨
  (J.go i H2/\∀x H3,J.yld i H2 x H3->g x σc H3 λσ2 H4=>(∀(j:Nat) v,σc[j]? =some (some v)->σ2[j]? =some (some v))/\tc σ2 H4 λb H5=>if b=true then
   te σ2 H5 λy H6=>H6 D=some (.lst acc)/\acc.length<sizeLine/\∃m',m'<m/\W (i+1) m' (acc++[y]) (upd H6 D (.lst (acc++[y])))
   else ∃m',m'<m/\W (i+1) m' acc H5)
theorem Qdl{env:Env}:∀{names:List (Str×NameKind)}{x:Str},names.lookup x=some .free→
  (names.map λ(n,k)=>if(k == NameKind.free && env.scope.kind == .function && env.kindOf n == some .cell)then(n,NameKind.cell)else(n,k)).lookup x=some .cell∨
  (names.map λ(n,k)=>if(k == NameKind.free && env.scope.kind == .function && env.kindOf n == some .cell)then(n,NameKind.cell)else(n,k)).lookup x=some .free
 | [],_,h=>by simp at h
 | (n,k)::r,x,h=>by
  have ih:= @Qdl env r x
  rw[ZJ]
  cases hx:x == n with
  | true=>
   simp only[Zx,hx]at h
   cases h
   dsimp only
   split
   ·left;simp[Zx,hx]
   ·right;simp[Zx,hx]
  | false=>
   simp only[Zx,hx]at h
   dsimp only
   split
   ·simp only[Zx,hx];exact ih h
   ·simp only[Zx,hx];exact ih h
theorem Qe9{env:Env}:∀{names:List (Str×NameKind)}{x:Str},
  ((names.map λ(n,k)=>if(k == NameKind.free && env.scope.kind == .function && env.kindOf n == some .cell)then(n,NameKind.cell)else(n,k)).lookup x=some .cell∨
  (names.map λ(n,k)=>if(k == NameKind.free && env.scope.kind == .function && env.kindOf n == some .cell)then(n,NameKind.cell)else(n,k)).lookup x=some .free)→
  ∃k,(x,k)∈names/\(k= .free∨k= .cell)
 | [],_,h=>by simp at h
 | (n,k)::r,x,h=>by
  have ih:= @Qe9 env r x
  rw[ZJ]at h
  cases hx:x == n with
  | true=>
   have hn:x=n:=by simpa using hx
   subst hn
   dsimp only at h
   split at h
   ·rename_i hc
    simp only[Zj]at hc
    refine⟨k,Zp,.inl (by simpa using hc.1.1)⟩
   ·simp only[Zx,hx]at h
    refine⟨k,Zp,?_⟩
    rcases h with h | h
    ·exact .inr (Option.some.inj h)
    ·exact .inl (Option.some.inj h)
  | false=>
   dsimp only at h
   have:∃k,(x,k)∈r/\(k= .free∨k= .cell):=by
    apply ih
    split at h
    ·simpa only[Zx,hx]using h
    ·simpa only[Zx,hx]using h
   obtain⟨k',h1,h2⟩:=this
   exact⟨k',Ze _ h1,h2⟩
theorem Qg0:∀(names:List (Str×NameKind)) (n:Nat) (acc:List (Str×Addr)) (x:Str) (c:Addr),(cellsFrom n names acc).lookup x=some c->acc.lookup x=some c∨(n<=c/\(x,NameKind.cell)∈names)
 | [],_,_,_,_,h=> .inl h
 | (nm,k)::r,n,acc,x,c,h=>by
  unfold cellsFrom at h
  split at h
  ·rename_i hk
   have hk:k= .cell:=by simpa using hk
   rcases Qg0 r (n+1) ((nm,n)::acc) x c h with h | ⟨h1,h2⟩
   ·rw[Zx]at h
    cases q:x == nm with
    | true=>
     rw[q]at h
     cases h
     have:x=nm:=by simpa using q
     exact .inr ⟨Zh _,by rw[this,hk];exact Zp⟩
    | false=>rw[q]at h;exact .inl h
   ·exact .inr ⟨by omega,Ze _ h2⟩
  ·rcases Qg0 r n acc x c h with h | ⟨h1,h2⟩
   ·exact .inl h
   ·exact .inr ⟨h1,Ze _ h2⟩
theorem Qot:∀(names:List (Str×NameKind)) (n:Nat) (acc:List (Str×Addr)) (x:Str) (c:Addr),(x,NameKind.cell)∈names->(cellsFrom n names acc).lookup x=some c->n<=c
 | (nm,k)::r,n,acc,x,c,hm,h=>by
  unfold cellsFrom at h
  split at h
  ·by_cases hr:(x,NameKind.cell)∈r
   ·have:=Qot r (n+1) _ x c hr h
    omega
   ·have hx:x=nm:=by
     rcases Zq.mp hm with e | e
     ·exact(Prod.mk.inj e).1
     ·exact absurd e hr
    rcases Qg0 r (n+1) ((nm,n)::acc) x c h with h | ⟨h1,_⟩
    ·rw[Zx,show(x == nm)=true by simpa using hx]at h
     cases h
     exact Zh _
    ·omega
  ·rename_i hk
   rcases Zq.mp hm with e | e
   ·exact absurd (by rw[← (Prod.mk.inj e).2];rfl) hk
   ·exact Qot r n acc x c e h
theorem Qor:∀(names:List (Str×NameKind)) (n:Nat) (acc:List (Str×Addr)),(∀x y c,acc.lookup x=some c->acc.lookup y=some c->x=y)->(∀x c,acc.lookup x=some c->c<n)→
  ∀x y c,(cellsFrom n names acc).lookup x=some c->(cellsFrom n names acc).lookup y=some c->x=y
 | [],_,_,hi,_,x,y,c,h1,h2=>hi x y c h1 h2
 | (nm,k)::r,n,acc,hi,hb,x,y,c,h1,h2=>by
  unfold cellsFrom at h1 h2
  split at h1
  ·rename_i hk
   rw[if_pos hk]at h2
   refine Qor r (n+1) ((nm,n)::acc) (λx y c h1 h2=>?_) (λx c h=>?_) x y c h1 h2
   ·rw[Zx]at h1 h2
    cases qx:x == nm with
    | true=>
     rw[qx]at h1
     cases h1
     cases qy:y == nm with
     | true=>rw[show x=nm by simpa using qx,show y=nm by simpa using qy]
     | false=>rw[qy]at h2;exact absurd (hb y _ h2) (Zad _)
    | false=>
     rw[qx]at h1
     cases qy:y == nm with
     | true=>rw[qy]at h2;cases h2;exact absurd (hb x _ h1) (Zad _)
     | false=>rw[qy]at h2;exact hi x y c h1 h2
   ·rw[Zx]at h
    cases qx:x == nm with
    | true=>rw[qx]at h;cases h;exact ZaT _
    | false=>rw[qx]at h;exact Zbs (hb x c h)
  ·rename_i hk
   rw[if_neg hk]at h2
   exact Qor r n acc hi hb x y c h1 h2
theorem Qg8:∀(names:List (Str×NameKind)) (n:Nat) (acc:List (Str×Addr)) (x:Str),(∃c,acc.lookup x=some c)->∃c,(cellsFrom n names acc).lookup x=some c
 | [],_,_,_,h=>h
 | (nm,k)::r,n,acc,x,h=>by
  unfold cellsFrom
  split
  ·refine Qg8 r (n+1) _ x ?_
   rw[Zx]
   cases x == nm with
   | true=>exact⟨n,rfl⟩
   | false=>exact h
  ·exact Qg8 r n acc x h
theorem Qoh:∀(names:List (Str×NameKind)) (n:Nat) (acc:List (Str×Addr)) (x:Str),(x,NameKind.cell)∈names->∃c,(cellsFrom n names acc).lookup x=some c
 | (nm,k)::r,n,acc,x,hm=>by
  unfold cellsFrom
  rcases Zq.mp hm with e | e
  ·obtain⟨e1,e2⟩:=Prod.mk.inj e
   subst e1
   rw[← e2,if_pos (by rfl)]
   exact Qg8 r (n+1) _ x ⟨n,by simp[Zx]⟩
  ·split
   ·exact Qoh r (n+1) _ x e
   ·exact Qoh r n acc x e
theorem QlF(lo:Nat):∀(names:List (Str×NameKind)) (h:Heap) (acc:List (Str×Addr)),(∀x c,acc.lookup x=some c->lo<=c->h.IsCell c none)->lo<=h.objs.size→
  ∀x c,(cellsFrom h.objs.size names acc).lookup x=some c->lo<=c->(pushCells h names).IsCell c none
 | [],_,_,ha,_,x,c,e,hl=>ha x c e hl
 | (nm,k)::r,h,acc,ha,hlo,x,c,e,hl=>by
  unfold cellsFrom at e
  unfold pushCells
  split at e
  ·rename_i hk
   rw[if_pos hk]
   have hs:=Zbd h {cls:= .type "cell",data:= .cell none}
   refine QlF lo r (h.push {cls:= .type "cell",data:= .cell none}) ((nm,h.objs.size)::acc) (λx c e hl=>?_) (by rw[hs];omega) x c (by rw[hs];exact e) hl
   rw[Zx]at e
   cases q:x == nm with
   | true=>rw[q]at e;cases e;exact⟨_,ZN _ rfl,rfl⟩
   | false=>rw[q]at e;exact(ha x c e hl).keeps λb o e=>Zn _ e
  ·rename_i hk
   rw[if_neg hk]
   exact QlF lo r h acc ha hlo x c e hl
theorem QqZ{M:Model}{A:Around}{E:Value->Shared->Prop}{s:Shared}{scope:Scope}{globals builtins:Addr}{cl:List (Str×Addr)}{qual:Str}{env:Env}{Q:Env->Shared->Prop}
  (hQ:∀h':Heap,h'.Ns s.heap.objs.size (λ_=>none)->(∀b o,s.heap.get? b=some o->h'.get? b=some o)->((∀x c,cl.lookup x=some c->c<s.heap.objs.size)->∀x c,(cellsFrom (s.heap.objs.size+1) scope.names cl).lookup x=some c->s.heap.objs.size+1<=c->h'.IsCell c none)→
   Q (newEnv scope s.heap.objs.size globals (cellsFrom (s.heap.objs.size+1) scope.names cl) qual none .none (some env) builtins) {s with heap:=h'}):
  wpAny M A (newFunctionEnv scope globals cl [] qual none .none (some env) builtins) Q E s:=by
 simp only[newFunctionEnv,Option.isSome_some,if_true]
 refine wpAny_bind (wpAny_alloc ?_)
 refine wpAny_bind (wpAny_layCells _ (λname kind cells=>by cases hkc:kind == NameKind.cell<;>simp[hkc]) _ _ _ _ ?_)
 have hs:=Zbd s.heap {cls:= .type "dict",data:= .dict #[]}
 rw[show({s with heap:=s.heap.push {cls:= .type "dict",data:= .dict #[]}}:Shared).heap.objs.size=s.heap.objs.size+1 from hs]
 refine wpAny_bind (wpAny_pure (wpAny_pure ?_))
 refine hQ _ ((Heap.Ns.new s.heap (.type "dict")).keeps (pushCells_keeps _ _)) (λb o e=>pushCells_keeps _ _ b o (Zn _ e)) λhb x c e hl=>?_
 refine QlF (s.heap.objs.size+1) scope.names (s.heap.push {cls:= .type "dict",data:= .dict #[]}) cl (λx c e hl=>?_) (by rw[hs];exact Zh _) x c (by rw[hs];exact e) hl
 exact absurd (Zu (hb x c e) (Zi (Zbo _) hl)) (Zad _)
section
variable {X:Cx}{tg iter elt:Expr}{ifs:List Expr}{scope:Scope}{N':List Str}{pos:Pos}
structure Qfd (X:Cx) (N':List Str) (scope:Scope):Prop where
 kind:scope.kind= .function
 own:∀y∈scope.names,y.2= .cell->scope.names.lookup y.1=some .cell
 loc:∀y∈scope.names,y.2= .local ->scope.names.lookup y.1=some .local
 free:∀y∈scope.names,y.2= .free->X.env.kindOf y.1=some .cell∨X.env.kindOf y.1=some .free
theorem Qvp{pins:List (Addr×Obj)}{σ σc:St}{H3:Hp}{s3:Shared}{fp:List Addr}{cl:List (Str×Addr)}{h':Heap}{tk:Nat}(S:Qfd X N' scope)(I:Inv X pins σ H3 s3)
  (hf:∀b∈fp,QeQ X pins H3 b) (hfl:∀b∈fp,b<s3.heap.objs.size) (hc1:∀x c,cl.lookup x=some c->X.env.cells.lookup x=some c) (hc2:∀y∈scope.names,y.2= .free->∃c,cl.lookup y.1=some c) (cap:Qk6 X N' scope σ σc)
  (hns:h'.Ns s3.heap.objs.size (λ_=>none)) (hk:∀b o,s3.heap.get? b=some o->h'.get? b=some o)
  (hown:(∀x c,cl.lookup x=some c->c<s3.heap.objs.size)->∀x c,(cellsFrom (s3.heap.objs.size+1) scope.names cl).lookup x=some c->s3.heap.objs.size+1<=c->h'.IsCell c none):
  Inv (cxc X N' scope (cellsFrom (s3.heap.objs.size+1) scope.names cl) s3.heap.objs.size fp s3 H3) [] σc H3 {s3 with heap:=h',toks:=tk}:=by
 have nold:∀b,b∈fp->b≠s3.heap.objs.size:=λb hb e=>absurd (hfl b hb) (by rw[e];exact Zad _)
 have cellOld:∀x c,cl.lookup x=some c->∃v,s3.heap.IsCell c v:=λx c e=>I.cell x c (hc1 x c e)
 have cellLt:∀x c,cl.lookup x=some c->c<s3.heap.objs.size:=λx c e=>let ⟨v,q⟩:=cellOld x c e;q.lt
 have cellNew:∀c v,s3.heap.IsCell c v->h'.IsCell c v:=λc v ⟨o,ho,hd⟩=>⟨o,hk c o ho,hd⟩
 have hown:=hown cellLt
 have look:∀x c,(cellsFrom (s3.heap.objs.size+1) scope.names cl).lookup x=some c->cl.lookup x=some c∨(s3.heap.objs.size+1<=c/\(x,NameKind.cell)∈scope.names):=Qg0 scope.names _ cl
 refine⟨⟨I.ok.mod,S.kind,I.ok.glob,I.ok.blt,Zh _,Qor scope.names _ cl (λx y c h1 h2=>I.ok.inj x y c (hc1 x c h1) (hc1 y c h2)) (λx c e=>Zbs (cellLt x c e)),λx hx=>?_,λx c e1 e2=>?_,I.ok.hd,I.ok.frames,.inl rfl,λb hb=>⟨nold b hb,λx c e=>?_⟩,
  I.bs,Zi I.ok.bsz I.sz,λb o e hb=>?_,λb hb hs=>?_,I.stack,I.Qqs⟩,rfl,I.bare,Un.kept hk,⟨_,hns,λj x v h1 h2 h3=>?_⟩,λx c e=>?_,I.hok.fresh (Zh _),λx c e=>?_,λp hp=>absurd (show p∈([]:List (Addr×Obj))from hp) (by simp),I.hok.kept hk,cap.1⟩
 ·obtain⟨k,hm,hk'⟩:=Qe9 hx
  rcases hk' with rfl | rfl
  ·exact Qg8 scope.names _ cl x (hc2 _ hm rfl)
  ·exact Qoh scope.names _ cl x hm
 ·have e1:decide (scope.names.lookup x=some .cell)=true:=e1
  have:=Qot scope.names _ cl x c (Zal (of_decide_eq_true e1)) e2
  exact Zi (Zbo _) this
 ·rcases look x c e with e | ⟨e,_⟩
  ·exact(hf b hb).2.2.2.2.1 x c (hc1 x c e)
  ·intro z
   rw[z]at e
   exact absurd (Zu (hfl b hb) (Zi (Zbo _) e)) (Zad _)
 ·rcases(hf b hb).2.2.2.1 with z | z
  ·exact I.ok.noex b o e z
  ·exact absurd (Zu (ZA e) (Zi I.ok.bsz z)) (Zad _)
 ·rcases Zq.mp (I.Qkq b hs)with e | z
  ·exact(hf b hb).2.1 e
  ·exact(hf b hb).2.2.1 z
 ·obtain⟨hl,i,e1,e2,e3⟩:=cap.2 j x v h1 h2
  obtain⟨m,hn,look'⟩:=I.loc
  obtain⟨u,r,l⟩:=look' i x v e1 e2 (e3.elim (λz=> .inr (.inl z)) λz=> .inr (.inr z))
  refine⟨u,r,.inr ⟨Qdl hl,?_⟩⟩
  rcases l with⟨k,_⟩ | ⟨_,c,ec,hcell⟩
  ·rcases e3 with z | z<;>(rw[k]at z;cases z)
  ·obtain⟨c',ec'⟩:=Qg8 scope.names (s3.heap.objs.size+1) cl x (hc2 (x,.free) (Zal hl) rfl)
   rcases look x c' ec' with q | ⟨_,q⟩
   ·have:=hc1 x c' q
    rw[ec]at this;cases this
    exact⟨c,ec',cellNew c _ hcell⟩
   ·have:=S.own _ q rfl
    rw[hl]at this
    cases this
 ·rcases look x c e with q | ⟨q,_⟩
  ·obtain⟨v,q⟩:=cellOld x c q
   exact⟨v,cellNew c v q⟩
  ·exact⟨none,hown x c e q⟩
 ·rcases look x c e with q | ⟨q,_⟩
  ·exact I.freeC x c (hc1 x c q)
  ·exact I.hok.fresh (by omega)
theorem QsN{prog:Program}{w:World}{A:Around}{env:Env}{it acc:Value}{R:Result->Shared->Prop}{s0:Shared}(J:Nat->Shared->Prop)
  (turn:∀n s,J n s->wpAny (model prog w) A (pyNext it) (λr s1=>match r with
   | none=>R (.ok .next) s1
   | some v=>wpAny (model prog w) A (letOwnedTupleGo tg it v) (λ_ s2=>wpAny (model prog w) A (assign tg env v) (λ_ s3=>
     wpAny (model prog w) A (forIn ifs true λc r=>if r=true then do let ok ← isTrue c env (eval c env);pure (ForInStep.yield ok)else pure (ForInStep.yield r)) (λok s4=>
      if ok=true then wpAny (model prog w) A (eval elt env) (λx s5=>wpAny (model prog w) A (call (.builtin "list.append") [acc,x]) (λ_ s6=>∃m,m<n/\J m s6) (λ_ _=>False) s5) (λ_ _=>False) s4
      else ∃m,m<n/\J m s4) (λ_ _=>False) s3) (λ_ _=>False) s2) (λ_ _=>False) s1) (λ_ _=>False) s)
  (n:Nat) (h:J n s0):codeAny (model prog w) A (.compLoop (.ListComp elt [⟨tg,iter,ifs,0⟩] scope pos) 0 it acc env) R s0:=by
 have up:∀{α:Type}{t:Sem α}{Q:α->Shared->Prop}{E:Value->Shared->Prop}{s:Shared},wpAny (model prog w) A t Q (λ_ _=>False) s->wpAny (model prog w) A t Q E s:=λh=>wpAny_mono h (λ_ _ q=>q) λ_ _ f=>f.elim
 refine codeAny_loop (by rfl) J (λk sk hk=>?_) n h
 show wpAny (model prog w) A ((compTurn (.ListComp elt [⟨tg,iter,ifs,0⟩] scope pos) 0 it acc env).onRaise (λx=>do noteFrame x env;theTreesLotGoes x)) _ _ sk
 refine wpAny_noted (up ?_)
 rw[compTurn_list]
 refine wpAny_bind (wpAny_standAt (wpAny_bind (thn (turn k sk hk) λr s1 h1=>?_)))
 cases r with
 | none=>exact wpAny_pure h1
 | some v=>
  refine wpAny_bind (thn h1 λ_ s2 h2=>wpAny_bind (thn h2 λ_ s3 h3=>wpAny_bind (thn h3 λok s4 h4=>?_)))
  cases ok with
  | false=>exact wpAny_pure ⟨rfl,h4⟩
  | true=>exact wpAny_bind (wpAny_bind (thn h4 λx s5 h5=>wpAny_bind (thn h5 λ_ s6 h6=>wpAny_pure (wpAny_pure ⟨rfl,h6⟩))))
theorem QuC{it D C:Addr}{fp:List Addr}{tn:Nat->Heap->Prop}{J:It}{cl:List (Str×Addr)}{s3 s4:Shared}{H3:Hp}{σc:St}{g:TG}{tc:TT}{te:TE}{Q:Hp->Prop}(hcalm:X.calm=true)
  (T:Turn X.prog X.w X.K tg J fp it tn)
  (hg:PG (cxc X N' scope cl C fp s3 H3) tg g) (ht:PTs (cxc X N' scope cl C fp s3 H3) ifs tc) (he:PE (cxc X N' scope cl C fp s3 H3) elt te)
  (I:Inv (cxc X N' scope cl C fp s3 H3) [] σc H3 s4) (st:tn 0 s4.heap) (ff:∀b∈fp,QeQ (cxc X N' scope cl C fp s3 H3) [] H3 b)
  (W:Nat->Nat->List V->Hp->Prop) (hw:∃m,W 0 m [] H3)
  (turn:∀i m acc H2,W i m acc H2->(J.stop i H2/\Q H2)∨
   (J.go i H2/\∀x H5,J.yld i H2 x H5->g x σc H5 λσ2 H6=>(∀(j:Nat) v,σc[j]? =some (some v)->σ2[j]? =some (some v))/\tc σ2 H6 λb H7=>if b=true then
    te σ2 H7 λy H8=>H8 D=some (.lst acc)/\acc.length<sizeLine/\∃m',m'<m/\W (i+1) m' (acc++[y]) (upd H8 D (.lst (acc++[y])))
    else ∃m',m'<m/\W (i+1) m' acc H7))
  {R:Result->Shared->Prop}(hR:∀H' s',Inv (cxc X N' scope cl C fp s3 H3) [] σc H' s'->Q H'->R (.ok .next) s'):
  codeAny (model X.prog X.w) X.A (.compStart (.ListComp elt [⟨tg,iter,ifs,0⟩] scope pos) 0 (.ref it) (.ref D) (compEnvC scope cl C X.env)) R s4:=by
 obtain⟨m0,w0⟩:=hw
 have stat:∀{H':Hp},(∀b∈fp,H' b=none)->∀b∈fp,QeQ (cxc X N' scope cl C fp s3 H3) [] H' b:=λhn b hb=>⟨hn b hb,(ff b hb).2⟩
 have loop:codeAny (model X.prog X.w) X.A (.compLoop (.ListComp elt [⟨tg,iter,ifs,0⟩] scope pos) 0 (.ref it) (.ref D) (compEnvC scope cl C X.env)) R s4:=by
  refine QsN (λn s'=>∃i acc H',Inv (cxc X N' scope cl C fp s3 H3) [] σc H' s'/\tn i s'.heap/\(∀b∈fp,H' b=none)/\W i n acc H') ?_ m0 ⟨0,[],H3,I,st,λb hb=>(ff b hb).1,w0⟩
  rintro n s5 ⟨i,acc,H5,I5,st5,fr5,w5⟩
  rcases turn i n acc H5 w5 with⟨stop,q⟩ | ⟨go,step⟩
  ·refine thn (T.done (cxc X N' scope cl C fp s3 H3) rfl rfl rfl hcalm i [] s5 σc H5 _ I5 (stat fr5) st5 stop) λr s6 ⟨hr,I6⟩=>?_
   subst hr
   exact hR H5 s6 I6 q
  ·refine thn (T.item (cxc X N' scope cl C fp s3 H3) rfl rfl rfl hcalm i [] s5 σc H5 _ I5 (stat fr5) st5 go) λr s6 ⟨u,hr,h6⟩=>?_
   subst hr
   refine thn h6 λ_ s7 ⟨x,H7,I7,r7,y7,st7,fr7⟩=>?_
   have I7':=I7.pinned (stat fr7) (T.obj _ _ st7)
   refine thn (hg _ s7 σc H7 x u _ I7' r7 (step x H7 y7)) λ_ s8 ⟨σ8,H8,I8,k8,q8⟩=>?_
   refine thn (ht _ s8 σ8 H8 _ I8 q8) λok s9 ⟨H9,I9,q9⟩=>?_
   have again:∀{H':Hp}{s':Shared}{acc':List V},Inv (cxc X N' scope cl C fp s3 H3) ([]++QiD fp s7.heap) σ8 H' s'->(∃m',m'<n/\W (i+1) m' acc' H')→
     ∃m,m<n/\∃i acc H',Inv (cxc X N' scope cl C fp s3 H3) [] σc H' s'/\tn i s'.heap/\(∀b∈fp,H' b=none)/\W i m acc H':=λ{H' s' acc'} I' ⟨m',hm,w'⟩=>by
    have pin:∀b∈fp,∀o,s7.heap.get? b=some o->s'.heap.get? b=some o/\H' b=none:=λb hb o e=>by
     have z:=I'.pin (b,o) (Zb _ (Zb _ (Qh0 hb e)))
     exact⟨z.1,z.2.1⟩
    refine⟨m',hm,i+1,acc',H',?_,T.keep _ _ _ st7 λb hb o e=>(pin b hb o e).1,λb hb=>?_,w'⟩
    ·exact I'.QhF.weak (I.len.trans I8.len.symm) k8
    ·obtain⟨o,e,_⟩:=T.obj _ _ st7 b hb
     exact(pin b hb o e).2
   cases ok with
   | false=>
    rw[if_neg Zan]at q9 ⊢
    exact again I9 q9
   | true=>
    rw[if_pos rfl]at q9 ⊢
    refine thn (he _ s9 σ8 H9 _ I9 q9) λyv s10 ⟨y,H10,I10,r10,e10,l10,q10⟩=>?_
    refine thn (QmY _ s10 σ8 H10 (.ref D) [y] (.ref D) [yv] (λv H11=>H11=upd H10 D (.lst (acc++[y]))) I10 rfl (.cons r10 .nil) ⟨D,acc,y,rfl,rfl,e10,l10,rfl⟩) λ_ s11 ⟨_,H11,I11,_,e11⟩=>?_
    subst e11
    exact again I11 q10
 exact codeAny_compStart_list loop (T.self _ 0 _ _ _ st loop)
theorem QoQ{wi:TI}{g:TG}{tc:TT}{te:TE}{cp:Pos}{use:Option (Value->Sem Unit)}{pins:List (Addr×Obj)}{s:Shared}{σ:St}{H:Hp}{QV:Value->Shared->Prop}{Q:VK}(hcalm:X.calm=true)(S:Qfd X N' scope)(hi:PI X tg iter wi)
  (hin:∀cl C fp s3 H3,PG (cxc X N' scope cl C fp s3 H3) tg g/\PTs (cxc X N' scope cl C fp s3 H3) ifs tc/\PE (cxc X N' scope cl C fp s3 H3) elt te)
  (hs:∀x,foldedSetIterable iter X.env x=pure x) (I:Inv X pins σ H s) (h:Qnl wi (Qk6 X N' scope) g tc te σ H Q)
  (fin:∀(D C:Addr) (H':Hp) (s':Shared),Inv X pins σ H' s'->H' C=none->C≠X.env.locals->X.s₀.heap.objs.size<=C->(∀x c,X.env.cells.lookup x=some c->c≠C)->(∀p∈X.pn++pins,p.1≠C)->(∃m,s'.heap.Ns C m)->Q (.ref D) H'→
   compPost (model X.prog X.w) X.A X.xe use QV (.ref D) C (.ok .next) s'):
  wpAny (model X.prog X.w) X.A (comprehension (.ListComp elt [⟨tg,iter,ifs,0⟩] scope pos) scope X.env cp (newList []) false (eval iter X.env) use) QV X.xe s:=by
 obtain⟨cl,hcl,hc1,hc2⟩:=Qwq λy hy hf=>I.ok.has y.1 (S.free y hy hf)
 refine wpAny_comprehension_free rfl hs hcl S.kind S.loc ?_
 refine thn (hi pins s σ H _ I h) λv s1 h1=>thn h1 λitv s2 h2=>?_
 obtain⟨it,fp,tn,J,H2,e,I2,T,st2,f2,σc,cap,hw⟩:=h2
 subst e
 have hD0:H2 s2.heap.objs.size=none:=I2.hok.fresh (Zh _)
 obtain⟨W,hW0,turn⟩:=hw _ hD0
 have fpl:∀b∈fp,b<s2.heap.objs.size:=λb hb=>let ⟨o,e,_⟩:=T.obj _ _ st2 b hb;ZA e
 have hlist:∀D:Addr,D=s2.heap.objs.size->∃x,x=D:=λD _=>⟨D,rfl⟩
 refine wpAny_newObj_type ?_
 have I3:Inv X pins σ (upd H2 s2.heap.objs.size (.lst [])) {s2 with heap:=s2.heap.push {cls:= .type "list",dict:=none,data:= .seq ([]:List Value).toArray}}:=
  I2.laid (t':=s2.toks) (λb o e=>Zn _ e) (Zh _) ⟨Zac _,[],0,.nil,ZN _ rfl⟩
 generalize hs3:({s2 with heap:=s2.heap.push {cls:= .type "list",dict:=none,data:= .seq ([]:List Value).toArray}}:Shared)=s3 at I3
 have hs3':s3.heap=s2.heap.push {cls:= .type "list",dict:=none,data:= .seq ([]:List Value).toArray}:=by rw[← hs3]
 have sz3:s3.heap.objs.size=s2.heap.objs.size+1:=by rw[hs3',Zbd]
 have old3:∀b o,s2.heap.get? b=some o->s3.heap.get? b=some o:=λb o e=>by rw[hs3'];exact Zn _ e
 have f3:∀b∈fp,QeQ X pins (upd H2 s2.heap.objs.size (.lst [])) b:=λb hb=>⟨by rw[QZ (ZU (fpl b hb))];exact(f2 b hb).1,(f2 b hb).2⟩
 have fpl3:∀b∈fp,b<s3.heap.objs.size:=λb hb=>by rw[sz3];exact Zbs (fpl b hb)
 refine QqZ (λh4 hns4' keep4 hown4=>?_)
 have I4:=Qvp (tk:=s3.toks) S I3 f3 fpl3 hc1 hc2 cap hns4' keep4 hown4
 have hout:∀H' s',Inv (cxc X N' scope (cellsFrom (s3.heap.objs.size+1) scope.names cl) s3.heap.objs.size fp s3 (upd H2 s2.heap.objs.size (.lst []))) [] σc H' s'->Inv X pins σ H' s':=λH' s' J'=>
  I3.QAt J'.os J'.base J'.hok J'.bare λb hb=>⟨(f3 b hb).2.2.2.1,(f3 b hb).2.1,(f3 b hb).2.2.2.2.1,(f3 b hb).2.2.2.2.2⟩
 obtain⟨hg,ht,he⟩:=hin (cellsFrom (s3.heap.objs.size+1) scope.names cl) s3.heap.objs.size fp s3 (upd H2 s2.heap.objs.size (.lst []))
 have fc:∀b∈fp,QeQ (cxc X N' scope (cellsFrom (s3.heap.objs.size+1) scope.names cl) s3.heap.objs.size fp s3 (upd H2 s2.heap.objs.size (.lst []))) [] (upd H2 s2.heap.objs.size (.lst [])) b:=λb hb=>
  ⟨(f3 b hb).1,ZU (fpl3 b hb),λhs'=>(Zq.mp (I3.Qkq b hs')).elim (f3 b hb).2.1 (f3 b hb).2.2.1,.inl hb,λx c e=>(by
   rcases Qg0 scope.names _ cl x c e with e | ⟨e,_⟩
   ·exact(f3 b hb).2.2.2.2.1 x c (hc1 x c e)
   ·intro z
    rw[z]at e
    exact absurd (Zu (fpl3 b hb) (Zi (Zbo _) e)) (Zad _)),λp hp=>absurd (show p∈([]:List (Addr×Obj))from hp) (by simp)⟩
 have hC1:s3.heap.objs.size≠X.env.locals:=Ne.symm (ZU I3.lt)
 refine QuC (W:=W) hcalm T hg ht he I4 (T.keep _ _ _ st2 λb hb o e=>keep4 b o (old3 b o e)) fc hW0 turn λH' s' J' q=>?_
 have O:=hout H' s' J'
 refine fin _ _ H' s' O J'.free hC1 (Zi I3.sz (Zh _)) (λx c e z=>?_) (λp hp z=>?_) (let ⟨m,hn,_⟩:=J'.loc;⟨m,hn⟩) q
 ·obtain⟨v,o,ho,_⟩:=I3.cell x c e
  exact absurd (ZA ho) (by rw[z];exact Zad _)
 ·exact absurd (ZA (I3.pin p hp).1) (by rw[z];exact Zad _)
theorem Inv.Qv6{pins:List (Addr×Obj)}{σ:St}{H:Hp}{s:Shared}{C:Addr}{h':Heap}(I:Inv X pins σ H s)(hs:Heap.SameBut C s.heap h')(hn:H C=none)(hL:C≠X.env.locals)(h1:X.s₀.heap.objs.size<=C)
  (h2:∀x c,X.env.cells.lookup x=some c->c≠C) (h3:∀p∈X.pn++pins,p.1≠C):Inv X pins σ H {s with heap:=h'}:=
 I.turned (t':=s.toks) (λb o hb e=>(hs.2 b hb).trans e) hn hL (.inr h1) h2 h3
theorem QqB{wi:TI}{g:TG}{tc:TT}{te:TE}(hcalm:X.calm=true)(S:Qfd X N' scope)(hi:PI X tg iter wi)
  (hin:∀cl C fp s3 H3,PG (cxc X N' scope cl C fp s3 H3) tg g/\PTs (cxc X N' scope cl C fp s3 H3) ifs tc/\PE (cxc X N' scope cl C fp s3 H3) elt te)
  (hs:∀x,foldedSetIterable iter X.env x=pure x:=by intro _;rfl):PE X (.ListComp elt [⟨tg,iter,ifs,0⟩] scope pos) (Qnl wi (Qk6 X N' scope) g tc te):=by
 intro pins s σ H Q I h
 rw[eval_ListComp]
 refine QoQ hcalm S hi hin hs I h λD C H' s' O h1 h2 h3 h4 h5 ⟨m,hm⟩ q=>?_
 exact⟨m,hm,λh' hs'=>⟨.ref D,H',O.Qv6 hs' h1 h2 h3 h4 h5,rfl,q⟩⟩
theorem Qxw{wi:TI}{g:TG}{tc:TT}{te:TE}{i:Nat}{x:Str}{pos' spos:Pos}(hN:X.N.Nodup)(hx1:X.N[i]? =some x)(hx:Loc X.env.scope x)(hf:X.fn x=true∨X.env.scope.names.lookup x=some .local)(hcalm:X.calm=true)(S:Qfd X N' scope)(hi:PI X tg iter wi)
  (hin:∀cl C fp s3 H3,PG (cxc X N' scope cl C fp s3 H3) tg g/\PTs (cxc X N' scope cl C fp s3 H3) ifs tc/\PE (cxc X N' scope cl C fp s3 H3) elt te)
  (hs:∀x,foldedSetIterable iter X.env x=pure x:=by intro _;rfl):
  PS X (.Assign [.Name x pos'] (.ListComp elt [⟨tg,iter,ifs,0⟩] scope pos) spos) (QeG (Qnl wi (Qk6 X N' scope) g tc te) (Qgf i)):=by
 have hb:∃b,swapsWith (.ListComp elt [⟨tg,iter,ifs,0⟩] scope pos) (some (.Name x pos')) spos.line X.env=pure b:=⟨_,rfl⟩
 obtain⟨b,hb⟩:=hb
 cases b with
 | false=>exact Qic hN hx1 hx (QqB hcalm S hi hin hs) hb hf
 | true=>
  intro pins s σ H D I h
  rw[exec_Assign_Name_used _ _ _ _ hb]
  refine wpAny_bind (wpAny_standAt (wpAny_bind ?_))
  show wpAny _ X.A (do let _ ← comprehension (.ListComp elt [⟨tg,iter,ifs,0⟩] scope pos) scope X.env _ (newList []) false (eval iter X.env) (some (assign (.Name x pos') X.env))) _ _ s
  refine wpAny_bind (thn (QoQ hcalm S hi hin hs I h λDl C H' s' O h1 h2 h3 h4 h5 ⟨m,hm⟩ q=>?_) λ_ s' hq=>wpAny_pure (wpAny_pure hq))
  refine wpAny_assign_Name (QmZ O hN hx1 hx (v:= .ref Dl) rfl (λs2 I2 hsb=>?_) hf)
  obtain⟨a,sb,ha⟩:=hsb
  have haC:C≠a:=by
   rcases ha with rfl | ha
   ·exact h2
   ·exact Ne.symm (h4 _ _ ha)
  exact⟨m,hm.sameBut sb haC,λh' hs'=>⟨_,H',I2.Qv6 hs' h1 h2 h3 h4 h5,q⟩⟩
end
end L2
namespace L2
open PySem PySem.Spec PyProof.Rows
section
variable {X:Cx}{pins:List (Addr×Obj)}{σ:St}{H H':Hp}{s:Shared}{h':Heap}
theorem Inv.Qcl{t':Nat}{ch:List Addr}{T:Addr}{ts:List V}(I:Inv X pins σ H s)(hf:∀b∈ch,QeQ X pins H b)(k:∀b o,b∉ch->s.heap.get? b=some o->h'.get? b=some o)(hp:∀b∈ch,∃o,h'.get? b=some o)
  (hT:s.heap.objs.size<=T) (hnew:ts.length<=sizeLine/\∃its:List Value,QF ts its/\IsTup h' T its.toArray):Inv X pins σ (upd H T (.tup ts)) {s with heap:=h',toks:=t'}:=by
 have hn:H T=none:=I.hok.fresh hT
 have neT:∀b u,H b=some u->b≠T:=λb u e=>Qcd e hn
 have nch:∀b u,H b=some u->b∉ch:=λb u e hb=>by rw[(hf b hb).1]at e;cases e
 have ltT:∀b o,s.heap.get? b=some o->b≠T:=λb o e=>ZU (Zu (ZA e) hT)
 refine I.step (g':=s.gens) (d':=s.drawn) (ch:=ch) (λb hb=>?_) (λb o _ _ hc e _=>k b o hc e) (λb o _ _ hc e _=>⟨o.slots,k b o hc e⟩) (λb o _ e n=>by rw[QZ (ltT b o e)];exact n)
  (λb o hc e=>⟨o,k b o hc e⟩) (λb xs e=>by rw[QZ (neT b _ e)];exact e) (λb o u e=>by rw[QZ (neT b _ e)];exact e) (λb ps e=>⟨#[],by rw[QZ (neT b _ e),e];simp⟩) (λm hm=>?_) (λb u e=>?_) I.bare
 ·obtain⟨f0,f1,f2,f3,f4,f5⟩:=hf b hb
  exact⟨f3,f1,f4,f5⟩
 ·obtain⟨o,es,ep,ho,r⟩:=hm
  exact⟨o,es,ep,k _ o (λz=>(hf _ z).2.1 rfl) ho,r⟩
 ·by_cases hb:b=T
  ·subst hb
   rw[Qaw]at e
   cases e
   exact hnew
  ·rw[QZ hb]at e
   refine(I.hok b u e).Qki (λc v hc q=>k c v ?_ q) (λc q=>by rw[QZ (neT c _ q)];exact q) λc xs q=>by rw[QZ (neT c _ q)];exact q
   rcases hc with z | z
   ·rw[z];exact nch b u e
   ·exact nch c _ z
theorem Inv.turns{t':Nat}{ch:List Addr}(I:Inv X pins σ H s)(hf:∀b∈ch,QeQ X pins H b)(k:∀b o,b∉ch->s.heap.get? b=some o->h'.get? b=some o):Inv X pins σ H {s with heap:=h',toks:=t'}:=by
 have nch:∀b u,H b=some u->b∉ch:=λb u e hb=>by rw[(hf b hb).1]at e;cases e
 refine I.step (g':=s.gens) (d':=s.drawn) (ch:=ch) (λb hb=>?_) (λb o _ _ hc e _=>k b o hc e) (λb o _ _ hc e _=>⟨o.slots,k b o hc e⟩) (λb o _ e n=>n)
  (λb o hc e=>⟨o,k b o hc e⟩) (λb xs e=>e) (λb o u e=>e) (λb ps e=>⟨#[],by rw[e];simp⟩) (λm hm=>?_) (λb u e=>?_) I.bare
 ·obtain⟨f0,f1,f2,f3,f4,f5⟩:=hf b hb
  exact⟨f3,f1,f4,f5⟩
 ·obtain⟨o,es,ep,ho,r⟩:=hm
  exact⟨o,es,ep,k _ o (λz=>(hf _ z).2.1 rfl) ho,r⟩
 ·refine(I.hok b u e).Qki (λc v hc q=>k c v ?_ q) (λc q=>q) λc xs q=>q
  rcases hc with z | z
  ·rw[z];exact nch b u e
  ·exact nch c _ z
end
noncomputable def Ite(K:PySem.W.Frag)(a:Addr):It:=
 ⟨λi H=>∃xs x,SqL K H a xs/\xs[i]? =some x,λi H v H'=>∃p x,v= .ref p/\H p=none/\H'=upd H p (.tup [.int i,x])/\∀xs,SqL K H a xs->xs[i]? =some x,λi H=>∃xs,SqL K H a xs/\xs.length<=i⟩
theorem Qtc{P:Program}{w:World}{K:PySem.W.Frag}{es:List Expr}{tk:Nat}{tpos:Pos}(a e it:Addr)(hne:e≠it):Turn P w K (.Tuple es tk tpos) (Ite K a) [e,it] e (λi h=>∃old,IsEnum h e it (i:Int) old/\h.IsListIter it a i) where
 mem:=by simp
 obj:=λi h st b hb=>by
  obtain⟨old,he,o,ho,hc,hd⟩:=st
  have hb:b=e∨b=it:=by simpa using hb
  rcases hb with rfl | rfl
  ·exact⟨_,he,λv z=>by cases z⟩
  ·exact⟨o,ho,λv z=>by rw[hd]at z;cases z⟩
 keep:=λi h h' st k=>by
  obtain⟨old,he,hi⟩:=st
  exact⟨old,k e (by simp) _ he,hi.at λo q=>k it (by simp) o q⟩
 item:=by
  intro X hP hw hK hc i pins s σ H E I hf st hg
  subst hP hw hK
  obtain⟨old,he,hi⟩:=st
  obtain⟨xs,x,hq,hx⟩:=hg
  obtain⟨its,rv,p,hz⟩:=I.list hq
  obtain⟨u,hu,ru⟩:=rv.get hx
  refine wpAny_pyNext_enum_item he hi p.isList (x:=u) (by simpa using hu) hne λh1 heo hi1 ht1 hz1 hk1=>?_
  refine⟨.ref s.heap.objs.size,rfl,wpAny_letOwnedTupleGo_enum heo λh2 he2 hs2=>?_⟩
  replace hs2:Heap.SameBut e h1 h2:=hs2
  have helt:e<s.heap.objs.size:=ZA he
  have hilt:it<s.heap.objs.size:=by obtain⟨o,ho,_⟩:=hi;exact ZA ho
  have ht2:IsTup h2 s.heap.objs.size [Value.int i s.toks,u].toArray:=⟨_,(hs2.2 _ (Zca helt)).trans ht1,rfl,_,rfl⟩
  have hi2:h2.IsListIter it a (i+1):=hi1.extBut hs2.extBut (Ne.symm hne)
  have kk:∀b o,b∉[e,it]->s.heap.get? b=some o->h2.get? b=some o:=λb o hb q=>by
   have h1:b≠e:=λz=>hb (by simp[z])
   have h2:b≠it:=λz=>hb (by simp[z])
   exact hs2.extBut b o h1 (hk1 b o h1 h2 q)
  refine⟨.ref s.heap.objs.size,upd H s.heap.objs.size (.tup [.int i,x]),I.Qcl (t':=s.toks+1) hf kk (λb hb=>?_) (Zh _) ⟨by show 2<=sizeLine;decide,_,.cons ⟨_,rfl⟩ (.cons ru .nil),ht2⟩,rfl,
   ⟨_,x,rfl,I.hok.fresh (Zh _),rfl,λys hy=>by rw[I.QhV hy hq];exact hx⟩,⟨u,?_,hi2⟩,λb hb=>?_⟩
  ·have hb:b=e∨b=it:=by simpa using hb
   rcases hb with rfl | rfl
   ·exact⟨_,he2⟩
   ·obtain⟨o,ho,_⟩:=hi2;exact⟨o,ho⟩
  ·have:((i+1:Nat):Int)=(i:Int)+1:=by push_cast;rfl
   rw[this];exact he2
  ·have hb':b=e∨b=it:=by simpa using hb
   have:b≠s.heap.objs.size:=by
    rcases hb' with rfl | rfl
    ·exact ZU helt
    ·exact ZU hilt
   rw[QZ this];exact(hf b hb).1
 done:=by
  intro X hP hw hK hc i pins s σ H E I hf st hg
  subst hP hw hK
  obtain⟨old,he,hi⟩:=st
  obtain⟨xs,hq,hx⟩:=hg
  obtain⟨its,rv,p,hz⟩:=I.list hq
  have hl:=rv.length
  refine wpAny_pyNext_enum_end (I.ok.hd hc) he hi p.isList (by simp;omega) λh1 eb=>⟨rfl,?_⟩
  exact I.turns (t':=s.toks) hf λb o hb q=>eb b o (λz=>hb (by simp[z])) q
 self:=λ_ _ _ _ _ st h=>by
  obtain⟨old,he,hi⟩:=st
  exact wpAny_pyIter_enum he h
section
variable {X:Cx}
noncomputable def QAc(K:PySem.W.Frag)(ta:TA):TI:=λσ H R=>ta σ H λvs H1=>∃a,vs=[.ref a]/\(∃xs,SqL K H1 a xs)/\R (Ite K a) H1
theorem Qxr{a:Expr}{ta:TA}{p pos:Pos}{es:List Expr}{tk:Nat}{tpos:Pos}(hg:Gl X "enumerate")(hm:X.mg "enumerate" =none)(ha:PA X [a] ta)(hs:starEach [a] X.env=[(false,eval a X.env)]):
  PI X (.Tuple es tk tpos) (.Call (.Name "enumerate" p) [a] [] pos) (QAc X.K ta):=by
 intro pins s σ H R I h
 refine Call_ (QdW I hg hm PyProof.Rows.boot_enumerate (ZW (thn (ha pos pins s σ H _ I h) λus s1 ⟨vs,H1,I1,r1,q1⟩=>?_) hs rfl))
 obtain⟨l,e,⟨xs,hq⟩,q⟩:=q1
 subst e
 obtain⟨u,rfl,ru⟩:=vals1 r1
 cases ru
 obtain⟨its,rv,pl,hz⟩:=I1.list hq
 refine call_enumerate_list pl.isList λh2 he2 hi2 hz2 hk2=>?_
 have I2:Inv X pins σ H1 {s1 with heap:=h2}:=I1.kept (t':=s1.toks) hk2
 refine wpAny_pyIter_enum he2 ⟨_,[s1.heap.objs.size+1,s1.heap.objs.size],_,_,H1,rfl,I2,Qtc l _ _ (Nat.succ_ne_self _),⟨_,he2,hi2⟩,λb hb=>?_,q⟩
 have hb:b=s1.heap.objs.size+1∨b=s1.heap.objs.size:=by simpa using hb
 have hle:s1.heap.objs.size<=b:=by rcases hb with rfl | rfl<;>omega
 exact I1.Ql9 hle (I1.hok.fresh hle)
end
noncomputable def Itz(K:PySem.W.Frag)(a b:Addr):It:=
 ⟨λi H=>∃xs ys x y,SqL K H a xs/\SqL K H b ys/\xs[i]? =some x/\ys[i]? =some y,λi H v H'=>∃p x y,v= .ref p/\H p=none/\H'=upd H p (.tup [x,y])/\(∀xs,SqL K H a xs->xs[i]? =some x)/\∀ys,SqL K H b ys->ys[i]? =some y,
  λi H=>∃xs ys,SqL K H a xs/\SqL K H b ys/\(xs.length<=i∨ys.length<=i)⟩
structure Qwz (z TI TO i1 i2:Addr):Prop where
 a:TI≠z
 b:TO≠z
 c:i1≠z
 d:i2≠z
 e:TI≠TO
 f:TI≠i1
 g:TI≠i2
 h:TO≠i1
 i:TO≠i2
 j:i1≠i2
theorem Quy{P:Program}{w:World}{K:PySem.W.Frag}{es:List Expr}{tk:Nat}{tpos:Pos}(l1 l2 z TI TO i1 i2:Addr)(D:Qwz z TI TO i1 i2):
  Turn P w K (.Tuple es tk tpos) (Itz K l1 l2) [z,TI,TO,i1,i2] z (λi h=>IsZip h z TI TO .none/\IsPair h TI (.ref i1) (.ref i2)/\(∃a b,IsPair h TO a b)/\h.IsListIter i1 l1 i/\h.IsListIter i2 l2 i) where
 mem:=by simp
 obj:=λi h st b hb=>by
  obtain⟨hz,hTI,⟨p,q,hTO⟩,⟨o1,ho1,hc1,hd1⟩,⟨o2,ho2,hc2,hd2⟩⟩:=st
  have hb:b=z∨b=TI∨b=TO∨b=i1∨b=i2:=by simpa using hb
  rcases hb with rfl | rfl | rfl | rfl | rfl
  ·exact⟨_,hz,λv z=>by cases z⟩
  ·exact⟨_,hTI,λv z=>by cases z⟩
  ·exact⟨_,hTO,λv z=>by cases z⟩
  ·exact⟨o1,ho1,λv z=>by rw[hd1]at z;cases z⟩
  ·exact⟨o2,ho2,λv z=>by rw[hd2]at z;cases z⟩
 keep:=λi h h' st k=>by
  obtain⟨hz,hTI,⟨p,q,hTO⟩,h1,h2⟩:=st
  exact⟨k z (by simp) _ hz,k TI (by simp) _ hTI,⟨p,q,k TO (by simp) _ hTO⟩,h1.at λo e=>k i1 (by simp) o e,h2.at λo e=>k i2 (by simp) o e⟩
 item:=by
  intro X hP hw hK hc i pins s σ H E I hf st hg
  subst hP hw hK
  obtain⟨hz,hTI,⟨a0,b0,hTO⟩,h1,h2⟩:=st
  obtain⟨xs,ys,x,y,hq1,hq2,hx,hy⟩:=hg
  obtain⟨its,rv,p,hzz⟩:=I.list hq1
  obtain⟨its2,rv2,p2,hzz2⟩:=I.list hq2
  obtain⟨u,hu,ru⟩:=rv.get hx
  obtain⟨u2,hu2,ru2⟩:=rv2.get hy
  have free:∀l ys,SqL X.K H l ys->∀b,b∈[z,TI,TO,i1,i2]->l≠b:=λl ys hq b hb e=>by
   subst e
   rcases hq with(hq | ⟨o,hq⟩) | ⟨o,its,n,hk,hc',_,hd',_⟩
   ·rw[(hf l hb).1]at hq;cases hq
   ·rw[(hf l hb).1]at hq;cases hq
   ·have e1:=I.kIn l o hk
    obtain⟨o1,ho1,hcc1,hd1⟩:=id h1
    obtain⟨o2,ho2,hcc2,hd2⟩:=id h2
    have hb:l=z∨l=TI∨l=TO∨l=i1∨l=i2:=by simpa using hb
    rcases hb with rfl | rfl | rfl | rfl | rfl
    ·rw[hz]at e1;cases e1;simp at hc'
    ·rw[hTI]at e1;cases e1;simp at hc'
    ·rw[hTO]at e1;cases e1;simp at hc'
    ·rw[ho1]at e1;cases e1;rw[hc']at hcc1;simp at hcc1
    ·rw[ho2]at e1;cases e1;rw[hc']at hcc2;simp at hcc2
  have A1:=free l1 xs hq1
  have A2:=free l2 ys hq2
  have DD:ZipApart z TI TO i1 i2 l1 l2:=⟨D.a,D.b,D.c,D.d,D.e,D.f,D.g,D.h,D.i,D.j,A1 z (by simp),A1 TO (by simp),A1 i1 (by simp),A1 i2 (by simp),A2 z (by simp),A2 TO (by simp),A2 i1 (by simp),A2 i2 (by simp)⟩
  refine wpAny_pyNext_zip_item DD hz hTI hTO h1 h2 p.isList p2.isList (x:=u) (y:=u2) (by simpa using hu) (by simpa using hu2) λh3 z3 TO3 a3 b3 T3 sz3 k3=>?_
  refine⟨.ref s.heap.objs.size,rfl,wpAny_letOwnedTupleGo_zip z3 λh4 z4 hs4=>?_⟩
  replace hs4:Heap.SameBut z h3 h4:=hs4
  have lt:∀{c o},s.heap.get? c=some o->c<s.heap.objs.size:=λe=>ZA e
  have hzlt:=lt hz
  have all:∀b∈[z,TI,TO,i1,i2],b<s.heap.objs.size:=λb hb=>by
   have hb:b=z∨b=TI∨b=TO∨b=i1∨b=i2:=by simpa using hb
   obtain⟨o1,ho1,_⟩:=h1
   obtain⟨o2,ho2,_⟩:=h2
   rcases hb with rfl | rfl | rfl | rfl | rfl
   ·exact lt hz
   ·exact lt hTI
   ·exact lt hTO
   ·exact lt ho1
   ·exact lt ho2
  have kk:∀b o,b∉[z,TI,TO,i1,i2]->s.heap.get? b=some o->h4.get? b=some o:=λb o hb q=>by
   have n1:b≠z:=λe=>hb (by simp[e])
   exact hs4.extBut b o n1 (k3 b o n1 (λe=>hb (by simp[e])) (λe=>hb (by simp[e])) (λe=>hb (by simp[e])) q)
  have TI4:IsPair h4 TI (.ref i1) (.ref i2):=hs4.extBut _ _ D.a (k3 _ _ D.a D.e D.f D.g hTI)
  have TO4:IsPair h4 TO u u2:=hs4.extBut _ _ D.b TO3
  have a4:h4.IsListIter i1 l1 (i+1):=a3.extBut hs4.extBut D.c
  have b4:h4.IsListIter i2 l2 (i+1):=b3.extBut hs4.extBut D.d
  have T4:IsTup h4 s.heap.objs.size [u,u2].toArray:=⟨_,(hs4.2 _ (Zca hzlt)).trans T3,rfl,_,rfl⟩
  refine⟨.ref s.heap.objs.size,upd H s.heap.objs.size (.tup [x,y]),I.Qcl (t':=s.toks) hf kk (λb hb=>?_) (Zh _) ⟨by show 2<=sizeLine;decide,_,.cons ru (.cons ru2 .nil),T4⟩,rfl,
   ⟨_,x,y,rfl,I.hok.fresh (Zh _),rfl,λzs hy'=>by rw[I.QhV hy' hq1];exact hx,λzs hy'=>by rw[I.QhV hy' hq2];exact hy⟩,⟨z4,TI4,⟨_,_,TO4⟩,a4,b4⟩,λb hb=>?_⟩
  ·have hb:b=z∨b=TI∨b=TO∨b=i1∨b=i2:=by simpa using hb
   obtain⟨o1,ho1,_⟩:=a4
   obtain⟨o2,ho2,_⟩:=b4
   rcases hb with rfl | rfl | rfl | rfl | rfl
   ·exact⟨_,z4⟩
   ·exact⟨_,TI4⟩
   ·exact⟨_,TO4⟩
   ·exact⟨_,ho1⟩
   ·exact⟨_,ho2⟩
  ·rw[QZ (ZU (all b hb))];exact(hf b hb).1
 done:=by
  intro X hP hw hK hc i pins s σ H E I hf st hg
  subst hP hw hK
  obtain⟨hz,hTI,⟨a0,b0,hTO⟩,h1,h2⟩:=st
  obtain⟨xs,ys,hq1,hq2,hx⟩:=hg
  obtain⟨its,rv,p,hzz⟩:=I.list hq1
  obtain⟨its2,rv2,p2,hzz2⟩:=I.list hq2
  have free:∀l ys,SqL X.K H l ys->∀b,b∈[z,TI,TO,i1,i2]->l≠b:=λl ys hq b hb e=>by
   subst e
   rcases hq with(hq | ⟨o,hq⟩) | ⟨o,its,n,hk,hc',_,hd',_⟩
   ·rw[(hf l hb).1]at hq;cases hq
   ·rw[(hf l hb).1]at hq;cases hq
   ·have e1:=I.kIn l o hk
    obtain⟨o1,ho1,hcc1,hd1⟩:=id h1
    obtain⟨o2,ho2,hcc2,hd2⟩:=id h2
    have hb:l=z∨l=TI∨l=TO∨l=i1∨l=i2:=by simpa using hb
    rcases hb with rfl | rfl | rfl | rfl | rfl
    ·rw[hz]at e1;cases e1;simp at hc'
    ·rw[hTI]at e1;cases e1;simp at hc'
    ·rw[hTO]at e1;cases e1;simp at hc'
    ·rw[ho1]at e1;cases e1;rw[hc']at hcc1;simp at hcc1
    ·rw[ho2]at e1;cases e1;rw[hc']at hcc2;simp at hcc2
  have A1:=free l1 xs hq1
  have A2:=free l2 ys hq2
  have DD:ZipApart z TI TO i1 i2 l1 l2:=⟨D.a,D.b,D.c,D.d,D.e,D.f,D.g,D.h,D.i,D.j,A1 z (by simp),A1 TO (by simp),A1 i1 (by simp),A1 i2 (by simp),A2 z (by simp),A2 TO (by simp),A2 i1 (by simp),A2 i2 (by simp)⟩
  have hl:=rv.length
  have hl2:=rv2.length
  refine wpAny_pyNext_zip_end (I.ok.hd hc) DD hz hTI hTO h1 h2 p.isList p2.isList (by rcases hx with hx | hx;(left;simp;omega);(right;simp;omega)) λh3 k3=>⟨rfl,?_⟩
  exact I.turns (t':=s.toks) hf λb o hb q=>k3 b o (λe=>hb (by simp[e])) (λe=>hb (by simp[e])) (λe=>hb (by simp[e])) (λe=>hb (by simp[e])) q
 self:=λ_ _ _ _ _ st h=>wpAny_pyIter_zip st.1 h
section
variable {X:Cx}
noncomputable def QBq(K:PySem.W.Frag)(ta:TA):TI:=λσ H R=>ta σ H λvs H1=>∃a b,vs=[.ref a,.ref b]/\(∃xs,SqL K H1 a xs)/\(∃ys,SqL K H1 b ys)/\R (Itz K a b) H1
theorem Qzh{a b:Expr}{ta:TA}{p pos:Pos}{es:List Expr}{tk:Nat}{tpos:Pos}(hg:Gl X "zip")(hm:X.mg "zip" =none)(ha:PA X [a,b] ta)(hs:starEach [a,b] X.env=[(false,eval a X.env),(false,eval b X.env)])(hs2:starEach [b] X.env=[(false,eval b X.env)]):
  PI X (.Tuple es tk tpos) (.Call (.Name "zip" p) [a,b] [] pos) (QBq X.K ta):=by
 intro pins s σ H R I h
 refine Call_ (QdW I hg hm PyProof.Rows.boot_zip (ZW (thn (ha pos pins s σ H _ I h) λus s1 ⟨vs,H1,I1,r1,q1⟩=>?_) (by rw[hs,hs2]) (by rw[hs2];rfl)))
 obtain⟨l,l2,e,⟨xs,hq⟩,⟨ys,hq2⟩,q⟩:=q1
 subst e
 obtain⟨u,u2,rfl,ru,ru2⟩:=vals2 r1
 cases ru
 cases ru2
 obtain⟨its,rv,pl,hz⟩:=I1.list hq
 obtain⟨its2,rv2,pl2,hz2⟩:=I1.list hq2
 refine call_zip_2 pl.isList pl2.isList λh2 hz hTI hTO h1 h2' hsz hk2=>?_
 have I2:Inv X pins σ H1 {s1 with heap:=h2}:=I1.kept (t':=s1.toks) hk2
 refine wpAny_pyIter_zip hz ⟨_,[s1.heap.objs.size+4,s1.heap.objs.size+2,s1.heap.objs.size+3,s1.heap.objs.size,s1.heap.objs.size+1],_,_,H1,rfl,I2,Quy l l2 _ _ _ _ _ ⟨?_,?_,?_,?_,?_,?_,?_,?_,?_,?_⟩,⟨hz,hTI,⟨_,_,hTO⟩,h1,h2'⟩,λb hb=>?_,q⟩
 iterate 10 (exact(by intro e;first | (have e':(s1.heap.objs.size:Nat)+_=_:=e;omega) | (have e':(s1.heap.objs.size:Nat)=_:=e;omega)))
 have hle:s1.heap.objs.size<=b:=by
  simp only[Zq,List.not_mem_nil,or_false]at hb
  rcases hb with rfl | rfl | rfl | rfl | rfl<;>first | exact Zh _ | exact Nat.le_add_right _ _
 exact I1.Ql9 hle (I1.hok.fresh hle)
end
end L2
namespace L2
open PySem PySem.Spec
section
variable {prog:Program}{w:World}{A:Around}{E:Value->Shared->Prop}{s:Shared}
structure Six (z TI TO i1 i2 i3:Addr):Prop where
 TIz:TI≠z
 TOz:TO≠z
 i1z:i1≠z
 i2z:i2≠z
 i3z:i3≠z
 TITO:TI≠TO
 TIi1:TI≠i1
 TIi2:TI≠i2
 TIi3:TI≠i3
 TOi1:TO≠i1
 TOi2:TO≠i2
 TOi3:TO≠i3
 i12:i1≠i2
 i13:i1≠i3
 i23:i2≠i3
end
section
variable {prog:Program}{w:World}{A:Around}{E:Value->Shared->Prop}{s:Shared}
end
open PyProof.Rows
section
variable {X:Cx}
end
end L2
namespace HS
open PySem PySem.Spec PyProof.Rows L2
inductive D where
 | non | bl (b:Bool) | int (i:Int) | str (x:Str) | tup (xs:List D) | lst (xs:List D) | exc (x:Str)
mutual
noncomputable def D.flat:D->Bool
 | .lst _=>false
 | .tup xs=>Qak xs
 | .non=>true
 | .bl _=>true
 | .int _=>true
 | .str _=>true
 | .exc _=>true
noncomputable def Qak:List D->Bool
 | []=>true
 | d::ds=>d.flat && Qak ds
end
mutual
noncomputable def D.nl:D->Nat
 | .lst xs=>nls xs+1
 | .tup xs=>nls xs
 | .non=>0
 | .bl _=>0
 | .int _=>0
 | .str _=>0
 | .exc _=>0
noncomputable def nls:List D->Nat
 | []=>0
 | d::ds=>d.nl+nls ds
end
mutual
theorem Qe0:∀(d:D),d.flat=true->d.nl=0
 | .non,_=>rfl
 | .bl _,_=>rfl
 | .int _,_=>rfl
 | .str _,_=>rfl
 | .exc _,_=>rfl
 | .tup xs,h=>by simp only[D.nl];simp only[D.flat]at h;exact Qj4 xs h
 | .lst xs,h=>by simp[D.flat]at h
theorem Qj4:∀(ds:List D),Qak ds=true->nls ds=0
 | [],_=>rfl
 | d::ds,h=>by simp only[Qak,Zj]at h;simp only[nls,Qe0 d h.1,Qj4 ds h.2]
end
def Fix(K:PySem.W.Frag)(H:Hp)(a:Addr)(vs:List V):Prop:=
 (∃o,H a=some (.frz o (.lst vs)))∨
  ∃(its:List Value) (n:Nat),K.lookup a=some {cls:= .type "list",data:= .seq its.toArray n}/\vs.length<=sizeLine/\QF vs its
def QBl(a C:Addr)(h:Heap):Prop:=∃o vs,h.get? a=some o/\o.cls= .ref C/\o.data= .fields vs
def ExcAt(K:PySem.W.Frag)(H:Hp)(a:Addr)(x:Str):Prop:=∃C,PySem.W.nsIn K mainGlobals x=some (some (.ref C))/\H a=some (.ext (QBl a C))
theorem Qrg{K:PySem.W.Frag}{H H':Hp}{a:Addr}{x:Str}(s:QU H H')(h:ExcAt K H a x):ExcAt K H' a x:=by
 obtain⟨C,h1,h2⟩:=h
 exact⟨C,h1,s _ _ h2⟩
theorem QtE{K:PySem.W.Frag}{H:Hp}{a p:Addr}{x:Str}{zs ys:List V}(hp:H p=some (.lst zs))(h:ExcAt K H a x):ExcAt K (upd H p (.lst ys)) a x:=by
 obtain⟨C,h1,h2⟩:=h
 exact⟨C,h1,by rw[QZ (Qnq h2 hp (by intro z;cases z))];exact h2⟩
mutual
noncomputable def Rp(K:PySem.W.Frag)(H:Hp):D->V->List Addr->Prop
 | .non,v,F=>v= .non/\F=[]
 | .bl b,v,F=>v= .bl b/\F=[]
 | .int i,v,F=>v= .int i/\F=[]
 | .str x,v,F=>v= .str x/\F=[]
 | .exc x,v,F=>(∃a,v= .ref a/\ExcAt K H a x)/\F=[]
 | .tup ds,v,F=>∃a vs,v= .ref a/\SqT K H a vs/\Rps K H ds vs F
 | .lst ds,v,F=>ds.length<=sizeLine/\∃a vs,v= .ref a/\((∃G,F=a::G/\H a=some (.lst vs)/\Rps K H ds vs G)∨(Fix K H a vs/\Rps K H ds vs F))
noncomputable def Rps(K:PySem.W.Frag)(H:Hp):List D->List V->List Addr->Prop
 | [],vs,F=>vs=[]/\F=[]
 | d::ds,vs,F=>∃v ws F1 F2,vs=v::ws/\F=F1++F2/\Rp K H d v F1/\Rps K H ds ws F2
end
theorem QoO{K:PySem.W.Frag}{H H':Hp}{a:Addr}{vs:List V}(s:QU H H')(h:SqT K H a vs):SqT K H' a vs:=by
 rcases h with(h | ⟨o,h⟩) | h
 ·exact .inl (.inl (s _ _ h))
 ·exact .inl (.inr ⟨o,s _ _ h⟩)
 ·exact .inr h
theorem QnR{K:PySem.W.Frag}{H H':Hp}{a:Addr}{vs:List V}(s:QU H H')(h:Fix K H a vs):Fix K H' a vs:=by
 rcases h with⟨o,h⟩ | h
 ·exact .inl ⟨o,s _ _ h⟩
 ·exact .inr h
theorem Qqz{K:PySem.W.Frag}{H:Hp}{a p:Addr}{vs zs ys:List V}(hp:H p=some (.lst zs))(h:SqT K H a vs):SqT K (upd H p (.lst ys)) a vs:=by
 rcases h with(h | ⟨o,h⟩) | h
 ·exact .inl (.inl (by rw[QZ (Qnq h hp (by intro z;cases z))];exact h))
 ·exact .inl (.inr ⟨o,by rw[QZ (Qnq h hp (by intro z;cases z))];exact h⟩)
 ·exact .inr h
theorem Qxv{K:PySem.W.Frag}{H:Hp}{a p:Addr}{vs zs ys:List V}(hp:H p=some (.lst zs))(h:Fix K H a vs):Fix K (upd H p (.lst ys)) a vs:=by
 rcases h with⟨o,h⟩ | h
 ·exact .inl ⟨o,by rw[QZ (Qnq h hp (by intro z;cases z))];exact h⟩
 ·exact .inr h
section
variable {K:PySem.W.Frag}{H H':Hp}
mutual
theorem Rp.same(s:QU H H'):∀{d:D}{v:V}{F:List Addr},Rp K H d v F->Rp K H' d v F
 | .exc _,_,_,h=>by
  simp only[Rp]at h ⊢
  obtain⟨⟨a,e,q⟩,z⟩:=h
  exact⟨⟨a,e,Qrg s q⟩,z⟩
 | .non,_,_,h=>h
 | .bl _,_,_,h=>h
 | .int _,_,_,h=>h
 | .str _,_,_,h=>h
 | .tup ds,_,_,h=>by
  simp only[Rp]at h ⊢
  obtain⟨a,vs,e,q,r⟩:=h
  exact⟨a,vs,e,QoO s q,Rps.same s r⟩
 | .lst ds,_,_,h=>by
  simp only[Rp]at h ⊢
  obtain⟨hz,a,vs,e,⟨G,eF,q,r⟩ | ⟨q,r⟩⟩:=h
  ·exact⟨hz,a,vs,e,.inl ⟨G,eF,s _ _ q,Rps.same s r⟩⟩
  ·exact⟨hz,a,vs,e,.inr ⟨QnR s q,Rps.same s r⟩⟩
theorem Rps.same(s:QU H H'):∀{ds:List D}{vs:List V}{F:List Addr},Rps K H ds vs F->Rps K H' ds vs F
 | [],_,_,h=>h
 | d::ds,_,_,h=>by
  simp only[Rps]at h ⊢
  obtain⟨v,ws,F1,F2,e,eF,r,q⟩:=h
  exact⟨v,ws,F1,F2,e,eF,Rp.same s r,Rps.same s q⟩
end
mutual
theorem Rp.upd{p:Addr}{zs ys:List V}(hp:H p=some (.lst zs)):∀{d:D}{v:V}{F:List Addr},Rp K H d v F->p∉F->Rp K (upd H p (.lst ys)) d v F
 | .exc _,_,_,h,_=>by
  simp only[Rp]at h ⊢
  obtain⟨⟨a,e,q⟩,z⟩:=h
  exact⟨⟨a,e,QtE hp q⟩,z⟩
 | .non,_,_,h,_=>h
 | .bl _,_,_,h,_=>h
 | .int _,_,_,h,_=>h
 | .str _,_,_,h,_=>h
 | .tup ds,_,_,h,hn=>by
  simp only[Rp]at h ⊢
  obtain⟨a,vs,e,q,r⟩:=h
  exact⟨a,vs,e,Qqz hp q,Rps.upd hp r hn⟩
 | .lst ds,_,_,h,hn=>by
  simp only[Rp]at h ⊢
  obtain⟨hz,a,vs,e,⟨G,eF,q,r⟩ | ⟨q,r⟩⟩:=h
  ·subst eF
   have h1:a≠p:=λz=>hn (by rw[z];exact Zp)
   exact⟨hz,a,vs,e,.inl ⟨G,rfl,by rw[QZ h1];exact q,Rps.upd hp r λz=>hn (Ze _ z)⟩⟩
  ·exact⟨hz,a,vs,e,.inr ⟨Qxv hp q,Rps.upd hp r hn⟩⟩
theorem Rps.upd{p:Addr}{zs ys:List V}(hp:H p=some (.lst zs)):∀{ds:List D}{vs:List V}{F:List Addr},Rps K H ds vs F->p∉F->Rps K (upd H p (.lst ys)) ds vs F
 | [],_,_,h,_=>h
 | d::ds,_,_,h,hn=>by
  simp only[Rps]at h ⊢
  obtain⟨v,ws,F1,F2,e,eF,r,q⟩:=h
  subst eF
  exact⟨v,ws,F1,F2,e,rfl,Rp.upd hp r λz=>hn (Zd _ z),Rps.upd hp q λz=>hn (Zb _ z)⟩
end
mutual
theorem Rp.mem:∀{d:D}{v:V}{F:List Addr},Rp K H d v F->∀a∈F,∃vs,H a=some (.lst vs)
 | .non,_,_,h,a,ha=>by simp only[Rp]at h;rw[h.2]at ha;simp at ha
 | .bl _,_,_,h,a,ha=>by simp only[Rp]at h;rw[h.2]at ha;simp at ha
 | .int _,_,_,h,a,ha=>by simp only[Rp]at h;rw[h.2]at ha;simp at ha
 | .str _,_,_,h,a,ha=>by simp only[Rp]at h;rw[h.2]at ha;simp at ha
 | .exc _,_,_,h,a,ha=>by simp only[Rp]at h;rw[h.2]at ha;simp at ha
 | .tup ds,_,_,h,a,ha=>by
  simp only[Rp]at h
  obtain⟨_,vs,e,q,r⟩:=h
  exact Rps.mem r a ha
 | .lst ds,_,_,h,a,ha=>by
  simp only[Rp]at h
  obtain⟨_,b,vs,e,⟨G,eF,q,r⟩ | ⟨q,r⟩⟩:=h
  ·subst eF
   rcases Zq.mp ha with z | z
   ·exact⟨vs,by rw[z];exact q⟩
   ·exact Rps.mem r a z
  ·exact Rps.mem r a ha
theorem Rps.mem:∀{ds:List D}{vs:List V}{F:List Addr},Rps K H ds vs F->∀a∈F,∃vs,H a=some (.lst vs)
 | [],_,_,h,a,ha=>by simp only[Rps]at h;rw[h.2]at ha;simp at ha
 | d::ds,_,_,h,a,ha=>by
  simp only[Rps]at h
  obtain⟨v,ws,F1,F2,e,eF,r,q⟩:=h
  subst eF
  rcases ZC.mp ha with z | z
  ·exact Rp.mem r a z
  ·exact Rps.mem q a z
end
mutual
theorem Rp.QcJ:∀{d:D}{v:V}{F:List Addr},Rp K H d v F->d.flat=true->F=[]
 | .non,_,_,h,_=>by simp only[Rp]at h;exact h.2
 | .bl _,_,_,h,_=>by simp only[Rp]at h;exact h.2
 | .int _,_,_,h,_=>by simp only[Rp]at h;exact h.2
 | .str _,_,_,h,_=>by simp only[Rp]at h;exact h.2
 | .exc _,_,_,h,_=>by simp only[Rp]at h;exact h.2
 | .tup ds,_,_,h,hf=>by
  simp only[Rp]at h
  simp only[D.flat]at hf
  obtain⟨_,vs,e,q,r⟩:=h
  exact Rps.QcJ r hf
 | .lst ds,_,_,h,hf=>by simp[D.flat]at hf
theorem Rps.QcJ:∀{ds:List D}{vs:List V}{F:List Addr},Rps K H ds vs F->Qak ds=true->F=[]
 | [],_,_,h,_=>by simp only[Rps]at h;exact h.2
 | d::ds,_,_,h,hf=>by
  simp only[Rps]at h
  simp only[Qak,Zj]at hf
  obtain⟨v,ws,F1,F2,e,eF,r,q⟩:=h
  rw[eF,Rp.QcJ r hf.1,Rps.QcJ q hf.2];rfl
end
mutual
theorem Rp.QaM:∀{d:D}{v:V}{F:List Addr},Rp K H d v F->F.length<=d.nl
 | .non,_,_,h=>by simp only[Rp]at h;rw[h.2];exact Zac _
 | .bl _,_,_,h=>by simp only[Rp]at h;rw[h.2];exact Zac _
 | .int _,_,_,h=>by simp only[Rp]at h;rw[h.2];exact Zac _
 | .str _,_,_,h=>by simp only[Rp]at h;rw[h.2];exact Zac _
 | .exc _,_,_,h=>by simp only[Rp]at h;rw[h.2];exact Zac _
 | .tup ds,_,_,h=>by
  simp only[Rp]at h
  obtain⟨_,vs,e,q,r⟩:=h
  simp only[D.nl]
  exact Rps.QaM r
 | .lst ds,_,_,h=>by
  simp only[Rp]at h
  simp only[D.nl]
  obtain⟨_,b,vs,e,⟨G,eF,q,r⟩ | ⟨q,r⟩⟩:=h
  ·rw[eF,ZP];have:=Rps.QaM r;omega
  ·have:=Rps.QaM r;omega
theorem Rps.QaM:∀{ds:List D}{vs:List V}{F:List Addr},Rps K H ds vs F->F.length<=nls ds
 | [],_,_,h=>by simp only[Rps]at h;rw[h.2];exact Zac _
 | d::ds,_,_,h=>by
  simp only[Rps]at h
  obtain⟨v,ws,F1,F2,e,eF,r,q⟩:=h
  simp only[nls]
  rw[eF,Zr]
  have:=Rp.QaM r
  have:=Rps.QaM q
  omega
end
theorem Rps.length:∀{ds:List D}{vs:List V}{F:List Addr},Rps K H ds vs F->ds.length=vs.length
 | [],_,_,h=>by simp only[Rps]at h;rw[h.1];rfl
 | d::ds,_,_,h=>by
  simp only[Rps]at h
  obtain⟨v,ws,F1,F2,e,eF,r,q⟩:=h
  rw[e,ZP,ZP,Rps.length q]
theorem Rps.append:∀{ds es:List D}{vs ws:List V}{F G:List Addr},Rps K H ds vs F->Rps K H es ws G->Rps K H (ds++es) (vs++ws) (F++G)
 | [],_,_,_,_,_,h,g=>by simp only[Rps]at h;rw[h.1,h.2];exact g
 | d::ds,_,_,_,_,_,h,g=>by
  simp only[Rps,ZbS]at h ⊢
  obtain⟨v,ws,F1,F2,e,eF,r,q⟩:=h
  subst e eF
  exact⟨v,_,F1,_,rfl,by rw[ZaP],r,Rps.append q g⟩
theorem Rps.get:∀{ds:List D}{vs:List V}{F:List Addr}{i:Nat}{d:D},Rps K H ds vs F->ds[i]? =some d->∃v F1 G F2,vs[i]? =some v/\F=F1++(G++F2)/\Rp K H d v G/\(F.length=nls ds->G.length=d.nl)
 | [],_,_,_,_,_,e=>by simp at e
 | d::ds,_,_,0,_,h,e=>by
  simp only[Rps]at h
  obtain⟨v,ws,F1,F2,e1,eF,r,q⟩:=h
  simp at e;subst e e1 eF
  refine⟨v,[],F1,F2,by simp,rfl,r,λhl=>?_⟩
  simp only[nls,Zr]at hl
  have:=Rp.QaM r
  have:=Rps.QaM q
  omega
 | d::ds,_,_,i+1,_,h,e=>by
  simp only[Rps]at h
  obtain⟨v,ws,F1,F2,e1,eF,r,q⟩:=h
  obtain⟨v',G1,G,G2,h1,h2,h3,h4⟩:=Rps.get q (by simpa using e)
  have l1:=Rp.QaM r
  have l2:=Rps.QaM q
  subst e1 eF
  refine⟨v',F1++G1,G,G2,by simpa using h1,by rw[h2,ZaP],h3,λhl=>h4 ?_⟩
  simp only[nls,Zr]at hl
  omega
theorem Fix.sq{K:PySem.W.Frag}{H:Hp}{a:Addr}{vs:List V}(h:Fix K H a vs):SqL K H a vs:=by
 rcases h with⟨o,h⟩ | ⟨its,n,h,hz,r⟩
 ·exact .inl (.inr ⟨o,h⟩)
 ·exact .inr ⟨_,its.toArray,n,h,rfl,rfl,rfl,by rw[Zw,← r.length];exact hz,by simpa using r⟩
theorem _root_.L2.Inv.Qpr{X:Cx}{pins:List (Addr×Obj)}{σ:L2.St}{H:Hp}{s:Shared}{a:Addr}{vs:List V}(I:Inv X pins σ H s)(h:H a=some (.lst vs)∨Fix X.K H a vs):
  vs.length<=sizeLine/\∃(its:List Value) (n:Nat),QF vs its/\vs.length=its.length/\s.heap.get? a=some {cls:= .type "list",data:= .seq its.toArray n}:=by
 rcases h with h | ⟨o,h⟩ | ⟨its,n,h,hz,r⟩
 ·exact I.QuA h
 ·obtain⟨e,hz,its,n,r,e2⟩:=I.hok a _ h
  exact⟨hz,its,n,r,r.length,e2⟩
 ·exact⟨hz,its,n,r,r.length,I.kIn _ _ h⟩
theorem Rp.lst_inv{K:PySem.W.Frag}{H:Hp}{ds:List D}{v:V}{F:List Addr}(h:Rp K H (.lst ds) v F):
  ∃a vs G,v= .ref a/\(H a=some (.lst vs)∨Fix K H a vs)/\Rps K H ds vs G/\ds.length<=sizeLine/\(F=a::G∨F=G):=by
 simp only[Rp]at h
 obtain⟨hz,a,vs,e,⟨G,eF,q,r⟩ | ⟨q,r⟩⟩:=h
 ·exact⟨a,vs,G,e,.inl q,r,hz,.inl eF⟩
 ·exact⟨a,vs,F,e,.inr q,r,hz,.inr rfl⟩
theorem Qap{K:PySem.W.Frag}{H:Hp}{a:Addr}{vs:List V}(h:H a=some (.lst vs)∨Fix K H a vs):SqL K H a vs:=h.elim (λh=>SqL.of h) Fix.sq
theorem Rp.QbQ{K:PySem.W.Frag}{H:Hp}{ds:List D}{v:V}{F:List Addr}(h:Rp K H (.tup ds) v F):∃a vs,v= .ref a/\SqT K H a vs/\Rps K H ds vs F:=by
 simp only[Rp]at h
 exact h
theorem Rp.Qes{K:PySem.W.Frag}{H:Hp}{ds:List D}{a:Addr}{vs:List V}{G:List Addr}(h:H a=some (.lst vs))(r:Rps K H ds vs G)(hz:ds.length<=sizeLine):Rp K H (.lst ds) (.ref a) (a::G):=by
 simp only[Rp]
 exact⟨hz,a,vs,rfl,.inl ⟨G,rfl,h,r⟩⟩
theorem Rp.QiO{K:PySem.W.Frag}{H:Hp}{ds:List D}{a:Addr}{vs:List V}{G:List Addr}(h:H a=some (.tup vs))(r:Rps K H ds vs G):Rp K H (.tup ds) (.ref a) G:=by
 simp only[Rp]
 exact⟨a,vs,rfl,SqT.of h,r⟩
theorem Rp.int_inv{K:PySem.W.Frag}{H:Hp}{i:Int}{v:V}{F:List Addr}(h:Rp K H (.int i) v F):v= .int i:=by simp only[Rp]at h;exact h.1
theorem Rp.Qiy{K:PySem.W.Frag}{H:Hp}{i:Bool}{v:V}{F:List Addr}(h:Rp K H (.bl i) v F):v= .bl i:=by simp only[Rp]at h;exact h.1
theorem Rp.QlX{K:PySem.W.Frag}{H:Hp}{v:V}{F:List Addr}(h:Rp K H .non v F):v= .non:=by simp only[Rp]at h;exact h.1
theorem Rp.str_inv{K:PySem.W.Frag}{H:Hp}{i:Str}{v:V}{F:List Addr}(h:Rp K H (.str i) v F):v= .str i:=by simp only[Rp]at h;exact h.1
theorem Rp.int_mk{K:PySem.W.Frag}{H:Hp}{i:Int}:Rp K H (.int i) (.int i) []:=by simp[Rp]
theorem Rp.Qew{K:PySem.W.Frag}{H:Hp}{i:Bool}:Rp K H (.bl i) (.bl i) []:=by simp[Rp]
theorem Rp.QkB{K:PySem.W.Frag}{H:Hp}:Rp K H .non .non []:=by simp[Rp]
theorem Rp.str_mk{K:PySem.W.Frag}{H:Hp}{i:Str}:Rp K H (.str i) (.str i) []:=by simp[Rp]
theorem QbZ{H:Hp}{p:Addr}{o:HO}(h:H p=none):QU H (L2.upd H p o):=λb u e=>by rw[QZ (Qcd e h)];exact e
end
end HS
namespace HS
open PySem PySem.Spec L2
noncomputable abbrev En:=List (Option (D×Bool))
structure R where
 d:D
 fr:Bool
 M:List Nat
structure RA where
 ds:List D
 fr:Bool
 M:List Nat
noncomputable abbrev DE:=En->Option R
noncomputable abbrev DA:=En->Option RA
noncomputable abbrev DT:=En->Option Bool
structure Rel (K:PySem.W.Frag) (H0:Hp) (A0:List Addr) (hs:List (V×D×List Addr)) (ρ:En) (F:Nat->List Addr) (σ:St) (H:Hp):Prop where
 len:ρ.length=σ.length
 val:∀(i:Nat) d b,ρ[i]? =some (some (d,b))->∃v,σ[i]? =some (some v)/\Rp K H d v (F i)
 own:∀(i:Nat) d,ρ[i]? =some (some (d,true))->(F i).length=d.nl/\(F i).Nodup/\(∀a∈F i,H0 a=none)/\(∀(j:Nat) d' b',j≠i->ρ[j]? =some (some (d',b'))->∀a∈F i,a∉F j)/\∀t∈hs,∀a∈F i,a∉t.2.2
 src:∀(i:Nat) d b,ρ[i]? =some (some (d,b))->∀a∈F i,H0 a=none∨a∈A0
 held:∀t∈hs,Rp K H t.2.1 t.1 t.2.2/\∀a∈t.2.2,H0 a=none∨a∈A0
 same:QU H0 H
def Src(ρ:En)(F:Nat->List Addr)(H:Hp)(M:List Nat)(G:List Addr):Prop:=
 ∀a∈G,H a=none∨∃(i:Nat) (d:D) (b:Bool),ρ[i]? =some (some (d,b))/\a∈F i/\(b=true->i∈M)
noncomputable def nw(H:Hp)(a:Addr):Nat:=match H a with | none=>1 | some _=>0
def Cnt(F:Nat->List Addr)(H:Hp)(M:List Nat)(G:List Addr):Prop:=
 ∀a,G.count a<=nw H a+((M.map F).flatten).count a
def QbI(ρ:En)(M:List Nat):Prop:=∀i∈M,∃d,ρ[i]? =some (some (d,true))
structure Qag (K:PySem.W.Frag) (ρ:En) (F:Nat->List Addr) (H H':Hp) (r:R) (v:V) (G:List Addr):Prop where
 same:QU H H'
 rp:Rp K H' r.d v G
 src:Src ρ F H r.M G
 cnt:r.fr=true->Cnt F H r.M G/\G.length=r.d.nl
 own:QbI ρ r.M
structure QAu (K:PySem.W.Frag) (ρ:En) (F:Nat->List Addr) (H H':Hp) (r:RA) (vs:List V) (G:List Addr):Prop where
 same:QU H H'
 rp:Rps K H' r.ds vs G
 src:Src ρ F H r.M G
 cnt:r.fr=true->Cnt F H r.M G/\G.length=nls r.ds
 own:QbI ρ r.M
noncomputable def tV(K:PySem.W.Frag)(H0:Hp)(A0:List Addr)(f:DE):TE:=λσ H Q=>∃ρ hs F r,Rel K H0 A0 hs ρ F σ H/\f ρ=some r/\∀v H' G,Qag K ρ F H H' r v G->Q v H'
noncomputable def tVA(K:PySem.W.Frag)(H0:Hp)(A0:List Addr)(f:DA):TA:=λσ H Q=>∃ρ hs F r,Rel K H0 A0 hs ρ F σ H/\f ρ=some r/\∀v H' G,QAu K ρ F H H' r v G->Q v H'
noncomputable def tVT(K:PySem.W.Frag)(H0:Hp)(A0:List Addr)(f:DT):TT:=λσ H Q=>∃ρ hs F b,Rel K H0 A0 hs ρ F σ H/\f ρ=some b/\∀H',QU H H'->Q b H'
def SE(X:Cx)(e:Expr)(f:DE):Prop:=∀H0 A0,PE X e (tV X.K H0 A0 f)
def SA(X:Cx)(es:List Expr)(f:DA):Prop:=∀H0 A0,PA X es (tVA X.K H0 A0 f)
def ST(X:Cx)(e:Expr)(f:DT):Prop:=∀H0 A0,PT X e (tVT X.K H0 A0 f)
theorem _root_.L2.PE.mono{X:Cx}{e:Expr}{t t':TE}(h:PE X e t)(m:∀σ H Q,t' σ H Q->t σ H Q):PE X e t':=λpins s σ H Q I q=>h pins s σ H Q I (m σ H Q q)
theorem _root_.L2.PT.mono{X:Cx}{e:Expr}{t t':TT}(h:PT X e t)(m:∀σ H Q,t' σ H Q->t σ H Q):PT X e t':=λpins s σ H Q I q=>h pins s σ H Q I (m σ H Q q)
theorem _root_.L2.PA.mono{X:Cx}{e:List Expr}{t t':TA}(h:PA X e t)(m:∀σ H Q,t' σ H Q->t σ H Q):PA X e t':=λpos pins s σ H Q I q=>h pos pins s σ H Q I (m σ H Q q)
section
variable {K:PySem.W.Frag}{H0 H H':Hp}{A0:List Addr}{hs:List (V×D×List Addr)}{ρ:En}{F:Nat->List Addr}{σ:St}
theorem Rel.ext(r:Rel K H0 A0 hs ρ F σ H)(s:QU H H'):Rel K H0 A0 hs ρ F σ H' where
 len:=r.len
 val:=λi d b e=>let ⟨v,h1,h2⟩:=r.val i d b e;⟨v,h1,h2.same s⟩
 own:=r.own
 src:=r.src
 held:=λt ht=>⟨(r.held t ht).1.same s,(r.held t ht).2⟩
 same:=r.same.trans s
theorem Rel.mem(r:Rel K H0 A0 hs ρ F σ H){i:Nat}{d:D}{b:Bool}(e:ρ[i]? =some (some (d,b))){a:Addr}(h:a∈F i):∃vs,H a=some (.lst vs):=
 let ⟨_,_,h2⟩:=r.val i d b e;h2.mem a h
theorem QdR{a:Addr}{o:HO}(h:H a=some o):nw H a=0:=by simp[nw,h]
theorem QbS{a:Addr}(h:H a=none):nw H a=1:=by simp[nw,h]
theorem Rel.fl0(r:Rel K H0 A0 hs ρ F σ H){M:List Nat}(ow:QbI ρ M){a:Addr}(h:H a=none):((M.map F).flatten).count a=0:=by
 rw[ZQ]
 intro hm
 obtain⟨l,hl,ha⟩:=ZbB.mp hm
 obtain⟨i,hi,rfl⟩:=ZS.mp hl
 obtain⟨d,e⟩:=ow i hi
 obtain⟨vs,q⟩:=r.mem e ha
 rw[h]at q;cases q
theorem Cnt.append(r:Rel K H0 A0 hs ρ F σ H){H1:Hp}{M1 M2:List Nat}{G1 G2:List Addr}(c1:Cnt F H M1 G1)(c2:Cnt F H1 M2 G2)(s:QU H H1)(m1:∀a∈G1,∃vs,H1 a=some (.lst vs)):Cnt F H (M1++M2) (G1++G2):=λa=>by
 rw[Zau,ZZ,List.flatten_append,Zau]
 have h1:=c1 a
 have h2:=c2 a
 cases q:H1 a with
 | some o=>rw[QdR q]at h2;omega
 | none=>
  rw[QbS q]at h2
  have h3:H a=none:=s.free q
  rw[QbS h3]at h1 ⊢
  have h4:G1.count a=0:=ZQ.mpr λhm=>by obtain⟨vs,z⟩:=m1 a hm;rw[q]at z;cases z
  omega
theorem Src.append{H1:Hp}{M1 M2:List Nat}{G1 G2:List Addr}(c1:Src ρ F H M1 G1)(c2:Src ρ F H1 M2 G2)(s:QU H H1):Src ρ F H (M1++M2) (G1++G2):=λa ha=>by
 rcases ZC.mp ha with h | h
 ·rcases c1 a h with z | ⟨i,d,b,e,m,w⟩
  ·exact .inl z
  ·exact .inr ⟨i,d,b,e,m,λhb=>Zd _ (w hb)⟩
 ·rcases c2 a h with z | ⟨i,d,b,e,m,w⟩
  ·exact .inl (s.free z)
  ·exact .inr ⟨i,d,b,e,m,λhb=>Zb _ (w hb)⟩
theorem QbI.append{M1 M2:List Nat}(h1:QbI ρ M1)(h2:QbI ρ M2):QbI ρ (M1++M2):=λi hi=>(ZC.mp hi).elim (h1 i) (h2 i)
theorem QbI.nil:QbI ρ []:=λi hi=>by simp at hi
theorem Src.nil{M:List Nat}:Src ρ F H M []:=λa ha=>by simp at ha
theorem Cnt.nil{M:List Nat}:Cnt F H M []:=λa=>by simp
theorem Qag.flat{d:D}{v:V}(s:QU H H')(r:Rp K H' d v [])(hf:d.flat=true:=by rfl):Qag K ρ F H H' ⟨d,true,[]⟩ v []:=⟨s,r,Src.nil,λ_=>⟨Cnt.nil,(Qe0 d hf).symm⟩,QbI.nil⟩
theorem Qag.sub{r:R}{v u:V}{d:D}{G G':List Addr}{H1:Hp}(p:Qag K ρ F H H1 r v G)(rp:Rp K H1 d u G')(hs:∀a,G'.count a<=G.count a)(hn:G.length=r.d.nl->G'.length=d.nl):Qag K ρ F H H1 ⟨d,r.fr,r.M⟩ u G' where
 same:=p.same
 rp:=rp
 src:=λa ha=>p.src a (by
  have:=hs a
  have h1:0<G'.count a:=Zai.mpr ha
  exact Zai.mp (by omega))
 cnt:=λh=>⟨λa=>Zi (hs a) ((p.cnt h).1 a),hn (p.cnt h).2⟩
 own:=p.own
noncomputable def R.norm(r:R):R:=if r.d.flat then⟨r.d,true,[]⟩else r
theorem R.QcX(r:R):r.norm.d=r.d:=by unfold R.norm;split<;>rfl
theorem Qag.norm{r:R}{v:V}{G:List Addr}(p:Qag K ρ F H H' r v G):Qag K ρ F H H' r.norm v G:=by
 unfold R.norm
 split
 ·rename_i h
  have:=p.rp.QcJ h
  subst this
  exact .flat p.same p.rp h
 ·exact p
end
noncomputable def Qa(i:Nat):DE:=λρ=>match ρ[i]? with
 | some (some (d,b))=>if d.flat then some ⟨d,true,[]⟩else if b then some ⟨d,true,[i]⟩else some ⟨d,false,[]⟩
 | _=>none
noncomputable def dC(d:D):DE:=λ_=>some ⟨d,true,[]⟩
section
variable {X:Cx}
theorem Qep{i:Nat}{x:Str}{pos:Pos}(h:PE X (.Name x pos) (Qf1 i)):SE X (.Name x pos) (Qa i):=λH0 A0=>h.mono λσ H Q ⟨ρ,hs,F,r,rel,e,q⟩=>by
 unfold Qa at e
 split at e
 ·rename_i d b q1
  obtain⟨v,h1,h2⟩:=rel.val i d b q1
  refine⟨v,h1,q v H (F i) ?_⟩
  split at e
  ·rename_i hf
   cases e
   have:=h2.QcJ hf
   rw[this]at h2 ⊢
   exact .flat (QU.refl _) h2 hf
  ·split at e
   ·rename_i hb
    cases e
    subst hb
    exact⟨QU.refl _,h2,λa ha=> .inr ⟨i,d,true,q1,ha,λ_=>by simp⟩,λ_=>⟨λa=>(by simp),(rel.own i d q1).1⟩,λj hj=>by simp at hj;subst hj;exact⟨d,q1⟩⟩
   ·rename_i hb
    cases e
    simp at hb
    subst hb
    exact⟨QU.refl _,h2,λa ha=> .inr ⟨i,d,false,q1,ha,λz=>by cases z⟩,λz=>(by cases z),QbI.nil⟩
 ·cases e
theorem Qof{e:Expr}{d:D}{v:V}(h:PE X e (tC v))(r:∀K H,Rp K H d v [])(hf:d.flat=true):SE X e (dC d):=λH0 A0=>h.mono λσ H Q ⟨ρ,hs,F,r',rel,e,q⟩=>by
 cases e
 exact q v H [] (.flat (QU.refl _) (r _ _) hf)
theorem two{K:PySem.W.Frag}{H0:Hp}{A0:List Addr}{fa fb:DE}{σ:St}{H:Hp}{hs:List (V×D×List Addr)}{ρ:En}{F:Nat->List Addr}{ra rb:R}{Rr:V->V->Hp->Prop}(rel:Rel K H0 A0 hs ρ F σ H)(ea:fa ρ=some ra)(eb:fb ρ=some rb)
  (k:∀x y H1 H2 G1 G2,Qag K ρ F H H1 ra x G1->Qag K ρ F H1 H2 rb y G2->Rr x y H2):tV K H0 A0 fa σ H λx H1=>tV K H0 A0 fb σ H1 λy H2=>Rr x y H2:=
 ⟨ρ,hs,F,ra,rel,ea,λx H1 G1 p1=>⟨ρ,hs,F,rb,rel.ext p1.same,eb,λy H2 G2 p2=>k x y H1 H2 G1 G2 p1 p2⟩⟩
noncomputable def dOp(g:D->D->Option D)(fa fb:DE):DE:=λρ=>(fa ρ).bind λra=>(fb ρ).bind λrb=>(g ra.d rb.d).map λd=>⟨d,true,[]⟩
theorem QlL{g:D->D->Option D}{fa fb:DE}{ρ:En}{r:R}(e:dOp g fa fb ρ=some r):∃ra rb d,fa ρ=some ra/\fb ρ=some rb/\g ra.d rb.d=some d/\r=⟨d,true,[]⟩:=by
 unfold dOp at e
 cases h1:fa ρ with
 | none=>rw[h1]at e;cases e
 | some ra=>
  cases h2:fb ρ with
  | none=>rw[h1,h2]at e;cases e
  | some rb=>
   rw[h1,h2]at e
   cases h3:g ra.d rb.d with
   | none=>simp[h3]at e
   | some d=>simp[h3]at e;exact⟨ra,rb,d,rfl,rfl,h3,e.symm⟩
def Qco(K:PySem.W.Frag)(g:D->D->Option D)(r:R2):Prop:=∀a b d,g a b=some d->d.flat=true/\∀H x y F G (Q:VK),Rp K H a x F->Rp K H b y G->(∀v,(∀H',Rp K H' d v [])->Q v H)->r x y H Q
theorem Qi8{a b:Expr}{op:Operator}{pos:Pos}{fa fb:DE}{g:D->D->Option D}{r:R2}(ho:OpR X (binaryOp op) r)(hg:Qco X.K g r)(ha:SE X a fa)(hb:SE X b fb):SE X (.BinOp a op b pos) (dOp g fa fb):=λH0 A0=>
 (QrH ho (ha H0 A0) (hb H0 A0)).mono λσ H Q ⟨ρ,hs,F,r',rel,e,q⟩=>by
  obtain⟨ra,rb,d,ea,eb,eg,rfl⟩:=QlL e
  refine two rel ea eb λx y H1 H2 G1 G2 p1 p2=>(hg _ _ _ eg).2 H2 x y G1 G2 Q (p1.rp.same p2.same) p2.rp λv hv=>?_
  exact q v H2 [] (.flat (p1.same.trans p2.same) (hv H2) (hg _ _ _ eg).1)
theorem QyD{a b:Expr}{op:CmpOp}{pos:Pos}{fa fb:DE}{g:D->D->Option D}{r:R2}(ho:OpR X (compareOp op) r)(hg:Qco X.K g r)(ha:SE X a fa)(hb:SE X b fb)(hm:behindInMarks op b=false):SE X (.Compare a [op] [b] pos) (dOp g fa fb):=λH0 A0=>
 (QxQ ho (ha H0 A0) (hb H0 A0) hm).mono λσ H Q ⟨ρ,hs,F,r',rel,e,q⟩=>by
  obtain⟨ra,rb,d,ea,eb,eg,rfl⟩:=QlL e
  refine two rel ea eb λx y H1 H2 G1 G2 p1 p2=>(hg _ _ _ eg).2 H2 x y G1 G2 Q (p1.rp.same p2.same) p2.rp λv hv=>?_
  exact q v H2 [] (.flat (p1.same.trans p2.same) (hv H2) (hg _ _ _ eg).1)
end
end HS
namespace HS
open PySem PySem.Spec L2
noncomputable def QeU(i j:Int):Int:=if 0<=j then i / j else i.fdiv j
noncomputable def Qd6(i j:Int):Int:=if 0<=j then i % j else i.fmod j
theorem Qmk(i j:Int):QeU i j=i.fdiv j:=by
 unfold QeU;split
 ·rw[ZbK _ (by assumption)]
 ·rfl
theorem Qmj(i j:Int):Qd6 i j=i.fmod j:=by
 unfold Qd6;split
 ·rw[Int.fmod_eq_emod_of_nonneg _ (by assumption)]
 ·rfl
noncomputable def Qet(i j:Int):Bool:=decide (i.natAbs<2^64) || decide (j.natAbs<2^64) || (decide (Builtin.Int.intBits i<=2^20) && decide (Builtin.Int.intBits j<=2^20))
noncomputable def QdO(j:Int):Bool:=decide (j≠0) && decide (j.natAbs<2^8000)
noncomputable def gI(f:Int->Int->Option D)(a b:D):Option D:=match a,b with
 | .int i,.int j=>f i j
 | _,_=>none
noncomputable def Qa6:=gI λi j=>some (.int (i-j))
noncomputable def QbF:=gI λi j=>if QdO j then some (.int (QeU i j))else none
noncomputable def Qah:=gI λi j=>if j≠0 then some (.int (Qd6 i j))else none
noncomputable def QrU:=gI λi j=>if 0<=j then some (.int (i / 2^j.toNat))else none
noncomputable def QrC:=gI λi j=>if i.natAbs<2^64/\0<=j/\j<=64 then some (.int (i*2^j.toNat))else none
noncomputable def Qu4:=gI λi j=>some (.int (Builtin.bitAnd i j))
noncomputable def gLt:=gI λi j=>some (.bl (decide (i<j)))
noncomputable def gLe:=gI λi j=>some (.bl (decide (i<=j)))
noncomputable def gGt:=gI λi j=>some (.bl (decide (j<i)))
noncomputable def gGe:=gI λi j=>some (.bl (decide (j<=i)))
theorem QtC{f:Int->Int->Option D}{a b d:D}(h:gI f a b=some d):∃i j,a= .int i/\b= .int j/\f i j=some d:=by
 unfold gI at h
 split at h
 ·exact⟨_,_,rfl,rfl,h⟩
 ·cases h
section
variable {K:PySem.W.Frag}{X:Cx}
theorem QfM{f:Int->Int->Option D}{r:R2}(hf:∀i j d,f i j=some d->d.flat=true)(h:∀i j d,f i j=some d->∀H (Q:VK),(∀v,(∀H',Rp K H' d v [])->Q v H)->r (.int i) (.int j) H Q):Qco K (gI f) r:=λa b d e=>by
 obtain⟨i,j,rfl,rfl,ef⟩:=QtC e
 refine⟨hf i j d ef,λH x y F G Q ha hb q=>?_⟩
 rw[ha.int_inv,hb.int_inv]
 exact h i j d ef H Q q
theorem QsW:Qco K Qa6 (rI0 λi j=> .int (i-j)):=QfM (λi j d e=>by cases e;rfl) λi j d e H Q q=>by cases e;exact⟨i,j,rfl,rfl,q _ λ_=> .int_mk⟩
theorem QuR{i j:Int}(h:Qet i j=true):IntMulOk i j:=by
 have small:∀k:Int,k.natAbs<2^64->Builtin.Int.intBits k<=64:=λk hk=>by
  unfold Builtin.Int.intBits
  split
  ·omega
  ·rename_i h0;have h0':k.natAbs≠0:=λz=>by simp_all
   have:=(Nat.log2_lt h0').mpr hk;omega
 unfold Qet at h
 simp only[Zch,Zj,decide_eq_true_eq]at h
 rcases h with(h | h) | ⟨h1,h2⟩
 ·exact .of_left (small i h)
 ·exact .of_right (small j h)
 ·exact .of_bits h1 h2
theorem QxJ:OpR X (binaryOp .Mult) (rI (λi j=>Qet i j=true) λi j=> .int (i*j)):=opI λ_ _ _ _ _ _ _ hc q=>PyProof.Rows.mul_int q (QuR hc)
theorem QxA:OpR X (binaryOp .FloorDiv) (rI (λi j=>QdO j=true) λi j=> .int (QeU i j)):=opI λi j _ _ _ _ _ hc q=>by
 unfold QdO at hc
 simp only[Zj,decide_eq_true_eq]at hc
 rw[Qmk]at q
 refine PyProof.Rows.floordiv_int hc.1 q (.inl (ZbQ ?_))
 have h0:j.natAbs≠0:=by omega
 exact ZbJ ((Nat.log2_lt h0).mpr hc.2) (by decide)
theorem Qxy:OpR X (binaryOp .Mod) (rI (λi j=>j≠0) λi j=> .int (Qd6 i j)):=opI λi j _ _ _ _ _ hc q=>by
 rw[Qmj]at q
 exact PyProof.Rows.mod_int' hc q
theorem Qyi:Qco K QbF (rI (λi j=>QdO j=true) λi j=> .int (QeU i j)):=QfM (λi j d e=>by split at e<;>cases e;rfl) λi j d e H Q q=>by
 split at e
 ·cases e;exact⟨i,j,rfl,rfl,by assumption,q _ λ_=> .int_mk⟩
 ·cases e
theorem Qyv:Qco K Qah (rI (λi j=>j≠0) λi j=> .int (Qd6 i j)):=QfM (λi j d e=>by split at e<;>cases e;rfl) λi j d e H Q q=>by
 split at e
 ·cases e;exact⟨i,j,rfl,rfl,by assumption,q _ λ_=> .int_mk⟩
 ·cases e
theorem QzB:Qco K QrU (rI (λ_ j=>0<=j) λi j=> .int (i / 2^j.toNat)):=QfM (λi j d e=>by split at e<;>cases e;rfl) λi j d e H Q q=>by
 split at e
 ·cases e;exact⟨i,j,rfl,rfl,by assumption,q _ λ_=> .int_mk⟩
 ·cases e
theorem QyS:Qco K QrC (rI L2.Qzb λi j=> .int (i*2^j.toNat)):=QfM (λi j d e=>by split at e<;>cases e;rfl) λi j d e H Q q=>by
 split at e
 ·rename_i h;cases e;exact⟨i,j,rfl,rfl,⟨h.2.1,by omega,h.1⟩,q _ λ_=> .int_mk⟩
 ·cases e
theorem QzT:Qco K Qu4 (rI0 λi j=> .int (Builtin.bitAnd i j)):=QfM (λi j d e=>by cases e;rfl) λi j d e H Q q=>by cases e;exact⟨i,j,rfl,rfl,q _ λ_=> .int_mk⟩
theorem QAI:Qco K gLt (rI0 λi j=> .bl (decide (i<j))):=QfM (λi j d e=>by cases e;rfl) λi j d e H Q q=>by cases e;exact⟨i,j,rfl,rfl,q _ λ_=> .Qew⟩
theorem QAa:Qco K gLe (rI0 λi j=> .bl (decide (i<=j))):=QfM (λi j d e=>by cases e;rfl) λi j d e H Q q=>by cases e;exact⟨i,j,rfl,rfl,q _ λ_=> .Qew⟩
theorem QAP:Qco K gGt (rI0 λi j=> .bl (decide (j<i))):=QfM (λi j d e=>by cases e;rfl) λi j d e H Q q=>by cases e;exact⟨i,j,rfl,rfl,q _ λ_=> .Qew⟩
theorem QAz:Qco K gGe (rI0 λi j=> .bl (decide (j<=i))):=QfM (λi j d e=>by cases e;rfl) λi j d e H Q q=>by cases e;exact⟨i,j,rfl,rfl,q _ λ_=> .Qew⟩
end
theorem Qdw:∀(xs ys:List D),Qak (xs++ys)=(Qak xs && Qak ys)
 | [],ys=>by simp[Qak]
 | x::xs,ys=>by simp[Qak,Qdw xs ys,Bool.and_assoc]
noncomputable def QaQ(ds:List D)(M:List Nat):R:=if Qak ds then⟨.lst ds,true,[]⟩else⟨.lst ds,false,M⟩
section
variable {K:PySem.W.Frag}{H0 H H':Hp}{A0:List Addr}{hs:List (V×D×List Addr)}{ρ:En}{F:Nat->List Addr}{σ:L2.St}
theorem Qag.QaQ{ds:List D}{M:List Nat}{vs:List V}{G:List Addr}{H1:Hp}{p:Addr}(s:QU H H1)(hp:H1 p=none)(r:Rps K H1 ds vs G)(hz:ds.length<=sizeLine)(src:Src ρ F H M G)(ow:QbI ρ M):
  Qag K ρ F H (upd H1 p (.lst vs)) (QaQ ds M) (.ref p) (p::G):=by
 have s2:QU H1 (upd H1 p (.lst vs)):=QbZ hp
 have rp:Rp K (upd H1 p (.lst vs)) (.lst ds) (.ref p) (p::G):=Rp.Qes Qaw (r.same s2) hz
 have hH:H p=none:=s.free hp
 unfold HS.QaQ
 split
 ·rename_i hf
  have:=r.QcJ hf
  subst this
  refine⟨s.trans s2,rp,λa ha=>?_,λ_=>⟨λa=>?_,by simp only[D.nl,Qj4 ds hf];rfl⟩,QbI.nil⟩
  ·have:a=p:=by simpa using ha
   subst this;exact .inl hH
  ·rw[List.count_singleton]
   split
   ·rename_i e;have e':p=a:=by simpa using e
    subst e';rw[QbS hH];omega
   ·omega
 ·refine⟨s.trans s2,rp,λa ha=>?_,λz=>(by cases z),ow⟩
  rcases Zq.mp ha with rfl | h
  ·exact .inl hH
  ·exact src a h
end
noncomputable def QQ(fa fb:DE):DE:=λρ=>(fa ρ).bind λra=>(fb ρ).bind λrb=>match ra.d,rb.d with
 | .int i,.int j=>some ⟨.int (i+j),true,[]⟩
 | .lst xs,.lst ys=>if xs.length+ys.length<=sizeLine then some (QaQ (xs++ys) (ra.M++rb.M))else none
 | _,_=>none
noncomputable def Qav(fa fb:DE):DE:=λρ=>(fa ρ).bind λra=>(fb ρ).bind λrb=>match ra.d,rb.d with
 | .int i,.int j=>if Qet i j then some ⟨.int (i*j),true,[]⟩else none
 | .lst xs,.int j=>if xs.length*j.toNat<=sizeLine/\ -(2^63)<=j/\j<2^63/\Qak xs=true then some ⟨.lst (List.replicate j.toNat xs).flatten,true,[]⟩else none
 | _,_=>none
theorem QrR{fa fb:DE}{ρ:En}{k:R->R->Option R}{r:R}(e:((fa ρ).bind λra=>(fb ρ).bind λrb=>k ra rb)=some r):∃ra rb,fa ρ=some ra/\fb ρ=some rb/\k ra rb=some r:=by
 cases h1:fa ρ with
 | none=>rw[h1]at e;cases e
 | some ra=>
  cases h2:fb ρ with
  | none=>rw[h1,h2]at e;cases e
  | some rb=>rw[h1,h2]at e;exact⟨ra,rb,rfl,rfl,e⟩
theorem bind1{α β:Type}{x:Option α}{k:α->Option β}{r:β}(e:x.bind k=some r):∃a,x=some a/\k a=some r:=by
 cases x with
 | none=>cases e
 | some a=>exact⟨a,rfl,e⟩
section
variable {X:Cx}{a b:Expr}{fa fb:DE}{pos:Pos}
noncomputable def QAx(K:PySem.W.Frag):R2:=λx y H Q=>∃l c xs zs,x= .ref l/\y= .ref c/\(H l=some (.lst xs)∨Fix K H l xs)/\(H c=some (.lst zs)∨Fix K H c zs)/\xs.length+zs.length<=sizeLine/\∀p,H p=none->Q (.ref p) (upd H p (.lst (xs++zs)))
theorem Qxj:OpR X (binaryOp .Add) (QAx X.K):=by
 intro pins s σ H x y v u Q I rx ry h
 obtain⟨l,c,xs,zs,rfl,rfl,hH,hB,hz,q⟩:=h
 cases rx
 cases ry
 obtain⟨z,its,n,r,hl,e⟩:=I.Qpr hH
 obtain⟨z2,its2,n2,r2,hl2,e2⟩:=I.Qpr hB
 refine PySem.P.add_list e e2 ?_ (by rw[Zw,Zw];omega)
 have ea:its.toArray++its2.toArray=(its++its2).toArray:=by simp
 rw[ea]
 exact⟨.ref _,_,I.QyN (t':=s.toks) (r.append r2) (by rw[Zr];omega),rfl,q _ I.fresh⟩
theorem Qyn(ha:SE X a fa)(hb:SE X b fb):SE X (.BinOp a .Add b pos) (QQ fa fb):=λH0 A0=>
 (QrH (Qy6.or Qxj) (ha H0 A0) (hb H0 A0)).mono λσ H Q ⟨ρ,hs,F,r',rel,e,q⟩=>by
  obtain⟨ra,rb,ea,eb,ek⟩:=QrR e
  refine two rel ea eb λx y H1 H2 G1 G2 p1 p2=>?_
  have p1':=p1.rp.same p2.same
  have p2':=p2.rp
  have c1:=p1.src.append p2.src p1.same
  have o1:=p1.own.append p2.own
  revert ek
  revert p1' p2'
  cases ra.d<;>cases rb.d<;>intro p1' p2' ek<;>first | (cases ek;done) | skip
  ·cases ek
   rw[p1'.int_inv,p2'.int_inv]
   exact .inl ⟨_,_,rfl,rfl,q _ H2 [] (.flat (p1.same.trans p2.same) .int_mk)⟩
  ·rename_i xs ys
   dsimp only at ek
   split at ek
   ·rename_i hz
    cases ek
    obtain⟨l,vs,L1,rfl,hl,rl,zl,el⟩:=p1'.lst_inv
    obtain⟨c,ws,L2',rfl,hc,rc,zc,ec⟩:=p2'.lst_inv
    have n1:=rl.length
    have n2:=rc.length
    refine .inr ⟨l,c,vs,ws,rfl,rfl,hl,hc,by omega,λp hp=>?_⟩
    refine q _ _ (p::(L1++L2')) (Qag.QaQ (p1.same.trans p2.same) hp (rl.append rc) (by rw[Zr];exact hz) (λa ha=>c1 a ?_) o1)
    rcases ZC.mp ha with h | h
    ·refine Zd _ ?_
     rcases el with rfl | rfl
     ·exact Ze _ h
     ·exact h
    ·refine Zb _ ?_
     rcases ec with rfl | rfl
     ·exact Ze _ h
     ·exact h
   ·cases ek
noncomputable def Qz2(K:PySem.W.Frag):R2:=λx y H Q=>∃l k xs,x= .ref l/\y= .int k/\(H l=some (.lst xs)∨Fix K H l xs)/\ -(2^63)<=k/\k<2^63/\xs.length*k.toNat<=sizeLine∧
 ∀p,H p=none->Q (.ref p) (upd H p (.lst (List.replicate k.toNat xs).flatten))
theorem Qwj:OpR X (binaryOp .Mult) (Qz2 X.K):=by
 intro pins s σ H x y v u Q I rx ry h
 obtain⟨l,k,xs,rfl,rfl,hH,h1,h2,hz,q⟩:=h
 cases rx
 obtain⟨t,rfl⟩:=ry
 obtain⟨z,its,n,r,hl,e⟩:=I.Qpr hH
 have hlen:its.toArray.size*k.toNat<=sizeLine:=by rw[Zw,← hl];exact hz
 have hcap:¬its.toArray.size*k.toNat>(2^63-1) / 8:=by
  have:(sizeLine:Nat)<=(2^63-1) / 8:=by decide
  omega
 have hfit:¬(!Builtin.List.listFitsIndex k)=true:=by
  rw[fitsIndex_both h1 h2]
  exact Zan
 have hlong:¬Builtin.List.listTooLong (its.toArray.size*k.toNat)=true:=by
  rw[Qux hlen]
  exact Zan
 have hnew:List.foldl (λx1 x2=>x1++x2) #[] (List.replicate (if its.toArray.isEmpty=true then 0 else k.toNat) its.toArray)=(List.replicate k.toNat its).flatten.toArray:=by
  have f0:∀m:Nat,List.foldl (λx1 x2=>x1++x2) #[] (List.replicate m its.toArray)=(List.replicate m its).flatten.toArray:=λm=>by
   have:=foldl_rep its m []
   rw[Zbk]at this
   exact this
  rw[f0]
  cases its with
  | nil=>simp
  | cons a r'=>rw[if_neg (by simp)]
 open PyProof.Rows in
 refine wpAny_binaryOp_repeat_ref (by decide) ⟨_,e,rfl⟩ (λs'=>typeIs_int s' k t) noFill_list_mul F.fills_int_mul F.slot_int_rmul repeat_list F.slot_int_index.lookup
  (call_meets F.slot_int_rmul (typeIs_int s k t) F.entry_int_rmul (F.args_int_rmul_2 _ _) (int___rmul___int_list k t l its.toArray n)
   ⟨e,rfl,⟨_,e,rfl⟩,call_meets F.slot_list_mul ⟨_,e,rfl⟩ F.entry_list_mul (F.args_list_mul_2 _ _) (AutoListH.list___mul___list_int_3 l its.toArray n k t hfit hcap hlong) ⟨e,?_⟩⟩)
 rw[hnew]
 exact⟨.ref _,_,I.QyN (t':=s.toks) (r.rep k.toNat) (by rw[len_rep,ZaQ];exact hz),rfl,q _ I.fresh⟩
theorem QmR{xs:List D}(h:Qak xs=true):∀n:Nat,Qak (List.replicate n xs).flatten=true
 | 0=>by simp[Qak]
 | n+1=>by rw[Zam,Zat,Qdw,h,QmR h n];rfl
theorem Rps.rep{K:PySem.W.Frag}{H:Hp}{ds:List D}{vs:List V}(h:Rps K H ds vs []):∀n:Nat,Rps K H (List.replicate n ds).flatten (List.replicate n vs).flatten []
 | 0=>by simp[Rps]
 | n+1=>by rw[Zam,Zat,Zam,Zat];exact h.append (Rps.rep h n)
theorem Qzz(ha:SE X a fa)(hb:SE X b fb):SE X (.BinOp a .Mult b pos) (Qav fa fb):=λH0 A0=>
 (QrH (QxJ.or Qwj) (ha H0 A0) (hb H0 A0)).mono λσ H Q ⟨ρ,hs,F,r',rel,e,q⟩=>by
  obtain⟨ra,rb,ea,eb,ek⟩:=QrR e
  refine two rel ea eb λx y H1 H2 G1 G2 p1 p2=>?_
  have p1':=p1.rp.same p2.same
  have p2':=p2.rp
  revert ek
  revert p1' p2'
  cases ra.d<;>cases rb.d<;>intro p1' p2' ek<;>first | (cases ek;done) | skip
  ·dsimp only at ek
   split at ek
   ·rename_i hm
    cases ek
    rw[p1'.int_inv,p2'.int_inv]
    exact .inl ⟨_,_,rfl,rfl,hm,q _ H2 [] (.flat (p1.same.trans p2.same) .int_mk)⟩
   ·cases ek
  ·rename_i xs j
   dsimp only at ek
   split at ek
   ·rename_i hz
    cases ek
    obtain⟨hz1,hz2,hz3,hf⟩:=hz
    obtain⟨l,vs,L1,rfl,hl,rl,zl,el⟩:=p1'.lst_inv
    have n1:=rl.length
    have e0:=rl.QcJ hf
    subst e0
    rw[p2'.int_inv]
    refine .inr ⟨l,j,vs,rfl,rfl,hl,hz2,hz3,by rw[← n1];exact hz1,λp hp=>?_⟩
    have w:HS.QaQ (List.replicate j.toNat xs).flatten []=⟨.lst (List.replicate j.toNat xs).flatten,true,[]⟩:=by
     unfold HS.QaQ;rw[if_pos (QmR hf _)]
    rw[← w]at q
    exact q _ _ (p::[]) (Qag.QaQ (p1.same.trans p2.same) hp (rl.rep _) (by rw[len_rep,ZaQ];exact hz1) Src.nil QbI.nil)
   ·cases ek
end
end HS
namespace HS
open PySem PySem.Spec L2
noncomputable def Qg:DA:=λ_=>some ⟨[],true,[]⟩
noncomputable def Qc(fa:DE)(fr:DA):DA:=λρ=>(fa ρ).bind λr=>(fr ρ).bind λrs=>some ⟨r.d::rs.ds,r.fr && rs.fr,r.M++rs.M⟩
noncomputable def Qat(fa:DA):DE:=λρ=>(fa ρ).bind λr=>if r.ds.length<=64 then some ⟨.tup r.ds,r.fr,r.M⟩else none
noncomputable def QaC(fa:DA):DE:=λρ=>(fa ρ).bind λr=>if r.ds.length<=64 then some ⟨.lst r.ds,r.fr,r.M⟩else none
section
variable {X:Cx}{a b e:Expr}{es:List Expr}{fa fb:DE}{fs:DA}{pos:Pos}
theorem QkX:SA X [] Qg:=λH0 A0=>QdV.mono λσ H Q ⟨ρ,hs,F,r',rel,e,q⟩=>by
 cases e
 exact q [] H [] ⟨QU.refl _,by simp[Rps],Src.nil,λ_=>⟨Cnt.nil,rfl⟩,QbI.nil⟩
theorem Qhu(ha:SE X e fa)(hr:SA X es fs)(hs:starEach (e::es) X.env=(false,eval e X.env)::starEach es X.env):SA X (e::es) (Qc fa fs):=λH0 A0=>
 (QaP (ha H0 A0) (hr H0 A0) hs).mono λσ H Q ⟨ρ,hs,F,r',rel,e,q⟩=>by
  obtain⟨r,e1,e⟩:=bind1 e
  obtain⟨rs,e2,e⟩:=bind1 e
  cases e
  refine⟨ρ,hs,F,r,rel,e1,λx H1 G1 p1=>⟨ρ,hs,F,rs,rel.ext p1.same,e2,λxs H2 G2 p2=>?_⟩⟩
  refine q _ H2 (G1++G2) ⟨p1.same.trans p2.same,?_,p1.src.append p2.src p1.same,λh=>?_,p1.own.append p2.own⟩
  ·simp only[Rps]
   exact⟨x,xs,G1,G2,rfl,rfl,p1.rp.same p2.same,p2.rp⟩
  ·simp only[Zj]at h
   exact⟨(p1.cnt h.1).1.append rel (p2.cnt h.2).1 p1.same p1.rp.mem,by simp only[nls,Zr,(p1.cnt h.1).2,(p2.cnt h.2).2]⟩
theorem Qfp{n:Nat}(h:n<=64):n<=sizeLine:=Zi h (by decide)
theorem QyO{k:Nat}(ha:SA X es fs):SE X (.Tuple es k pos) (Qat fs):=λH0 A0=>
 (QtH (ha H0 A0)).mono λσ H Q ⟨ρ,hs,F,r',rel,e,q⟩=>by
  obtain⟨r,e1,e⟩:=bind1 e
  split at e
  ·rename_i hz
   cases e
   refine⟨ρ,hs,F,r,rel,e1,λxs H1 G p=>⟨by rw[← p.rp.length];exact Qfp hz,λc hc=>q _ _ G ⟨p.same.trans (QbZ hc),Rp.QiO Qaw (p.rp.same (QbZ hc)),p.src,λh=>⟨(p.cnt h).1,by simp only[D.nl];exact(p.cnt h).2⟩,p.own⟩⟩⟩
  ·cases e
theorem Qya(ha:SA X es fs):SE X (.List es pos) (QaC fs):=λH0 A0=>
 (Qyz (ha H0 A0)).mono λσ H Q ⟨ρ,hs,F,r',rel,e,q⟩=>by
  obtain⟨r,e1,e⟩:=bind1 e
  split at e
  ·rename_i hz
   cases e
   refine⟨ρ,hs,F,r,rel,e1,λxs H1 G p=>⟨by rw[← p.rp.length];exact Qfp hz,λc hc=>?_⟩⟩
   have hH:H c=none:=p.same.free hc
   refine q _ _ (c::G) ⟨p.same.trans (QbZ hc),Rp.Qes Qaw (p.rp.same (QbZ hc)) (Qfp hz),λz hz'=>?_,λh=>⟨λz=>?_,by simp only[D.nl,ZP,(p.cnt h).2]⟩,p.own⟩
   ·rcases Zq.mp hz' with rfl | h
    ·exact .inl hH
    ·exact p.src z h
   ·rw[ZaN]
    have:=(p.cnt h).1 z
    split
    ·rename_i e'
     have e':c=z:=by simpa using e'
     subst e'
     have h0:G.count c=0:=ZQ.mpr λhm=>by obtain⟨vs,w⟩:=p.rp.mem c hm;rw[hc]at w;cases w
     rw[QbS hH];omega
    ·exact this
  ·cases e
noncomputable def D.items:D->Option (List D)
 | .lst xs=>some xs
 | .tup xs=>some xs
 | _=>none
noncomputable def Qr(fa fb:DE):DE:=λρ=>(fa ρ).bind λra=>(fb ρ).bind λrb=>match rb.d with
 | .int i=>(ra.d.items).bind λxs=>(atI xs i).map λd=>(R.norm ⟨d,ra.fr,ra.M⟩)
 | _=>none
theorem Qwo{α β:Type}{xs:List α}{i:Int}{d:α}(h:atI xs i=some d):∃j:Nat,xs[j]? =some d/\∀(ys:List β),ys.length=xs.length->∀y,ys[j]? =some y->atI ys i=some y:=by
 unfold atI at h
 cases e:ixN xs.length i with
 | none=>rw[e]at h;cases h
 | some j=>
  rw[e]at h
  refine⟨j,h,λys hl y hy=>?_⟩
  unfold atI
  rw[hl,e]
  exact hy
theorem Qyw(ha:SE X a fa)(hb:SE X b fb)(hs:QiS b):SE X (.Subscript a b pos) (Qr fa fb):=λH0 A0=>
 (QvY (QqD.or QsB) (ha H0 A0) (hb H0 A0) hs).mono λσ H Q ⟨ρ,hs,F,r',rel,e,q⟩=>by
  obtain⟨ra,rb,ea,eb,ek⟩:=QrR e
  refine two rel ea eb λx y H1 H2 G1 G2 p1 p2=>?_
  have p1':=p1.rp.same p2.same
  have p2':=p2.rp
  have pp:Qag X.K ρ F H H2 ra x G1:=⟨p1.same.trans p2.same,p1',p1.src,p1.cnt,p1.own⟩
  cases hb':rb.d with
  | int i=>
   rw[hb']at ek p2'
   rw[p2'.int_inv]
   obtain⟨xs,ex,ek⟩:=bind1 ek
   obtain⟨d,ed,ek⟩:=Zf.mp ek
   subst ek
   obtain⟨j,hj,hm⟩:=Qwo ed
   have fin:∀(L:List Addr) (vs:List V),Rps X.K H2 xs vs L->(∀z,L.count z<=G1.count z)->(G1.length=ra.d.nl->L.length=nls xs)->∃v,atI vs i=some v/\Q v H2:=λL vs rl hc hn=>by
    obtain⟨v,F1,G,F2,hv,eF,rv,hx⟩:=rl.get hj
    refine⟨v,hm vs rl.length.symm v hv,q v H2 G (Qag.norm (Qag.sub pp rv (λz=>Zi ?_ (hc z)) λz=>hx (hn z)))⟩
    rw[eF,Zau,Zau];omega
   cases hra:ra.d with
   | lst ys=>
    rw[hra]at ex p1'
    cases ex
    obtain⟨l,vs,L,rfl,hl,rl,zl,el⟩:=p1'.lst_inv
    have hn:G1.length=ra.d.nl->L.length=nls xs:=λhz=>by
     have:=rl.QaM
     simp only[hra,D.nl]at hz
     rcases el with rfl | rfl
     ·rw[ZP]at hz;omega
     ·omega
    have hc:∀z,L.count z<=G1.count z:=λz=>by
     rcases el with rfl | rfl
     ·rw[ZaN];omega
     ·exact Zh _
    obtain⟨v,h1,h2⟩:=fin L vs rl hc hn
    exact .inl ⟨l,vs,i,v,rfl,rfl,Qap hl,h1,h2⟩
   | tup ys=>
    rw[hra]at ex p1'
    cases ex
    obtain⟨l,vs,rfl,hl,rl⟩:=p1'.QbQ
    obtain⟨v,h1,h2⟩:=fin G1 vs rl (λz=>Zh _) λz=>(by simpa only[hra,D.nl]using z)
    exact .inr ⟨l,vs,i,v,rfl,rfl,hl,h1,h2⟩
   | _=>rw[hra]at ex;cases ex
  | _=>rw[hb']at ek;cases ek
noncomputable abbrev DO:=En->Option (Option Int)
noncomputable def Qbv:DO:=λ_=>some none
noncomputable def Qbw(f:DE):DO:=λρ=>(f ρ).bind λr=>match r.d with
 | .int i=>some (some i)
 | _=>none
noncomputable def tVO(K:PySem.W.Frag)(H0:Hp)(A0:List Addr)(f:DO):TO:=λσ H Q=>∃ρ hs F o,Rel K H0 A0 hs ρ F σ H/\f ρ=some o/\∀H',QU H H'->Q o H'
def SO(X:Cx)(e:Option Expr)(f:DO):Prop:=∀H0 A0,PO X e (tVO X.K H0 A0 f)
theorem _root_.L2.PO.mono{X:Cx}{e:Option Expr}{t t':TO}(h:PO X e t)(m:∀σ H Q,t' σ H Q->t σ H Q):PO X e t':=by
 intro pins s σ H Q I q
 exact h pins s σ H Q I (m σ H Q q)
theorem QxF:SO X none Qbv:=λH0 A0=>QxO.mono λσ H Q ⟨ρ,hs,F,o,rel,e,q⟩=>by
 cases e
 exact q H (QU.refl _)
theorem QwZ(h:SE X a fa):SO X (some a) (Qbw fa):=λH0 A0=>(Qxe (h H0 A0)).mono λσ H Q ⟨ρ,hs,F,o,rel,e,q⟩=>by
 obtain⟨r,e1,e⟩:=bind1 e
 refine⟨ρ,hs,F,r,rel,e1,λv H1 G p=>?_⟩
 have rp:=p.rp
 cases hr:r.d with
 | int i=>
  rw[hr]at e rp
  cases e
  exact⟨i,rp.int_inv,q H1 p.same⟩
 | _=>rw[hr]at e;cases e
noncomputable def cutD(xs:List D)(lo hi:Option Int):List D:=(xs.drop (HT.sIx xs.length 0 lo)).take (HT.sIx xs.length xs.length hi-HT.sIx xs.length 0 lo)
noncomputable def QcI(fa:DE)(lo hi:DO):DE:=λρ=>(fa ρ).bind λra=>(lo ρ).bind λl=>(hi ρ).bind λh=>match ra.d with
 | .lst xs=>some (QaQ (cutD xs l h) ra.M)
 | _=>none
theorem Rps.drop:∀{ds:List D}{vs:List V}{F:List Addr}{K:PySem.W.Frag}{H:Hp}(n:Nat),Rps K H ds vs F->∃G,Rps K H (ds.drop n) (vs.drop n) G/\∀a∈G,a∈F
 | [],vs,F,K,H,n,h=>by simp only[Rps]at h;rw[h.1,h.2];exact⟨[],by simp[Rps],λ_ h=>h⟩
 | d::ds,vs,F,K,H,0,h=>⟨F,by simpa using h,λ_ h=>h⟩
 | d::ds,vs,F,K,H,n+1,h=>by
  simp only[Rps]at h
  obtain⟨v,ws,F1,F2,e,eF,r,q⟩:=h
  subst e eF
  obtain⟨G,h1,h2⟩:=Rps.drop n q
  exact⟨G,by simpa using h1,λa ha=>Zb _ (h2 a ha)⟩
theorem Rps.take:∀{ds:List D}{vs:List V}{F:List Addr}{K:PySem.W.Frag}{H:Hp}(n:Nat),Rps K H ds vs F->∃G,Rps K H (ds.take n) (vs.take n) G/\∀a∈G,a∈F
 | [],vs,F,K,H,n,h=>by simp only[Rps]at h;rw[h.1,h.2];exact⟨[],by simp[Rps],λ_ h=>h⟩
 | d::ds,vs,F,K,H,0,h=>⟨[],by simp[Rps],λ_ h=>by simp at h⟩
 | d::ds,vs,F,K,H,n+1,h=>by
  simp only[Rps]at h
  obtain⟨v,ws,F1,F2,e,eF,r,q⟩:=h
  subst e eF
  obtain⟨G,h1,h2⟩:=Rps.take n q
  refine⟨F1++G,?_,λa ha=>?_⟩
  ·simp only[List.take_succ_cons,Rps]
   exact⟨v,_,F1,G,rfl,rfl,r,h1⟩
  ·rcases ZC.mp ha with h | h
   ·exact Zd _ h
   ·exact Zb _ (h2 a h)
theorem Qyk{lo hi:Option Expr}{fl fh:DO}{p2:Pos}(ha:SE X a fa)(hl:SO X lo fl)(hh:SO X hi fh):SE X (.Subscript a (.Slice lo hi none p2) pos) (QcI fa fl fh):=λH0 A0=>
 (QtT Qws (ha H0 A0) (hl H0 A0) (hh H0 A0)).mono λσ H Q ⟨ρ,hs,F,r',rel,e,q⟩=>by
  obtain⟨ra,e1,e⟩:=bind1 e
  obtain⟨l,e2,e⟩:=bind1 e
  obtain⟨h,e3,e⟩:=bind1 e
  refine⟨ρ,hs,F,ra,rel,e1,λx H1 G1 p1=>⟨ρ,hs,F,l,rel.ext p1.same,e2,λH2 s2=>⟨ρ,hs,F,h,(rel.ext p1.same).ext s2,e3,λH3 s3=>?_⟩⟩⟩
  have rp:=p1.rp.same (s2.trans s3)
  cases hra:ra.d with
  | lst xs=>
   rw[hra]at e rp
   cases e
   obtain⟨c,vs,L,rfl,hc,rl,zl,el⟩:=rp.lst_inv
   refine⟨c,vs,rfl,Qap hc,λp hp=>?_⟩
   obtain⟨G2,h2,m2⟩:=rl.drop (HT.sIx xs.length 0 l)
   obtain⟨G3,h3,m3⟩:=h2.take (HT.sIx xs.length xs.length h-HT.sIx xs.length 0 l)
   have n1:=rl.length
   rw[show Qlr vs l h=(vs.drop (HT.sIx xs.length 0 l)).take (HT.sIx xs.length xs.length h-HT.sIx xs.length 0 l) by unfold Qlr;rw[n1]]
   refine q _ _ (p::G3) (Qag.QaQ (p1.same.trans (s2.trans s3)) hp h3 ?_ (λz hz=>p1.src z ?_) p1.own)
   ·unfold cutD;rw[ZbA,List.length_drop];omega
   ·have:=m2 z (m3 z hz)
    rcases el with rfl | rfl
    ·exact Ze _ this
    ·exact this
  | _=>rw[hra]at e;cases e
noncomputable def dBf(g:List D->Option D)(fs:DA):DE:=λρ=>(fs ρ).bind λr=>(g r.ds).map λd=>⟨d,true,[]⟩
def Qhs(K:PySem.W.Frag)(g:List D->Option D)(r:List V->Hp->VK->Prop):Prop:=∀ds d,g ds=some d->d.flat=true/\∀H vs F (Q:VK),Rps K H ds vs F->(∀v,(∀H',Rp K H' d v [])->Q v H)->r vs H Q
theorem QkA{x:Str}{id:String}{g:List D->Option D}{r:List V->Hp->VK->Prop}{p:Pos}(hc:QcO X (.builtin id) r)(hk:Qhs X.K g r)(hg:Gl X x)(hm:X.mg x=none)(hv:bootBuiltins x=some (.builtin id))(ha:SA X (e::es) fs)(hn:x≠ "__name__")(hdb:(x == ("__debug__" :Str))=false)
  (he:starEach (e::es) X.env=(false,eval e X.env)::starEach es X.env) (hpl:(backTo pos (starEach es X.env)).any (·.1)=false):SE X (.Call (.Name x p) (e::es) [] pos) (dBf g fs):=λH0 A0=>
 (QoR hc hg hm hv (ha H0 A0) hn hdb he hpl).mono λσ H Q ⟨ρ,hs,F,r',rel,e,q⟩=>by
  obtain⟨ra,e1,e⟩:=bind1 e
  obtain⟨d,ed,e⟩:=Zf.mp e
  subst e
  exact⟨ρ,hs,F,ra,rel,e1,λvs H1 G p1=>(hk _ _ ed).2 H1 vs G Q p1.rp λv hv=>q v H1 [] (.flat p1.same (hv _) (hk _ _ ed).1)⟩
theorem Rps.one{K:PySem.W.Frag}{H:Hp}{d:D}{vs:List V}{F:List Addr}(h:Rps K H [d] vs F):∃v,vs=[v]/\Rp K H d v F:=by
 simp only[Rps]at h
 obtain⟨v,ws,F1,F2,rfl,rfl,r,rfl,rfl⟩:=h
 exact⟨v,rfl,by simpa using r⟩
theorem Rps.two{K:PySem.W.Frag}{H:Hp}{d e:D}{vs:List V}{F:List Addr}(h:Rps K H [d,e] vs F):∃v w F1 F2,vs=[v,w]/\Rp K H d v F1/\Rp K H e w F2:=by
 simp only[Rps]at h
 obtain⟨v,ws,F1,F2,rfl,rfl,r,w,ws',F3,F4,rfl,rfl,r2,rfl,rfl⟩:=h
 exact⟨v,w,F1,F3,rfl,r,r2⟩
noncomputable def QaD:List D->Option D
 | [.lst xs]=>some (.int xs.length)
 | [.tup xs]=>some (.int xs.length)
 | _=>none
theorem QyB{K:PySem.W.Frag}:Qhs K QaD (λxs H Q=>∃p ys,xs=[.ref p]/\(SqL K H p ys∨SqT K H p ys)/\Q (.int ys.length) H):=λds d e=>by
 unfold QaD at e
 split at e
 ·cases e
  refine⟨rfl,λH vs F Q r q=>?_⟩
  obtain⟨v,rfl,rp⟩:=r.one
  obtain⟨l,ws,L,rfl,hl,rl,zl,el⟩:=rp.lst_inv
  exact⟨l,ws,rfl,.inl (Qap hl),by rw[← rl.length];exact q _ λ_=> .int_mk⟩
 ·cases e
  refine⟨rfl,λH vs F Q r q=>?_⟩
  obtain⟨v,rfl,rp⟩:=r.one
  obtain⟨l,ws,rfl,hl,rl⟩:=rp.QbQ
  exact⟨l,ws,rfl,.inr hl,by rw[← rl.length];exact q _ λ_=> .int_mk⟩
 ·cases e
noncomputable def QgA:List D->Option D
 | [.int i,.int j]=>some (.int (if j<i then j else i))
 | _=>none
noncomputable def Qgw:List D->Option D
 | [.int i,.int j]=>some (.int (if j>i then j else i))
 | _=>none
noncomputable def Qis:List D->Option D
 | [.int i]=>some (.int (if i<0 then-i else i))
 | _=>none
theorem Qwx{K:PySem.W.Frag}:Qhs K QgA (λxs H Q=>∃i j,xs=[.int i,.int j]/\Q (.int (if j<i then j else i)) H):=λds d e=>by
 unfold QgA at e
 split at e
 ·cases e
  refine⟨rfl,λH vs F Q r q=>?_⟩
  obtain⟨v,w,F1,F2,rfl,r1,r2⟩:=r.two
  exact⟨_,_,by rw[r1.int_inv,r2.int_inv],q _ λ_=> .int_mk⟩
 ·cases e
theorem QwR{K:PySem.W.Frag}:Qhs K Qgw (λxs H Q=>∃i j,xs=[.int i,.int j]/\Q (.int (if j>i then j else i)) H):=λds d e=>by
 unfold Qgw at e
 split at e
 ·cases e
  refine⟨rfl,λH vs F Q r q=>?_⟩
  obtain⟨v,w,F1,F2,rfl,r1,r2⟩:=r.two
  exact⟨_,_,by rw[r1.int_inv,r2.int_inv],q _ λ_=> .int_mk⟩
 ·cases e
theorem QyH{K:PySem.W.Frag}:Qhs K Qis (λxs H Q=>∃i,xs=[.int i]/\Q (.int (if i<0 then-i else i)) H):=λds d e=>by
 unfold Qis at e
 split at e
 ·cases e
  refine⟨rfl,λH vs F Q r q=>?_⟩
  obtain⟨v,rfl,r1⟩:=r.one
  exact⟨_,by rw[r1.int_inv],q _ λ_=> .int_mk⟩
 ·cases e
noncomputable def dList(fs:DA):DE:=λρ=>(fs ρ).bind λr=>match r.ds with
 | [.lst xs]=>some (QaQ xs r.M)
 | [.tup xs]=>if xs.length<=sizeLine then some (QaQ xs r.M)else none
 | _=>none
theorem QwB{p:Pos}(hg:Gl X "list")(hm:X.mg "list" =none)(ha:SA X (e::es) fs)(he:starEach (e::es) X.env=(false,eval e X.env)::starEach es X.env)(hpl:(backTo pos (starEach es X.env)).any (·.1)=false):
  SE X (.Call (.Name "list" p) (e::es) [] pos) (dList fs):=λH0 A0=>
 (QiC QiB hg hm Zbt (ha H0 A0) (by decide) (by decide) he hpl).mono λσ H Q ⟨ρ,hs,F,r',rel,e,q⟩=>by
  obtain⟨ra,e1,e⟩:=bind1 e
  refine⟨ρ,hs,F,ra,rel,e1,λvs H1 G p1=>?_⟩
  have rp:=p1.rp
  have src:=p1.src
  split at e
  ·rename_i xs hds
   cases e
   rw[hds]at rp
   obtain⟨v,rfl,rq⟩:=rp.one
   obtain⟨l,ws,L,rfl,hl,rl,zl,el⟩:=rq.lst_inv
   refine⟨l,ws,rfl,.inl (Qap hl),λc hc=>q _ _ (c::L) (Qag.QaQ p1.same hc rl zl (λz hz=>src z ?_) p1.own)⟩
   rcases el with rfl | rfl
   ·exact Ze _ hz
   ·exact hz
  ·rename_i xs hds
   split at e
   ·rename_i hz
    cases e
    rw[hds]at rp
    obtain⟨v,rfl,rq⟩:=rp.one
    obtain⟨l,ws,rfl,hl,rl⟩:=rq.QbQ
    exact⟨l,ws,rfl,.inr hl,λc hc=>q _ _ (c::G) (Qag.QaQ p1.same hc rl hz src p1.own)⟩
   ·cases e
  ·cases e
end
end HS
namespace HS
open PySem PySem.Spec L2
mutual
noncomputable def D.py:D->PyData
 | .non=> .none
 | .bl b=> .bool b
 | .int i=> .int i
 | .str x=> .str x
 | .tup xs=> .tuple (pys xs)
 | .lst xs=> .list (pys xs)
 | .exc _=> .none
noncomputable def pys:List D->List PyData
 | []=>[]
 | d::ds=>d.py::pys ds
end
theorem QqL:∀ds:List D,pys ds=ds.map D.py
 | []=>rfl
 | d::ds=>by simp[pys,QqL ds]
noncomputable def D.sim:Nat->D->Bool
 | _,.non=>true
 | _,.bl _=>true
 | _,.int _=>true
 | _,.str x=>PyData.canLay0 (.str x)
 | 0,.tup xs=>xs.isEmpty
 | 0,.lst xs=>xs.isEmpty
 | n+1,.tup xs=>xs.all (D.sim n)
 | n+1,.lst xs=>xs.all (D.sim n)
 | _,.exc _=>false
theorem QfZ:∀{ds:List D},(∀d∈ds,d.py.canLay0=true)->PyData.canLayAll0 (pys ds)=true
 | [],_=>rfl
 | d::ds,h=>by
  simp only[pys,PyData.canLayAll0,Zj]
  exact⟨h d Zp,QfZ λe he=>h e (Ze _ he)⟩
theorem QgJ{n:Nat}:∀{ds:List D},(∀d∈ds,d.py.depth<=n)->PyData.depthAll (pys ds)<=n
 | [],_=>Zac _
 | d::ds,h=>by
  simp only[pys,PyData.depthAll]
  exact Nat.max_le.mpr ⟨h d Zp,QgJ λe he=>h e (Ze _ he)⟩
theorem Qcs:∀(n:Nat) (d:D),d.sim n=true->d.py.canLay0=true/\d.py.depth<=n+1
 | n,.exc _,h=>by cases n<;>cases h
 | n,.non,_=>by simp[D.py,PyData.canLay0,PyData.depth]
 | n,.bl _,_=>by simp[D.py,PyData.canLay0,PyData.depth]
 | n,.int _,_=>by simp[D.py,PyData.canLay0,PyData.depth]
 | n,.str x,h=>by
  simp only[D.py,PyData.depth]
  refine⟨?_,Zac _⟩
  cases n<;>exact h
 | 0,.tup xs,h=>by
  have:xs=[]:=by simpa[D.sim]using h
  subst this
  simp[D.py,pys,PyData.canLay0,PyData.canLayAll0,PyData.depth,PyData.depthAll]
 | 0,.lst xs,h=>by
  have:xs=[]:=by simpa[D.sim]using h
  subst this
  simp[D.py,pys,PyData.canLay0,PyData.canLayAll0,PyData.depth,PyData.depthAll]
 | n+1,.tup xs,h=>by
  simp only[D.sim,Zaw]at h
  simp only[D.py,PyData.canLay0,PyData.depth]
  exact⟨QfZ λd hd=>(Qcs n d (h d hd)).1,ZbD (QgJ λd hd=>(Qcs n d (h d hd)).2) 1⟩
 | n+1,.lst xs,h=>by
  simp only[D.sim,Zaw]at h
  simp only[D.py,PyData.canLay0,PyData.depth]
  exact⟨QfZ λd hd=>(Qcs n d (h d hd)).1,ZbD (QgJ λd hd=>(Qcs n d (h d hd)).2) 1⟩
noncomputable def deq(a b:D):Bool:=PyData.eqv a.py b.py
theorem Qn5{n:Nat}{d:D}(h:d.sim n=true):deq d d=true:=SeqAt.eqv_refl _ (Qcs n d h).1
mutual
noncomputable def D.noX:D->Bool
 | .exc _=>false
 | .tup xs=>QjZ xs
 | .lst xs=>QjZ xs
 | .non=>true
 | .bl _=>true
 | .int _=>true
 | .str _=>true
noncomputable def QjZ:List D->Bool
 | []=>true
 | d::ds=>d.noX && QjZ ds
end
theorem Ql2:∀{ds:List D},(∀d∈ds,d.noX=true)->QjZ ds=true
 | [],_=>rfl
 | d::ds,h=>by
  simp only[QjZ,Zj]
  exact⟨h d Zp,Ql2 λe he=>h e (Ze _ he)⟩
theorem QcZ:∀(n:Nat) (d:D),d.sim n=true->d.noX=true
 | n,.exc _,h=>by cases n<;>cases h
 | n,.non,_=>rfl
 | n,.bl _,_=>rfl
 | n,.int _,_=>rfl
 | n,.str x,_=>rfl
 | 0,.tup xs,h=>by
  have:xs=[]:=by simpa[D.sim]using h
  subst this;rfl
 | 0,.lst xs,h=>by
  have:xs=[]:=by simpa[D.sim]using h
  subst this;rfl
 | n+1,.tup xs,h=>by
  simp only[D.sim,Zaw]at h
  simp only[D.noX]
  exact Ql2 λd hd=>QcZ n d (h d hd)
 | n+1,.lst xs,h=>by
  simp only[D.sim,Zaw]at h
  simp only[D.noX]
  exact Ql2 λd hd=>QcZ n d (h d hd)
section
variable {X:Cx}{pins:List (Addr×Obj)}{σ:L2.St}{H:Hp}{s:Shared}
mutual
theorem Rp.reads(I:Inv X pins σ H s):∀{d:D}{v:V}{F:List Addr}{u:Value},d.noX=true->Rp X.K H d v F->RelV v u->∃as,Reads s.heap u d.py as
 | .exc _,v,_,u,hx,h,r=>by cases hx
 | .non,v,_,u,hx,h,r=>by
  rw[h.QlX]at r
  cases(show u=Value.none from r)
  exact⟨_,.none⟩
 | .bl b,v,_,u,hx,h,r=>by
  rw[h.Qiy]at r
  cases(show u=Value.bool b from r)
  exact⟨_,.bool b⟩
 | .int i,v,_,u,hx,h,r=>by
  rw[h.int_inv]at r
  obtain⟨t,rfl⟩:=(show ∃t,u=Value.int i t from r)
  exact⟨_,.int i t⟩
 | .str i,v,_,u,hx,h,r=>by
  rw[h.str_inv]at r
  obtain⟨t,rfl⟩:=(show ∃t,u=Value.str i t from r)
  exact⟨_,.str i t⟩
 | .tup ds,v,_,u,hx,h,r=>by
  obtain⟨a,vs,rfl,hq,rs⟩:=h.QbQ
  cases(show u=Value.ref a from r)
  obtain⟨its,rv,⟨o,h1,h2,n,h3⟩,_⟩:=I.tuple hq
  obtain⟨as,ra⟩:=Rps.reads I (by simpa only[D.noX]using hx) rs rv
  exact⟨_,.tuple h1 h2 h3 (by simpa using ra)⟩
 | .lst ds,v,_,u,hx,h,r=>by
  simp only[Rp]at h
  obtain⟨hz,a,vs,rfl,h⟩:=h
  have key:∃G,(H a=some (.lst vs)∨Fix X.K H a vs)/\Rps X.K H ds vs G:=by
   rcases h with⟨G,_,q,rs⟩ | ⟨q,rs⟩
   ·exact⟨G,.inl q,rs⟩
   ·exact⟨_,.inr q,rs⟩
  obtain⟨G,hq,rs⟩:=key
  cases(show u=Value.ref a from r)
  obtain⟨_,its,n,rv,_,e⟩:=I.Qpr hq
  obtain⟨as,ra⟩:=Rps.reads I (by simpa only[D.noX]using hx) rs rv
  exact⟨_,.list e rfl rfl (by simpa using ra)⟩
theorem Rps.reads(I:Inv X pins σ H s):∀{ds:List D}{vs:List V}{F:List Addr}{us:List Value},QjZ ds=true->Rps X.K H ds vs F->QF vs us->∃as,ReadsAll s.heap us (pys ds) as
 | [],vs,_,us,_,h,r=>by
  simp only[Rps]at h
  rw[h.1]at r
  cases r
  exact⟨_,.nil⟩
 | d::ds,vs,_,us,hx,h,r=>by
  simp only[QjZ,Zj]at hx
  simp only[Rps]at h
  obtain⟨v,ws,F1,F2,rfl,rfl,h1,h2⟩:=h
  cases r with
  | cons r rr=>
   obtain⟨as,ra⟩:=Rp.reads I hx.1 h1 r
   obtain⟨bs,rb⟩:=Rps.reads I hx.2 h2 rr
   exact⟨_,.cons ra rb⟩
end
end
noncomputable def gEq(a b:D):Option D:=if a.sim 8 && b.sim 8 then some (.bl (deq a b))else none
noncomputable def gNe(a b:D):Option D:=if a.sim 8 && b.sim 8 then some (.bl (!deq a b))else none
noncomputable def gIn(neg:Bool)(a b:D):Option D:=match b with
 | .lst xs=>if a.sim 8 && b.sim 8 then some (.bl (if neg then !(xs.any λy=>deq y a)else xs.any λy=>deq y a))else none
 | .tup xs=>if a.sim 8 && b.sim 8 then some (.bl (if neg then !(xs.any λy=>deq y a)else xs.any λy=>deq y a))else none
 | _=>none
noncomputable def Qzo(K:PySem.W.Frag):R2:=λx y H Q=>∃a b F G,Rp K H a x F/\Rp K H b y G/\a.sim 8=true/\b.sim 8=true/\Q (.bl (deq a b)) H
noncomputable def Qzf(K:PySem.W.Frag):R2:=λx y H Q=>∃a b F G,Rp K H a x F/\Rp K H b y G/\a.sim 8=true/\b.sim 8=true/\Q (.bl (!deq a b)) H
section
variable {X:Cx}
theorem Qyx(hu:X.A.units+64<cLine):OpR X (compareOp .Eq) (Qzo X.K):=by
 intro pins s σ H x y v u Q I rx ry h
 obtain⟨a,b,F,G,ha,hb,sa,sb,q⟩:=h
 obtain⟨as,ra⟩:=Rp.reads I (QcZ 8 _ sa) ha rx
 obtain⟨bs,rb⟩:=Rp.reads I (QcZ 8 _ sb) hb ry
 have h1:=Qcs 8 a sa
 have h2:=Qcs 8 b sb
 exact SeqAt.compareEq_reads ra rb h1.1 h2.1 (by have:=Nat.min_le_left a.py.depth b.py.depth;omega) ⟨.bl _,H,I,rfl,q⟩
theorem Qy7(hu:X.A.units+64<cLine):OpR X (compareOp .NotEq) (Qzf X.K):=by
 intro pins s σ H x y v u Q I rx ry h
 obtain⟨a,b,F,G,ha,hb,sa,sb,q⟩:=h
 obtain⟨as,ra⟩:=Rp.reads I (QcZ 8 _ sa) ha rx
 obtain⟨bs,rb⟩:=Rp.reads I (QcZ 8 _ sb) hb ry
 have h1:=Qcs 8 a sa
 have h2:=Qcs 8 b sb
 exact SeqAt.compareNe_reads ra rb h1.1 h2.1 (by have:=Nat.min_le_left a.py.depth b.py.depth;omega) ⟨.bl _,H,I,rfl,q⟩
theorem QAH{K:PySem.W.Frag}:Qco K gEq (Qzo K):=λa b d e=>by
 unfold gEq at e
 split at e
 ·rename_i h
  simp only[Zj]at h
  cases e
  exact⟨rfl,λH x y F G Q ha hb q=>⟨a,b,F,G,ha,hb,h.1,h.2,q _ λ_=> .Qew⟩⟩
 ·cases e
theorem QzZ{K:PySem.W.Frag}:Qco K gNe (Qzf K):=λa b d e=>by
 unfold gNe at e
 split at e
 ·rename_i h
  simp only[Zj]at h
  cases e
  exact⟨rfl,λH x y F G Q ha hb q=>⟨a,b,F,G,ha,hb,h.1,h.2,q _ λ_=> .Qew⟩⟩
 ·cases e
noncomputable def QvA(K:PySem.W.Frag)(neg:Bool):R2:=λx y H Q=>∃a b F G xs,Rp K H a x F/\Rp K H b y G/\a.sim 8=true/\b.sim 8=true/\(b= .lst xs∨b= .tup xs)/\Q (.bl (if neg then !(xs.any λy=>deq y a)else xs.any λy=>deq y a)) H
theorem Qs9(xs:List D)(a:D):((pys xs).any λy=>PyData.eqv y a.py)=xs.any λy=>deq y a:=by
 rw[QqL,List.any_map];rfl
theorem Qyp(hu:X.A.units+64<cLine):OpR X (compareOp .In) (QvA X.K false):=by
 intro pins s σ H x y v u Q I rx ry h
 obtain⟨a,b,F,G,xs,ha,hb,sa,sb,hk,q⟩:=h
 obtain⟨as,ra⟩:=Rp.reads I (QcZ 8 _ sa) ha rx
 obtain⟨bs,rb⟩:=Rp.reads I (QcZ 8 _ sb) hb ry
 have h1:=Qcs 8 a sa
 have h2:=Qcs 8 b sb
 have q':Q (.bl ((pys xs).any λy=>PyData.eqv y a.py)) H:=by rw[Qs9];exact q
 rcases hk with rfl | rfl
 ·exact SeqAt.in_list_reads rb ra h2.1 h1.1 (by have:=ZbC (PyData.depthAll (pys xs)) a.py.depth;omega) ⟨.bl _,H,I,rfl,q'⟩
 ·exact SeqAt.in_tuple_reads rb ra h2.1 h1.1 (by have:=ZbC (PyData.depthAll (pys xs)) a.py.depth;omega) ⟨.bl _,H,I,rfl,q'⟩
theorem Qty(hu:X.A.units+64<cLine):OpR X (compareOp .NotIn) (QvA X.K true):=by
 intro pins s σ H x y v u Q I rx ry h
 obtain⟨a,b,F,G,xs,ha,hb,sa,sb,hk,q⟩:=h
 obtain⟨as,ra⟩:=Rp.reads I (QcZ 8 _ sa) ha rx
 obtain⟨bs,rb⟩:=Rp.reads I (QcZ 8 _ sb) hb ry
 have h1:=Qcs 8 a sa
 have h2:=Qcs 8 b sb
 have q':Q (.bl (!(pys xs).any λy=>PyData.eqv y a.py)) H:=by rw[Qs9];exact q
 rcases hk with rfl | rfl
 ·exact SeqAt.notIn_list_reads rb ra h2.1 h1.1 (by have:=ZbC (PyData.depthAll (pys xs)) a.py.depth;omega) ⟨.bl _,H,I,rfl,q'⟩
 ·exact SeqAt.notIn_tuple_reads rb ra h2.1 h1.1 (by have:=ZbC (PyData.depthAll (pys xs)) a.py.depth;omega) ⟨.bl _,H,I,rfl,q'⟩
theorem QvZ{K:PySem.W.Frag}{neg:Bool}:Qco K (gIn neg) (QvA K neg):=λa b d e=>by
 unfold gIn at e
 split at e
 ·split at e
  ·rename_i h
   simp only[Zj]at h
   cases e
   exact⟨rfl,λH x y F G Q ha hb q=>⟨a,_,F,G,_,ha,hb,h.1,h.2,.inl rfl,q _ λ_=> .Qew⟩⟩
  ·cases e
 ·split at e
  ·rename_i h
   simp only[Zj]at h
   cases e
   exact⟨rfl,λH x y F G Q ha hb q=>⟨a,_,F,G,_,ha,hb,h.1,h.2,.inr rfl,q _ λ_=> .Qew⟩⟩
  ·cases e
 ·cases e
noncomputable def D.tyN:D->String
 | .non=> "NoneType" | .bl _=> "bool" | .int _=> "int" | .str _=> "str" | .tup _=> "tuple" | .lst _=> "list" | .exc _=> "?"
noncomputable def D.isE:D->Bool
 | .exc _=>true
 | _=>false
noncomputable def D.isa(T:String)(d:D):Option Bool:=if(T == "int" || T == "bool" || T == "list" || T == "tuple" || T == "str") && !d.isE then some (d.tyN == T || (d.tyN == "bool" && T == "int"))else none
theorem QzP{pins:List (Addr×Obj)}{σ:L2.St}{H:Hp}{s:Shared}{A:Around}{E Q:Value->Shared->Prop}{d:D}{v:V}{F:List Addr}{u:Value}{T:String}{b:Bool}(I:Inv X pins σ H s)(rp:Rp X.K H d v F)(rx:RelV v u)(e:d.isa T=some b)(h:∀tk,Q (.bool b) {s with toks:=tk}):
  wpAny (model X.prog X.w) A (call (.builtin "isinstance") [u,.type T]) Q E s:=by
 have kit:PySem.W.kitOne X.K (.type d.tyN) (.type T)=some b:=by
  unfold D.isa at e
  split at e
  ·rename_i hT
   cases e
   simp only[Zj,Zch,beq_iff_eq]at hT
   obtain⟨hT,hE⟩:=hT
   rcases hT with(((rfl | rfl) | rfl) | rfl) | rfl<;>cases d<;>first | rfl | (cases hE)
  ·cases e
 cases d with
 | exc x=>unfold D.isa at e;split at e;(rename_i hT;exfalso;simp only[Zj]at hT;exact nomatch hT.2);cases e
 | non=>rw[rp.QlX]at rx;cases(show u=Value.none from rx);exact ZaX PySem.W.kitx_none I.kIn True.intro kit (λz=>nomatch z) h
 | bl y=>rw[rp.Qiy]at rx;cases(show u=Value.bool y from rx);exact ZaX PySem.W.kitx_bool I.kIn True.intro kit (λz=>nomatch z) h
 | int i=>rw[rp.int_inv]at rx;obtain⟨t,q⟩:=(show ∃t,u=Value.int i t from rx);cases q;exact ZaX PySem.W.kitx_int I.kIn True.intro kit (λz=>nomatch z) h
 | str y=>rw[rp.str_inv]at rx;obtain⟨t,q⟩:=(show ∃t,u=Value.str y t from rx);cases q;exact ZaX PySem.W.kitx_str I.kIn True.intro kit (λz=>nomatch z) h
 | tup ds=>
  obtain⟨a,vs,rfl,hq,_⟩:=rp.QbQ
  cases(show u=Value.ref a from rx)
  obtain⟨its,rv,⟨o,h1,h2,n,h3⟩,_⟩:=I.tuple hq
  exact ZaX PySem.W.kitx_tuple I.kIn ⟨o,h1,h2⟩ kit (λz=>nomatch z) h
 | lst ds=>
  obtain⟨a,vs,G,rfl,hq,_⟩:=rp.lst_inv
  cases(show u=Value.ref a from rx)
  obtain⟨_,its,n,rv,_,e1⟩:=I.Qpr hq
  exact ZaX PySem.W.kitx_list I.kIn ⟨_,e1,rfl⟩ kit (λz=>nomatch z) h
noncomputable def QBg(K:PySem.W.Frag):List V->Hp->VK->Prop:=λxs H Q=>∃x T d F b,xs=[x,.ty T]/\Rp K H d x F/\d.isa T=some b/\Q (.bl b) H
theorem Qvx:QcO X (.builtin "isinstance") (QBg X.K):=by
 intro pins s σ H xs us Q I r h
 obtain⟨x,T,d,F,b,rfl,rp,e,q⟩:=h
 obtain⟨u,w,rfl,ru,rw'⟩:=vals2 r
 cases(show w=Value.type T from rw')
 exact QzP I rp ru e λtk=>⟨.bl b,H,I.tok _,rfl,q⟩
noncomputable def Qj3(T:String)(fa:DE):DE:=λρ=>(fa ρ).bind λr=>(r.d.isa T).map λb=>⟨.bl b,true,[]⟩
theorem Qzi{a:Expr}{fa:DE}{T:String}{x:Str}{p p2 pos:Pos}(hg:Gl X "isinstance")(hm:X.mg "isinstance" =none)(ha:SE X a fa)(hT:PE X (.Name x p2) (tC (.ty T)))
  (he:starEach [a,.Name x p2] X.env=(false,eval a X.env)::starEach [.Name x p2] X.env):SE X (.Call (.Name "isinstance" p) [a,.Name x p2] [] pos) (Qj3 T fa):=λH0 A0=>
 (QoR Qvx hg hm PyProof.Rows.boot_isinstance (QaP (ha H0 A0) (QaP hT QdV) he) (by decide) (by decide) he (by rfl)).mono λσ H Q ⟨ρ,hs,F,r',rel,e,q⟩=>by
  obtain⟨r,e1,e⟩:=bind1 e
  obtain⟨b,eb,e⟩:=Zf.mp e
  subst e
  exact⟨ρ,hs,F,r,rel,e1,λv H1 G p=>⟨v,T,r.d,G,b,rfl,p.rp,eb,q _ H1 [] (.flat p.same .Qew)⟩⟩
noncomputable def D.tru:D->Option Bool
 | .non=>some false
 | .bl b=>some b
 | .int i=>some (i != 0)
 | .lst xs=>some (!xs.isEmpty)
 | .tup xs=>some (!xs.isEmpty)
 | .str _=>none
 | .exc _=>none
theorem Qnu{K:PySem.W.Frag}{H:Hp}{d:D}{v:V}{F:List Addr}{b:Bool}(h:Rp K H d v F)(e:d.tru=some b):Qui K v H b:=by
 have emp:∀{ds:List D}{vs:List V}{G:List Addr},Rps K H ds vs G->(!ds.isEmpty)= !vs.isEmpty:=λ{ds vs G} r=>by
  have:=r.length
  cases ds<;>cases vs<;>simp_all
 cases d with
 | non=>rw[h.QlX];cases e;exact rfl
 | bl c=>rw[h.Qiy];cases e;exact rfl
 | int i=>rw[h.int_inv];cases e;exact rfl
 | str i=>cases e
 | exc i=>cases e
 | tup ds=>cases e;obtain⟨a,vs,rfl,hq,r⟩:=h.QbQ;exact .inr (.inl ⟨vs,hq,emp r⟩)
 | lst ds=>cases e;obtain⟨a,vs,G,rfl,hq,r,_⟩:=h.lst_inv;exact .inl ⟨vs,Qap hq,emp r⟩
noncomputable def QO(fa:DE):DT:=λρ=>(fa ρ).bind λr=>r.d.tru
noncomputable def QhK(f g:DT):DT:=λρ=>(f ρ).bind λb=>if b=true then g ρ else some false
noncomputable def bOr(f g:DT):DT:=λρ=>(f ρ).bind λb=>if b=true then some true else g ρ
noncomputable def Qck(f:DT):DT:=λρ=>(f ρ).bind λb=>some (!b)
def SW(X:Cx)(e:Expr)(f:DT):Prop:=∀H0 A0,PW X e (tVT X.K H0 A0 f)
theorem _root_.L2.PW.mono{X:Cx}{e:Expr}{t t':TT}(h:PW X e t)(m:∀σ H Q,t' σ H Q->t σ H Q):PW X e t':=λwh pins s σ H Q I q=>h wh pins s σ H Q I (m σ H Q q)
variable {a b e:Expr}{fa fb:DE}{ga gb gc:DT}{pos:Pos}{rest:List Expr}
theorem QzK(ha:SE X a fa)(he:∀whole,isTrue a X.env whole=(do let v ← whole;standAt a.pos;holding [v] (truthy v))):ST X a (QO fa):=λH0 A0=>
 (QuO (ha H0 A0) he).mono λσ H Q ⟨ρ,hs,F,b,rel,e,q⟩=>by
  obtain⟨r,e1,e⟩:=bind1 e
  exact⟨ρ,hs,F,r,rel,e1,λv H1 G p=>⟨b,Qnu p.rp e,q H1 p.same⟩⟩
theorem QyG{op:CmpOp}{g:D->D->Option D}{r:R2}(ho:OpR X (compareOp op) r)(hg:Qco X.K g r)(hbl:∀a b d,g a b=some d->∃k,d= .bl k)(ha:SE X a fa)(hb:SE X b fb)(hm:behindInMarks op b=false):ST X (.Compare a [op] [b] pos) (QO (dOp g fa fb)):=λH0 A0=>
 (QwD ho (ha H0 A0) (hb H0 A0) hm).mono λσ H Q ⟨ρ,hs,F,k,rel,e,q⟩=>by
  obtain⟨r',e0,e⟩:=bind1 e
  obtain⟨ra,rb,d,ea,eb,eg,rfl⟩:=QlL e0
  obtain⟨k',rfl⟩:=hbl _ _ _ eg
  cases e
  refine two rel ea eb λx y H1 H2 G1 G2 p1 p2=>(hg _ _ _ eg).2 H2 x y G1 G2 _ (p1.rp.same p2.same) p2.rp λv hv=>?_
  exact⟨_,(hv H2).Qiy,q H2 (p1.same.trans p2.same)⟩
theorem QyQ(ha:ST X a ga):ST X (.UnaryOp .Not a pos) (Qck ga):=λH0 A0=>
 (Qy8 (ha H0 A0)).mono λσ H Q ⟨ρ,hs,F,b,rel,e,q⟩=>by
  obtain⟨c,e1,e⟩:=bind1 e
  cases e
  exact⟨ρ,hs,F,c,rel,e1,λH1 s1=>q H1 s1⟩
theorem Qww(ha:ST X a ga):SW X (.BoolOp .And [a] pos) ga:=λH0 A0=>Qwf (ha H0 A0)
theorem Qyg(ha:ST X a ga):SW X (.BoolOp .Or [a] pos) ga:=λH0 A0=>Qyc (ha H0 A0)
theorem Qza(ha:ST X a ga)(hb:SW X (.BoolOp .And (b::rest) pos) gb):SW X (.BoolOp .And (a::b::rest) pos) (QhK ga gb):=λH0 A0=>
 (QzL (ha H0 A0) (hb H0 A0)).mono λσ H Q ⟨ρ,hs,F,c,rel,e,q⟩=>by
  obtain⟨d,e1,e⟩:=bind1 e
  refine⟨ρ,hs,F,d,rel,e1,λH1 s1=>?_⟩
  cases d with
  | true=>exact⟨ρ,hs,F,c,rel.ext s1,e,λH2 s2=>q H2 (s1.trans s2)⟩
  | false=>cases e;exact q H1 s1
theorem QAk(ha:ST X a ga)(hb:SW X (.BoolOp .Or (b::rest) pos) gb):SW X (.BoolOp .Or (a::b::rest) pos) (bOr ga gb):=λH0 A0=>
 (QAN (ha H0 A0) (hb H0 A0)).mono λσ H Q ⟨ρ,hs,F,c,rel,e,q⟩=>by
  obtain⟨d,e1,e⟩:=bind1 e
  refine⟨ρ,hs,F,d,rel,e1,λH1 s1=>?_⟩
  cases d with
  | true=>cases e;exact q H1 s1
  | false=>exact⟨ρ,hs,F,c,rel.ext s1,e,λH2 s2=>q H2 (s1.trans s2)⟩
theorem SW.st(h:SW X e ga):ST X e ga:=λH0 A0=>(h H0 A0).pt
noncomputable def Qd3(fa fb:DE):DE:=λρ=>(fa ρ).bind λra=>(ra.d.tru).bind λb=>if b=true then fb ρ else some ra
noncomputable def dOr(fa fb:DE):DE:=λρ=>(fa ρ).bind λra=>(ra.d.tru).bind λb=>if b=true then some ra else fb ρ
noncomputable def QrG(fa:DE):DE:=λρ=>(fa ρ).bind λra=>(ra.d.tru).bind λb=>some ⟨.bl (!b),true,[]⟩
noncomputable def dIf(g:DT)(fa fb:DE):DE:=λρ=>(g ρ).bind λb=>if b=true then fa ρ else fb ρ
theorem QtD{op}(h:SE X a fa):SE X (.BoolOp op [a] pos) fa:=λH0 A0=>Qzg (h H0 A0)
theorem Qag.ext{K:PySem.W.Frag}{ρ:En}{F:Nat->List Addr}{H H1 H2:Hp}{r:R}{v:V}{G:List Addr}(s:QU H H1)(p:Qag K ρ F H1 H2 r v G){H0:Hp}{A0:List Addr}{hs:List (V×D×List Addr)}{σ:L2.St}(rel:Rel K H0 A0 hs ρ F σ H):Qag K ρ F H H2 r v G where
 same:=s.trans p.same
 rp:=p.rp
 src:=λa ha=>(p.src a ha).elim (λz=> .inl (s.free z)) .inr
 cnt:=λh=>⟨λa=>Zi ((p.cnt h).1 a) (ZbD (by
  cases q:H1 a with
  | none=>rw[QbS q,QbS (s.free q)];exact Zh _
  | some o=>rw[QdR q];exact Zac _) _),(p.cnt h).2⟩
 own:=p.own
theorem QyA(ha:SE X a fa)(hb:SE X (.BoolOp .And (b::rest) pos) fb):SE X (.BoolOp .And (a::b::rest) pos) (Qd3 fa fb):=λH0 A0=>by
 intro pins s σ H Q I ⟨ρ,hs,F,r,rel,e,q⟩
 obtain⟨ra,e1,e⟩:=bind1 e
 obtain⟨c,e2,e⟩:=bind1 e
 refine PyProof.Rows.BoolOp_and (thn (ha H0 A0 pins s σ H _ I ⟨ρ,hs,F,ra,rel,e1,λv H' G p=>(⟨G,p⟩:∃G,Qag X.K ρ F H H' ra v G)⟩) λv s1 ⟨x,H1,I1,r1,G,p⟩=>?_)
 refine thn (QkU pins s1 σ H1 x v (λk H2=>k=c/\H2=H1) I1 r1 ⟨c,Qnu p.rp e2,rfl,rfl⟩) λk s2 ⟨H2,I2,e3,e4⟩=>?_
 subst e3 e4
 cases k with
 | true=>exact hb H0 A0 pins s2 σ _ Q I2 ⟨ρ,hs,F,r,rel.ext p.same,e,λw H3 G3 p3=>q w H3 G3 (p3.ext p.same rel)⟩
 | false=>cases e;exact⟨x,_,I2,r1,q x _ G p⟩
theorem QAB(ha:SE X a fa)(hb:SE X (.BoolOp .Or (b::rest) pos) fb):SE X (.BoolOp .Or (a::b::rest) pos) (dOr fa fb):=λH0 A0=>by
 intro pins s σ H Q I ⟨ρ,hs,F,r,rel,e,q⟩
 obtain⟨ra,e1,e⟩:=bind1 e
 obtain⟨c,e2,e⟩:=bind1 e
 refine PyProof.Rows.BoolOp_or (thn (ha H0 A0 pins s σ H _ I ⟨ρ,hs,F,ra,rel,e1,λv H' G p=>(⟨G,p⟩:∃G,Qag X.K ρ F H H' ra v G)⟩) λv s1 ⟨x,H1,I1,r1,G,p⟩=>?_)
 refine thn (QkU pins s1 σ H1 x v (λk H2=>k=c/\H2=H1) I1 r1 ⟨c,Qnu p.rp e2,rfl,rfl⟩) λk s2 ⟨H2,I2,e3,e4⟩=>?_
 subst e3 e4
 cases k with
 | false=>exact hb H0 A0 pins s2 σ _ Q I2 ⟨ρ,hs,F,r,rel.ext p.same,e,λw H3 G3 p3=>q w H3 G3 (p3.ext p.same rel)⟩
 | true=>cases e;exact⟨x,_,I2,r1,q x _ G p⟩
theorem QyL(ha:SE X a fa):SE X (.UnaryOp .Not a pos) (QrG fa):=λH0 A0=>by
 intro pins s σ H Q I ⟨ρ,hs,F,r,rel,e,q⟩
 obtain⟨ra,e1,e⟩:=bind1 e
 obtain⟨c,e2,e⟩:=bind1 e
 cases e
 refine PyProof.Rows.UnaryOp_ (thn (ha H0 A0 pins s σ H _ I ⟨ρ,hs,F,ra,rel,e1,λv H' G p=>(⟨G,p⟩:∃G,Qag X.K ρ F H H' ra v G)⟩) λv s1 ⟨x,H1,I1,r1,G,p⟩=>?_)
 refine PyProof.Rows.not_of (thn (QkU pins s1 σ H1 x v (λk H2=>k=c/\H2=H1) I1 r1 ⟨c,Qnu p.rp e2,rfl,rfl⟩) λk s2 ⟨H2,I2,e3,e4⟩=>?_)
 subst e3 e4
 exact⟨.bl (!k),_,I2,rfl,q _ _ [] (.flat p.same .Qew)⟩
theorem QAo{c:Expr}(hc:ST X c gc)(ha:SE X a fa)(hb:SE X b fb):SE X (.IfExp c a b pos) (dIf gc fa fb):=λH0 A0=>
 (QvR (hc H0 A0) (ha H0 A0) (hb H0 A0)).mono λσ H Q ⟨ρ,hs,F,r,rel,e,q⟩=>by
  obtain⟨c,e1,e⟩:=bind1 e
  refine⟨ρ,hs,F,c,rel,e1,λH1 s1=>?_⟩
  cases c with
  | true=>exact⟨ρ,hs,F,r,rel.ext s1,e,λv H2 G p=>q v H2 G (p.ext s1 rel)⟩
  | false=>exact⟨ρ,hs,F,r,rel.ext s1,e,λv H2 G p=>q v H2 G (p.ext s1 rel)⟩
noncomputable def Qlz(fa:DE):DE:=λρ=>(fa ρ).bind λra=>match ra.d with
 | .int i=>some ⟨.int (-i),true,[]⟩
 | _=>none
theorem QzO(ha:SE X a fa):SE X (.UnaryOp .USub a pos) (Qlz fa):=λH0 A0=>
 (QAE Qzy (ha H0 A0)).mono λσ H Q ⟨ρ,hs,F,r,rel,e,q⟩=>by
  obtain⟨ra,e1,e⟩:=bind1 e
  refine⟨ρ,hs,F,ra,rel,e1,λv H1 G p=>?_⟩
  have rp:=p.rp
  cases hr:ra.d with
  | int i=>
   rw[hr]at e rp
   cases e
   exact⟨i,rp.int_inv,q _ H1 [] (.flat p.same .int_mk)⟩
  | _=>rw[hr]at e;cases e
end
end HS
namespace HS
open PySem PySem.Spec L2
section
variable {K:PySem.W.Frag}{H0 H H':Hp}{A0:List Addr}{hs:List (V×D×List Addr)}{ρ ρ':En}{F:Nat->List Addr}{σ:L2.St}
def Qdr(ρ ρ':En):Prop:=ρ'.length=ρ.length/\∀(i:Nat) d b,ρ'[i]? =some (some (d,b))->∃b',ρ[i]? =some (some (d,b'))/\(b=true->b'=true)
theorem Qdr.refl:Qdr ρ ρ:=⟨rfl,λi d b h=>⟨b,h,id⟩⟩
theorem Qdr.trans{ρ'':En}(a:Qdr ρ ρ')(b:Qdr ρ' ρ''):Qdr ρ ρ'':=⟨b.1.trans a.1,λi d c h=>by
 obtain⟨c',h1,h2⟩:=b.2 i d c h
 obtain⟨c'',h3,h4⟩:=a.2 i d c' h1
 exact⟨c'',h3,λz=>h4 (h2 z)⟩⟩
theorem Rel.weak(r:Rel K H0 A0 hs ρ F σ H)(w:Qdr ρ ρ'):Rel K H0 A0 hs ρ' F σ H where
 len:=w.1.trans r.len
 val:=λi d b e=>let ⟨b',h,_⟩:=w.2 i d b e;r.val i d b' h
 own:=λi d e=>by
  obtain⟨b',h,hb⟩:=w.2 i d true e
  have:b'=true:=hb rfl
  subst this
  obtain⟨h1,h2,h3,h4,h5⟩:=r.own i d h
  exact⟨h1,h2,h3,λj d' b' hj e'=>let ⟨b'',h',_⟩:=w.2 j d' b' e';h4 j d' b'' hj h',h5⟩
 src:=λi d b e=>let ⟨b',h,_⟩:=w.2 i d b e;r.src i d b' h
 held:=r.held
 same:=r.same
noncomputable def kill:List Nat->En->En
 | [],ρ=>ρ
 | i::M,ρ=>kill M (ρ.set i none)
noncomputable def Qbc:List Nat->En->En
 | [],ρ=>ρ
 | i::M,ρ=>Qbc M (match ρ[i]? with
  | some (some (d,_))=>ρ.set i (some (d,false))
  | _=>ρ)
theorem Qel(i:Nat):Qdr ρ (ρ.set i none):=⟨by simp,λj d b h=>by
 by_cases hj:i=j
 ·subst hj
  by_cases hl:i<ρ.length
  ·rw[Zl hl]at h;cases h
  ·rw[Zt (by simp;omega)]at h;cases h
 ·rw[Zc hj]at h
  exact⟨b,h,id⟩⟩
theorem Qdq:∀(M:List Nat) (ρ:En),Qdr ρ (kill M ρ)
 | [],ρ=> .refl
 | i::M,ρ=>(Qel i).trans (Qdq M _)
theorem QiJ:∀(M:List Nat) (ρ:En) (i:Nat) (d:D) (b:Bool),i∈M->(kill M ρ)[i]? =some (some (d,b))->False
 | [],ρ,i,d,b,h,_=>by simp at h
 | j::M,ρ,i,d,b,h,e=>by
  rcases Zq.mp h with rfl | h
  ·obtain⟨b',e',_⟩:=(Qdq M (ρ.set i none)).2 i d b e
   by_cases hl:i<ρ.length
   ·rw[Zl hl]at e';cases e'
   ·rw[Zt (by simp;omega)]at e';cases e'
  ·exact QiJ M _ i d b h e
theorem QuS(i:Nat):Qdr ρ (match ρ[i]? with
  | some (some (d,_))=>ρ.set i (some (d,false))
  | _=>ρ):=by
 split
 ·rename_i d b e
  refine⟨by simp,λj d' b' h=>?_⟩
  by_cases hj:i=j
  ·subst hj
   have hl:i<ρ.length:=(Zg.mp e).1
   rw[Zl hl]at h
   cases h
   exact⟨b,e,λz=>by cases z⟩
  ·rw[Zc hj]at h
   exact⟨b',h,id⟩
 ·exact .refl
theorem Qbp:∀(M:List Nat) (ρ:En),Qdr ρ (Qbc M ρ)
 | [],ρ=> .refl
 | i::M,ρ=>(QuS i).trans (Qbp M _)
theorem QkH:∀(M:List Nat) (ρ:En) (i:Nat) (d:D),i∈M->(Qbc M ρ)[i]? =some (some (d,true))->False
 | [],ρ,i,d,h,_=>by simp at h
 | j::M,ρ,i,d,h,e=>by
  rcases Zq.mp h with rfl | h
  ·obtain⟨b',e',hb⟩:=(Qbp M _).2 i d true e
   have:b'=true:=hb rfl
   subst this
   split at e'
   ·rename_i d' b e1
    have hl:i<ρ.length:=(Zg.mp e1).1
    rw[Zl hl]at e'
    cases e'
   ·rename_i h1
    exact h1 d true e'
  ·exact QkH M _ i d h e
def Shr(H0:Hp)(A0:List Addr)(ρ:En)(F:Nat->List Addr)(G:List Addr):Prop:=
 ∀a∈G,(H0 a=none∨a∈A0)/\∀(i:Nat) d,ρ[i]? =some (some (d,true))->a∉F i
theorem Shr.of(r:Rel K H0 A0 hs ρ F σ H){M:List Nat}{G:List Addr}(s:Src ρ F H M G):Shr H0 A0 (Qbc M ρ) F G:=λa ha=>by
 have w:=Qbp M ρ
 rcases s a ha with h | ⟨i,d,b,e,m,hm⟩
 ·refine⟨.inl (r.same.free h),λj d' e' hj=>?_⟩
  obtain⟨b',e2,_⟩:=w.2 j d' true e'
  obtain⟨vs,q⟩:=r.mem e2 hj
  rw[h]at q;cases q
 ·refine⟨r.src i d b e a m,λj d' e' hj=>?_⟩
  obtain⟨b',e2,hb⟩:=w.2 j d' true e'
  have:b'=true:=hb rfl
  subst this
  by_cases hij:i=j
  ·subst hij
   rw[e]at e2
   cases e2
   exact QkH M ρ i _ (hm rfl) e'
  ·exact(r.own j d' e2).2.2.2.1 i d b hij e a hj m
theorem Rel.QoT(r:Rel K H0 A0 hs ρ F σ H){i:Nat}{d:D}{v:V}{G:List Addr}(rp:Rp K H d v G)(sh:Shr H0 A0 ρ F G):
  Rel K H0 A0 hs (ρ.set i (some (d,d.flat))) (λj=>if j=i then G else F j) (σ.set i (some v)) H where
 len:=by simp[r.len]
 val:=λj d' b e=>by
  by_cases hj:j=i
  ·subst hj
   have hl:j<ρ.length:=by
    by_cases hl:j<ρ.length
    ·exact hl
    ·rw[Zt (by simp;omega)]at e;cases e
   rw[Zl hl]at e
   cases e
   exact⟨v,by rw[Zl (by rw[← r.len];exact hl)],by rw[if_pos rfl];exact rp⟩
  ·rw[Zc (Ne.symm hj)]at e
   obtain⟨w,h1,h2⟩:=r.val j d' b e
   exact⟨w,by rw[Zc (Ne.symm hj)];exact h1,by rw[if_neg hj];exact h2⟩
 own:=λj d' e=>by
  by_cases hj:j=i
  ·subst hj
   have hl:j<ρ.length:=by
    by_cases hl:j<ρ.length
    ·exact hl
    ·rw[Zt (by simp;omega)]at e;cases e
   rw[Zl hl]at e
   have e1:=Option.some.inj (Option.some.inj e)
   have ed:d=d':=congrArg Prod.fst e1
   have ef:d.flat=true:=congrArg Prod.snd e1
   subst ed
   have:=rp.QcJ ef
   subst this
   rw[if_pos rfl]
   exact⟨(Qe0 d ef).symm,ZaL,λa ha=>by simp at ha,λ_ _ _ _ _ a ha=>by simp at ha,λ_ _ a ha=>by simp at ha⟩
  ·rw[Zc (Ne.symm hj)]at e
   obtain⟨h1,h2,h3,h4,h5⟩:=r.own j d' e
   rw[if_neg hj]
   refine⟨h1,h2,h3,λk d'' b hk ek a ha=>?_,h5⟩
   by_cases hki:k=i
   ·subst hki
    rw[if_pos rfl]
    exact λhG=>(sh a hG).2 j d' e ha
   ·rw[Zc (Ne.symm hki)]at ek
    rw[if_neg hki]
    exact h4 k d'' b hk ek a ha
 src:=λj d' b e a ha=>by
  by_cases hj:j=i
  ·subst hj
   rw[if_pos rfl]at ha
   exact(sh a ha).1
  ·rw[Zc (Ne.symm hj)]at e
   rw[if_neg hj]at ha
   exact r.src j d' b e a ha
 held:=r.held
 same:=r.same
theorem QAm(r:Rel K H0 A0 hs ρ F σ H){M:List Nat}(ow:QbI ρ M)(nd:M.Nodup)(a:Addr):((M.map F).flatten).count a<=1:=by
 induction M with
 | nil=>simp
 | cons i M ih=>
  rw[ZJ,Zat,Zau]
  obtain⟨h1,h2⟩:=ZaB.mp nd
  have ih':=ih (λj hj=>ow j (Ze _ hj)) h2
  obtain⟨d,e⟩:=ow i Zp
  obtain⟨_,nd1,_,apart,_⟩:=r.own i d e
  by_cases ha:a∈F i
  ·have c1:(F i).count a<=1:=Zap.mp nd1 a
   have c2:((M.map F).flatten).count a=0:=ZQ.mpr λhm=>by
    obtain⟨l,hl,hal⟩:=ZbB.mp hm
    obtain⟨j,hj,rfl⟩:=ZS.mp hl
    obtain⟨d',e'⟩:=ow j (Ze _ hj)
    exact apart j d' true (λz=>h1 (z▸hj)) e' a ha hal
   omega
  ·have:(F i).count a=0:=ZQ.mpr ha
   omega
theorem Qag.fresh(r:Rel K H0 A0 hs ρ F σ H){rr:R}{v:V}{G:List Addr}(p:Qag K ρ F H H' rr v G)(hf:rr.fr=true)(nd:rr.M.Nodup):
  G.Nodup/\∀a∈G,H0 a=none/\(H a=none∨∃i d,i∈rr.M/\ρ[i]? =some (some (d,true))/\a∈F i):=by
 obtain⟨c,_⟩:=p.cnt hf
 refine⟨Zap.mpr λa=>?_,λa ha=>?_⟩
 ·have h1:=c a
  have h2:=QAm r p.own nd a
  cases q:H a with
  | none=>rw[QbS q,r.fl0 p.own q]at h1;omega
  | some o=>rw[QdR q]at h1;omega
 ·cases q:H a with
  | none=>exact⟨r.same.free q,.inl rfl⟩
  | some o=>
   have h1:=c a
   rw[QdR q]at h1
   have h2:0<G.count a:=Zai.mpr ha
   obtain⟨l,hl,hal⟩:=ZbB.mp (Zai.mp (by omega:0<((rr.M.map F).flatten).count a))
   obtain⟨i,hi,rfl⟩:=ZS.mp hl
   obtain⟨d,e⟩:=p.own i hi
   exact⟨(r.own i d e).2.2.1 a hal,.inr ⟨i,d,hi,e,hal⟩⟩
theorem Rel.QBk(r:Rel K H0 A0 hs ρ F σ H){i:Nat}{rr:R}{v:V}{G:List Addr}(p:Qag K ρ F H H' rr v G)(hf:rr.fr=true)(nd:rr.M.Nodup):
  Rel K H0 A0 hs ((kill rr.M ρ).set i (some (rr.d,true))) (λj=>if j=i then G else F j) (σ.set i (some v)) H':=by
 have r1:=(r.ext p.same).weak (Qdq rr.M ρ)
 obtain⟨gn,gs⟩:=p.fresh r hf nd
 have gl:=(p.cnt hf).2
 have apart:∀(j:Nat) d b,(kill rr.M ρ)[j]? =some (some (d,b))->∀a∈G,a∉F j:=λj d b e a ha hj=>by
  obtain⟨b',e',_⟩:=(Qdq rr.M ρ).2 j d b e
  rcases(gs a ha).2 with q | ⟨k,d',hk,ek,hak⟩
  ·obtain⟨vs,w⟩:=r.mem e' hj
   rw[q]at w;cases w
  ·have hjk:j≠k:=λz=>by subst z;exact QiJ rr.M ρ j d b hk e
   exact(r.own k d' ek).2.2.2.1 j d b' hjk e' a hak hj
 have apartH:∀t∈hs,∀a∈G,a∉t.2.2:=λt ht a ha hj=>by
  rcases(gs a ha).2 with q | ⟨k,d',hk,ek,hak⟩
  ·obtain⟨vs,w⟩:=(r.held t ht).1.mem a hj
   rw[q]at w;cases w
  ·exact(r.own k d' ek).2.2.2.2 t ht a hak hj
 have lt:∀{j:Nat}{x:Option (D×Bool)}{y:D×Bool},((kill rr.M ρ).set j x)[j]? =some (some y)->j<(kill rr.M ρ).length:=λ{j x y} e=>by
  by_cases hl:j<(kill rr.M ρ).length
  ·exact hl
  ·rw[Zt (by simp;omega)]at e;cases e
 refine⟨by simp[r1.len],λj d b e=>?_,λj d e=>?_,λj d b e a ha=>?_,r1.held,r1.same⟩
 ·by_cases hj:j=i
  ·subst hj
   have hl:=lt e
   rw[Zl hl]at e
   cases e
   exact⟨v,by rw[Zl (by rw[← r1.len];exact hl)],by rw[if_pos rfl];exact p.rp⟩
  ·rw[Zc (Ne.symm hj)]at e
   obtain⟨w,h1,h2⟩:=r1.val j d b e
   exact⟨w,by rw[Zc (Ne.symm hj)];exact h1,by rw[if_neg hj];exact h2⟩
 ·by_cases hj:j=i
  ·subst hj
   have hl:=lt e
   rw[Zl hl]at e
   cases e
   rw[if_pos rfl]
   refine⟨gl,gn,λa ha=>(gs a ha).1,λk d' b hk ek a ha=>?_,apartH⟩
   rw[Zc (Ne.symm hk)]at ek
   rw[if_neg hk]
   exact apart k d' b ek a ha
  ·rw[Zc (Ne.symm hj)]at e
   obtain⟨h1,h2,h3,h4,h5⟩:=r1.own j d e
   rw[if_neg hj]
   refine⟨h1,h2,h3,λk d' b hk ek a ha=>?_,h5⟩
   by_cases hki:k=i
   ·subst hki
    rw[if_pos rfl]
    exact λhG=>apart j d true e a hG ha
   ·rw[Zc (Ne.symm hki)]at ek
    rw[if_neg hki]
    exact h4 k d' b hk ek a ha
 ·by_cases hj:j=i
  ·subst hj
   rw[if_pos rfl]at ha
   exact .inl (gs a ha).1
  ·rw[Zc (Ne.symm hj)]at e
   rw[if_neg hj]at ha
   exact r1.src j d b e a ha
noncomputable def asg(i:Nat)(r:R)(ρ:En):En:=
 if r.norm.fr && decide r.norm.M.Nodup then(kill r.norm.M ρ).set i (some (r.d,true))else(Qbc r.norm.M ρ).set i (some (r.d,r.d.flat))
theorem Rel.asg(r:Rel K H0 A0 hs ρ F σ H){i:Nat}{rr:R}{v:V}{G:List Addr}(p:Qag K ρ F H H' rr v G):∃F',Rel K H0 A0 hs (asg i rr ρ) F' (σ.set i (some v)) H':=by
 have p':=p.norm
 unfold HS.asg
 split
 ·rename_i h
  simp only[Zj,decide_eq_true_eq]at h
  have:=r.QBk (i:=i) p' h.1 h.2
  rw[rr.QcX]at this
  exact⟨_,this⟩
 ·have r1:=(r.ext p'.same).weak (Qbp rr.norm.M ρ)
  have rp:=p'.rp
  rw[rr.QcX]at rp
  have sh:=Shr.of r p'.src
  exact⟨_,r1.QoT rp sh⟩
theorem Rel.hold(r:Rel K H0 A0 hs ρ F σ H){ts:List (V×D×List Addr)}(h:∀t∈ts,Rp K H t.2.1 t.1 t.2.2/\Shr H0 A0 ρ F t.2.2):Rel K H0 A0 (ts++hs) ρ F σ H where
 len:=r.len
 val:=r.val
 own:=λi d e=>by
  obtain⟨h1,h2,h3,h4,h5⟩:=r.own i d e
  refine⟨h1,h2,h3,h4,λt ht a ha hm=>?_⟩
  rcases ZC.mp ht with z | z
  ·exact((h t z).2 a hm).2 i d e ha
  ·exact h5 t z a ha hm
 src:=r.src
 held:=λt ht=>by
  rcases ZC.mp ht with z | z
  ·exact⟨(h t z).1,λa ha=>((h t z).2 a ha).1⟩
  ·exact r.held t z
 same:=r.same
theorem Rel.QnM{ts:List (V×D×List Addr)}(r:Rel K H0 A0 (ts++hs) ρ F σ H):Rel K H0 A0 hs ρ F σ H where
 len:=r.len
 val:=r.val
 own:=λi d e=>let ⟨h1,h2,h3,h4,h5⟩:=r.own i d e;⟨h1,h2,h3,h4,λt ht=>h5 t (Zb _ ht)⟩
 src:=r.src
 held:=λt ht=>r.held t (Zb _ ht)
 same:=r.same
end
end HS
namespace HS
open PySem PySem.Spec L2
structure Ret (K:PySem.W.Frag) (H0:Hp) (A0:List Addr) (d:D) (fr:Bool) (v:V) (H':Hp) (G:List Addr):Prop where
 same:QU H0 H'
 rp:Rp K H' d v G
 src:∀a∈G,H0 a=none∨a∈A0
 cnt:fr=true->G.Nodup/\G.length=d.nl/\∀a∈G,H0 a=none
noncomputable abbrev Den:=List D->Option (D×Bool)
noncomputable def spV(K:PySem.W.Frag)(n:Nat)(den:Den):Sp:=λvs H Q _=>∃ds F d fr,Rps K H ds vs F/\ds.length=n/\den ds=some (d,fr)/\∀v H' G,Ret K H F d fr v H' G->Q v H'
theorem QxY{K:PySem.W.Frag}{n:Nat}{den:Den}{ps:List Str}(hn:ps.length=n):∀vs H Q E,spV K n den vs H Q E->vs.length=ps.length:=λvs H Q E ⟨ds,F,d,fr,r,hl,_⟩=>by rw[hn,← hl,r.length]
noncomputable def Qj(n:Nat)(den:Den)(dfl:List D)(fs:DA):DE:=λρ=>(fs ρ).bind λr=>if r.ds.length+dfl.length=n then(den (r.ds++dfl)).map λq=>if q.2=true then⟨q.1,true,[]⟩else R.norm ⟨q.1,false,r.M⟩else none
section
variable {X:Cx}{e:Expr}{es:List Expr}{fs:DA}{pos p:Pos}{x:Str}{n k:Nat}{f:Addr}{fd:FuncData}{ps:List Str}{den:Den}{dfl:List D}{dvs:List V}{ds:List Value}
theorem QmV{σ:L2.St}{H H0:Hp}{A0:List Addr}{Q:VK}(hdf:∀H,Rps X.K H dfl dvs []):tV X.K H0 A0 (Qj n den dfl fs) σ H Q->Qrk (spV X.K n den) dvs E0 (tVA X.K H0 A0 fs) σ H Q:=λ⟨ρ,hs,F,r,rel,e,q⟩=>by
 obtain⟨ra,e1,e⟩:=bind1 e
 split at e
 ·rename_i hl
  obtain⟨⟨d,fr⟩,e2,e⟩:=Zf.mp e
  refine⟨ρ,hs,F,ra,rel,e1,λvs H1 G p1=>⟨ra.ds++dfl,G++[],d,fr,p1.rp.append (hdf H1),by rw[Zr];exact hl,e2,λv H2 G2 rt=>?_⟩⟩
  subst e
  have src:Src ρ F H ra.M G2:=λa ha=>by
   rcases rt.src a ha with z | z
   ·exact .inl (p1.same.free z)
   ·rw[ZaW]at z
    exact p1.src a z
  split at q
  ·rename_i hf
   have hf:fr=true:=hf
   obtain⟨nd,hn,fresh⟩:=rt.cnt hf
   have hH:∀a∈G2,H a=none:=λa ha=>p1.same.free (fresh a ha)
   refine q v H2 G2 ⟨p1.same.trans rt.same,rt.rp,λa ha=> .inl (hH a ha),λ_=>⟨λa=>?_,hn⟩,QbI.nil⟩
   by_cases ha:a∈G2
   ·rw[QbS (hH a ha)];have:=Zap.mp nd a;omega
   ·rw[ZQ.mpr ha];exact Zac _
  ·refine q v H2 G2 (Qag.norm ⟨p1.same.trans rt.same,rt.rp,src,λz=>(by cases z),p1.own⟩)
 ·cases e
theorem Qw4(Fk:Qb2 X.prog X.w X.K X.mg X.base CX0 k f fd ps (spV X.K n den))(hr:QaT k X.A)(hg:Gl X x)(hm:X.mg x=some (.ref f))(hk:PySem.W.keepIn X.K (.ref f)=true)(hb:Binds X.K fd ps ds)(hd:QF dvs ds)(hdf:∀H,Rps X.K H dfl dvs [])
  (ha:SA X (e::es) fs) (hdb:(x == ("__debug__" :Str))=false) (he:starEach (e::es) X.env=(false,eval e X.env)::starEach es X.env) (hpl:(backTo pos (starEach es X.env)).any (·.1)=false):
  SE X (.Call (.Name x p) (e::es) [] pos) (Qj n den dfl fs):=λH0 A0=>
 (QwQ Fk hr hg hm hk hb hd Qv3 (ha H0 A0) hdb he hpl).mono λσ H Q h=>QmV hdf h
theorem QuF(Fk:Qb2 X.prog X.w X.K X.mg X.base CX0 k f fd ps (spV X.K n den))(hr:QaT k X.A)(hg:Gl X x)(hm:X.mg x=some (.ref f))(hk:PySem.W.keepIn X.K (.ref f)=true)(hb:Binds X.K fd ps ds)(hd:QF dvs ds)(hdf:∀H,Rps X.K H dfl dvs [])
  (hdb:(x == ("__debug__" :Str))=false):SE X (.Call (.Name x p) [] [] pos) (Qj n den dfl Qg):=λH0 A0=>
 (Que Fk hr hg hm hk hb hd Qv3 hdb).mono λσ H Q h=>by
  have h':=QmV hdf h
  obtain⟨ρ,hs,F,r,rel,e,q⟩:=h'
  cases e
  exact q [] H [] ⟨QU.refl _,by simp[Rps],Src.nil,λ_=>⟨Cnt.nil,rfl⟩,QbI.nil⟩
end
structure IR where
 items:List D
 M:List Nat
noncomputable abbrev DI:=En->Option IR
def QoV(K:PySem.W.Frag)(H:Hp)(ts:List (V×D×List Addr)):Prop:=∀t∈ts,Rp K H t.2.1 t.1 t.2.2
structure Walk (K:PySem.W.Frag) (J:It) (ts:List (V×D×List Addr)) (ds:List D):Prop where
 stop:∀H,QoV K H ts->J.stop ds.length H
 go:∀i H,i<ds.length->QoV K H ts->J.go i H
 yld:∀(i:Nat) d H x H',ds[i]? =some d->QoV K H ts->J.yld i H x H'->QU H H'/\∃G,Rp K H' d x G/\∀a∈G,∃t∈ts,a∈t.2.2
noncomputable def tI(K:PySem.W.Frag)(H0:Hp)(A0:List Addr)(f:DI):TI:=λσ H Rr=>∃ρ hs F ir,Rel K H0 A0 hs ρ F σ H/\f ρ=some ir∧
 ∀J H1 ts,QU H H1->Walk K J ts ir.items->(∀t∈ts,Rp K H1 t.2.1 t.1 t.2.2/\Src ρ F H ir.M t.2.2)->QbI ρ ir.M->ir.items.length<=sizeLine->Rr J H1
def SI(X:Cx)(tg e:Expr)(f:DI):Prop:=∀H0 A0,PI X tg e (tI X.K H0 A0 f)
theorem _root_.L2.PI.mono{X:Cx}{tg e:Expr}{t t':TI}(h:PI X tg e t)(m:∀σ H Q,t' σ H Q->t σ H Q):PI X tg e t':=λpins s σ H Q I q=>h pins s σ H Q I (m σ H Q q)
section
variable {X:Cx}{tg a b:Expr}{fa fb:DE}{fs:DA}{pos p:Pos}
theorem Rps.nth{K:PySem.W.Frag}{H:Hp}{ds:List D}{vs:List V}{F:List Addr}{i:Nat}{d:D}(h:Rps K H ds vs F)(e:ds[i]? =some d):∃v G,vs[i]? =some v/\Rp K H d v G/\∀a∈G,a∈F:=by
 obtain⟨v,F1,G,F2,h1,h2,h3,_⟩:=h.get e
 exact⟨v,G,h1,h3,λa ha=>by rw[h2];exact Zb _ (Zd _ ha)⟩
noncomputable def QBj(K:PySem.W.Frag)(tl:TE):TI:=λσ H Rr=>tl σ H λx H1=>(∃a,x= .ref a/\(∃xs,SqL K H1 a xs)/\Rr (Itl K a) H1)∨(∃a,x= .ref a/\(∃xs,SqT K H1 a xs)/\Rr (Itt K a) H1)
theorem Qze{l:Expr}{tl:TE}(hl:PE X l tl):PI X tg l (QBj X.K tl):=by
 intro pins s σ H Rr I h
 refine thn (hl pins s σ H _ I h) λv s1 ⟨x,H1,I1,r1,q1⟩=>?_
 rcases q1 with⟨a,e,⟨xs,hq⟩,q⟩ | ⟨a,e,⟨xs,hq⟩,q⟩
 ·subst e
  cases r1
  obtain⟨its,rv,pl,hz⟩:=I1.list hq
  refine wpAny_pyIter_list pl.isList ⟨s1.heap.objs.size,[s1.heap.objs.size],_,_,H1,rfl,I1.kept (t':=s1.toks) λb o e=>Zn _ e,Qsm a _,⟨_,ZN _ rfl,rfl,rfl⟩,λb hb=>?_,q⟩
  have e:b=s1.heap.objs.size:=by simpa using hb
  subst e
  exact I1.Ql9 (Zh _) (I1.hok.fresh (Zh _))
 ·subst e
  cases r1
  obtain⟨its,rv,pl,hz⟩:=I1.tuple hq
  refine wpAny_pyIter_tuple (show s1.heap.IsTuple a its.toArray from pl) ⟨s1.heap.objs.size,[s1.heap.objs.size],_,_,H1,rfl,I1.kept (t':=s1.toks) λb o e=>Zn _ e,Qq9 a _,⟨_,ZN _ rfl,rfl,rfl⟩,λb hb=>?_,q⟩
  have e:b=s1.heap.objs.size:=by simpa using hb
  subst e
  exact I1.Ql9 (Zh _) (I1.hok.fresh (Zh _))
noncomputable def QY(fa:DE):DI:=λρ=>(fa ρ).bind λr=>match r.d with
 | .lst xs=>some ⟨xs,r.M⟩
 | .tup xs=>if xs.length<=sizeLine then some ⟨xs,r.M⟩else none
 | _=>none
theorem Qsn{K:PySem.W.Frag}{c:Addr}{ds:List D}{G:List Addr}:Walk K (Itl K c) [(.ref c,.lst ds,G)] ds where
 stop:=λH h=>by
  obtain⟨l,vs,L,e,hl,rl,zl,el⟩:=(h _ (ZG.mpr rfl)).lst_inv
  cases e
  exact⟨vs,Qap hl,by rw[rl.length];exact Zh _⟩
 go:=λi H hi h=>by
  obtain⟨l,vs,L,e,hl,rl,zl,el⟩:=(h _ (ZG.mpr rfl)).lst_inv
  cases e
  have:i<vs.length:=by rw[← rl.length];exact hi
  exact⟨vs,vs[i],Qap hl,by simp[this]⟩
 yld:=λi d H x H' e h y=>by
  obtain⟨l,vs,L,e1,hl,rl,zl,el⟩:=(h _ (ZG.mpr rfl)).lst_inv
  cases e1
  obtain⟨rfl,y⟩:=y
  obtain⟨v,G',h1,h2,h3⟩:=rl.nth e
  have:=y vs (Qap hl)
  rw[h1]at this
  cases this
  refine⟨QU.refl _,G',h2,λz hz=>⟨_,ZG.mpr rfl,?_⟩⟩
  have:=h3 z hz
  rcases el with rfl | rfl
  ·exact Ze _ this
  ·exact this
theorem Qvv{K:PySem.W.Frag}{c:Addr}{ds:List D}{G:List Addr}:Walk K (Itt K c) [(.ref c,.tup ds,G)] ds where
 stop:=λH h=>by
  obtain⟨l,vs,e,hl,rl⟩:=(h _ (ZG.mpr rfl)).QbQ
  cases e
  exact⟨vs,hl,by rw[rl.length];exact Zh _⟩
 go:=λi H hi h=>by
  obtain⟨l,vs,e,hl,rl⟩:=(h _ (ZG.mpr rfl)).QbQ
  cases e
  have:i<vs.length:=by rw[← rl.length];exact hi
  exact⟨vs,vs[i],hl,by simp[this]⟩
 yld:=λi d H x H' e h y=>by
  obtain⟨l,vs,e1,hl,rl⟩:=(h _ (ZG.mpr rfl)).QbQ
  cases e1
  obtain⟨rfl,y⟩:=y
  obtain⟨v,G',h1,h2,h3⟩:=rl.nth e
  have:=y vs hl
  rw[h1]at this
  cases this
  exact⟨QU.refl _,G',h2,λz hz=>⟨_,ZG.mpr rfl,h3 z hz⟩⟩
theorem QzG(ha:SE X a fa):SI X tg a (QY fa):=λH0 A0=>(Qze (ha H0 A0)).mono λσ H Rr ⟨ρ,hs,F,ir,rel,e,q⟩=>by
 obtain⟨r,e1,e⟩:=bind1 e
 refine⟨ρ,hs,F,r,rel,e1,λv H1 G p=>?_⟩
 have rp:=p.rp
 cases hr:r.d with
 | lst xs=>
  rw[hr]at e rp
  cases e
  obtain⟨c,vs,L,rfl,hl,rl,zl,el⟩:=rp.lst_inv
  refine .inl ⟨c,rfl,⟨vs,Qap hl⟩,q _ H1 [(.ref c,.lst xs,G)] p.same Qsn (λt ht=>?_) p.own zl⟩
  rw[ZG.mp ht]
  exact⟨rp,p.src⟩
 | tup xs=>
  rw[hr]at e rp
  dsimp only at e
  split at e
  ·rename_i hz
   cases e
   obtain⟨c,vs,rfl,hl,rl⟩:=rp.QbQ
   refine .inr ⟨c,rfl,⟨vs,hl⟩,q _ H1 [(.ref c,.tup xs,G)] p.same Qvv (λt ht=>?_) p.own hz⟩
   rw[ZG.mp ht]
   exact⟨rp,p.src⟩
  ·cases e
 | _=>rw[hr]at e;cases e
noncomputable def QiN(lo:Int)(n:Nat):List D:=(List.range n).map λ(k:Nat)=> .int (lo+(k:Int))
theorem QhT{lo:Int}{n:Nat}:(QiN lo n).length=n:=by simp[QiN]
theorem QtX{lo:Int}{n i:Nat}{d:D}(h:(QiN lo n)[i]? =some d):i<n/\d= .int (lo+i):=by
 unfold QiN at h
 rw[Zm]at h
 cases q:(List.range n)[i]? with
 | none=>rw[q]at h;cases h
 | some k=>
  rw[q]at h
  obtain⟨h1,h2⟩:=Zg.mp q
  simp at h1 h2
  subst h2
  exact⟨h1,(Option.some.inj h).symm⟩
theorem Qk7{K:PySem.W.Frag}{lo:Int}{n:Nat}:Walk K (Itr lo n) [] (QiN lo n) where
 stop:=λH _=>by rw[QhT];exact Zh _
 go:=λi H hi _=>by rw[QhT]at hi;exact hi
 yld:=λi d H x H' e _ y=>by
  obtain⟨h1,rfl⟩:=QtX e
  obtain⟨rfl,rfl⟩:=y
  exact⟨QU.refl _,[],.int_mk,λz hz=>by simp at hz⟩
noncomputable def QaY(fa:DE):DI:=λρ=>(fa ρ).bind λr=>match r.d with
 | .int j=>if j<=16777216/\ -(2^62)<=j then some ⟨QiN 0 j.toNat,[]⟩else none
 | _=>none
noncomputable def QdN(fa fb:DE):DI:=λρ=>(fa ρ).bind λr=>(fb ρ).bind λr'=>match r.d,r'.d with
 | .int i,.int j=>if j-i<=16777216/\ -(2^62)<=i/\i<2^62/\ -(2^62)<=j/\j<2^62 then some ⟨QiN i (j-i).toNat,[]⟩else none
 | _,_=>none
theorem Qhi:(sizeLine:Nat)=16777216:=sizeLine_eq
theorem Qtx(hg:Gl X "range")(hm:X.mg "range" =none)(ha:SE X a fa)(hs:starEach [a] X.env=[(false,eval a X.env)]):SI X tg (.Call (.Name "range" p) [a] [] pos) (QaY fa):=λH0 A0=>
 (Qsc hg hm (QaP (ha H0 A0) QdV hs) hs).mono λσ H Rr ⟨ρ,hs,F,ir,rel,e,q⟩=>by
  obtain⟨r,e1,e⟩:=bind1 e
  refine⟨ρ,hs,F,r,rel,e1,λv H1 G pp=>?_⟩
  have rp:=pp.rp
  cases hr:r.d with
  | int j=>
   rw[hr]at e rp
   dsimp only at e
   split at e
   ·rename_i hz
    cases e
    rw[rp.int_inv]
    refine⟨j,rfl,hz.2,by omega,q _ H1 [] pp.same Qk7 (λt ht=>by simp at ht) QbI.nil ?_⟩
    rw[QhT,Qhi];omega
   ·cases e
  | _=>rw[hr]at e;cases e
theorem QtG(hg:Gl X "range")(hm:X.mg "range" =none)(ha:SE X a fa)(hb:SE X b fb)(hs:starEach [a,b] X.env=[(false,eval a X.env),(false,eval b X.env)])(hs2:starEach [b] X.env=[(false,eval b X.env)]):
  SI X tg (.Call (.Name "range" p) [a,b] [] pos) (QdN fa fb):=λH0 A0=>
 (Qsq hg hm (QaP (ha H0 A0) (QaP (hb H0 A0) QdV hs2) (by rw[hs,hs2])) hs hs2).mono λσ H Rr ⟨ρ,hs,F,ir,rel,e,q⟩=>by
  obtain⟨r,e1,e⟩:=bind1 e
  obtain⟨r',e2,e⟩:=bind1 e
  refine⟨ρ,hs,F,r,rel,e1,λv H1 G pp=>⟨ρ,hs,F,r',rel.ext pp.same,e2,λv' H2 G' pp'=>?_⟩⟩
  have rp:=pp.rp.same pp'.same
  have rp':=pp'.rp
  cases hr:r.d with
  | int i=>
   cases hr':r'.d with
   | int j=>
    rw[hr,hr']at e
    rw[hr]at rp
    rw[hr']at rp'
    dsimp only at e
    split at e
    ·rename_i hz
     cases e
     rw[rp.int_inv,rp'.int_inv]
     refine⟨i,j,rfl,hz.2,q _ H2 [] (pp.same.trans pp'.same) Qk7 (λt ht=>by simp at ht) QbI.nil ?_⟩
     rw[QhT,Qhi];omega
    ·cases e
   | _=>rw[hr,hr']at e;cases e
  | _=>rw[hr]at e;cases e
noncomputable def Qft(ds:List D):List D:=ds.zipIdx.map λq=> .tup [.int q.2,q.1]
theorem Qib{ds:List D}:(Qft ds).length=ds.length:=by simp[Qft]
theorem Qtw{ds:List D}{i:Nat}{d:D}(h:(Qft ds)[i]? =some d):∃e,ds[i]? =some e/\d= .tup [.int i,e]:=by
 unfold Qft at h
 rw[Zm,List.getElem?_zipIdx]at h
 cases q:ds[i]? with
 | none=>rw[q]at h;cases h
 | some e=>rw[q]at h;simp at h;exact⟨e,rfl,h.symm⟩
theorem QsP{K:PySem.W.Frag}{c:Addr}{ds:List D}{G:List Addr}:Walk K (Ite K c) [(.ref c,.lst ds,G)] (Qft ds) where
 stop:=λH h=>by
  obtain⟨l,vs,L,e,hl,rl,zl,el⟩:=(h _ (ZG.mpr rfl)).lst_inv
  cases e
  exact⟨vs,Qap hl,by rw[Qib,rl.length];exact Zh _⟩
 go:=λi H hi h=>by
  obtain⟨l,vs,L,e,hl,rl,zl,el⟩:=(h _ (ZG.mpr rfl)).lst_inv
  cases e
  rw[Qib]at hi
  have:i<vs.length:=by rw[← rl.length];exact hi
  exact⟨vs,vs[i],Qap hl,by simp[this]⟩
 yld:=λi d H x H' e h y=>by
  obtain⟨l,vs,L,e1,hl,rl,zl,el⟩:=(h _ (ZG.mpr rfl)).lst_inv
  cases e1
  obtain⟨d',e',rfl⟩:=Qtw e
  obtain⟨pp,u,rfl,hp,rfl,y⟩:=y
  obtain⟨v,G',h1,h2,h3⟩:=rl.nth e'
  have:=y vs (Qap hl)
  rw[h1]at this
  cases this
  have s:=QbZ (o:= .tup [.int i,u]) hp
  refine⟨s,G',Rp.QiO Qaw ?_,λz hz=>⟨_,ZG.mpr rfl,?_⟩⟩
  ·simp only[Rps]
   exact⟨.int i,[u],[],G',rfl,rfl,.int_mk,u,[],G',[],rfl,by simp,h2.same s,rfl,rfl⟩
  ·have:=h3 z hz
   rcases el with rfl | rfl
   ·exact Ze _ this
   ·exact this
noncomputable def QgZ(fa:DE):DI:=λρ=>(fa ρ).bind λr=>match r.d with
 | .lst xs=>some ⟨Qft xs,r.M⟩
 | _=>none
theorem QwE{es:List Expr}{tk:Nat}{tpos:Pos}(hg:Gl X "enumerate")(hm:X.mg "enumerate" =none)(ha:SE X a fa)(hs:starEach [a] X.env=[(false,eval a X.env)]):SI X (.Tuple es tk tpos) (.Call (.Name "enumerate" p) [a] [] pos) (QgZ fa):=λH0 A0=>
 (Qxr hg hm (QaP (ha H0 A0) QdV hs) hs).mono λσ H Rr ⟨ρ,hs,F,ir,rel,e,q⟩=>by
  obtain⟨r,e1,e⟩:=bind1 e
  refine⟨ρ,hs,F,r,rel,e1,λv H1 G pp=>?_⟩
  have rp:=pp.rp
  cases hr:r.d with
  | lst xs=>
   rw[hr]at e rp
   cases e
   obtain⟨c,vs,L,rfl,hl,rl,zl,el⟩:=rp.lst_inv
   refine⟨c,rfl,⟨vs,Qap hl⟩,q _ H1 [(.ref c,.lst xs,G)] pp.same QsP (λt ht=>?_) pp.own (by rw[Qib];exact zl)⟩
   rw[ZG.mp ht]
   exact⟨rp,pp.src⟩
  | _=>rw[hr]at e;cases e
noncomputable def Qii(xs ys:List D):List D:=(xs.zip ys).map λq=> .tup [q.1,q.2]
theorem QjH{xs ys:List D}:(Qii xs ys).length=min xs.length ys.length:=by simp[Qii]
theorem Qvc{xs ys:List D}{i:Nat}{d:D}(h:(Qii xs ys)[i]? =some d):∃e f,xs[i]? =some e/\ys[i]? =some f/\d= .tup [e,f]:=by
 unfold Qii at h
 rw[Zm]at h
 cases q:(xs.zip ys)[i]? with
 | none=>rw[q]at h;cases h
 | some e=>
  rw[q]at h
  obtain⟨h1,h2⟩:=List.getElem?_zip_eq_some.mp q
  exact⟨e.1,e.2,h1,h2,(Option.some.inj h).symm⟩
theorem QvK{K:PySem.W.Frag}{c c':Addr}{xs ys:List D}{G G':List Addr}:Walk K (Itz K c c') [(.ref c,.lst xs,G),(.ref c',.lst ys,G')] (Qii xs ys) where
 stop:=λH h=>by
  obtain⟨l,vs,L,e,hl,rl,zl,el⟩:=(h _ (Zp)).lst_inv
  obtain⟨l',vs',L',e',hl',rl',zl',el'⟩:=(h _ (Ze _ Zp)).lst_inv
  cases e
  cases e'
  refine⟨vs,vs',Qap hl,Qap hl',?_⟩
  rw[QjH,← rl.length,← rl'.length];omega
 go:=λi H hi h=>by
  obtain⟨l,vs,L,e,hl,rl,zl,el⟩:=(h _ (Zp)).lst_inv
  obtain⟨l',vs',L',e',hl',rl',zl',el'⟩:=(h _ (Ze _ Zp)).lst_inv
  cases e
  cases e'
  rw[QjH]at hi
  have h1:i<vs.length:=by rw[← rl.length];omega
  have h2:i<vs'.length:=by rw[← rl'.length];omega
  exact⟨vs,vs',vs[i],vs'[i],Qap hl,Qap hl',by simp[h1],by simp[h2]⟩
 yld:=λi d H x H' e h y=>by
  obtain⟨l,vs,L,e1,hl,rl,zl,el⟩:=(h _ (Zp)).lst_inv
  obtain⟨l',vs',L',e1',hl',rl',zl',el'⟩:=(h _ (Ze _ Zp)).lst_inv
  cases e1
  cases e1'
  obtain⟨d1,d2,ea,eb,rfl⟩:=Qvc e
  obtain⟨pp,u,u',rfl,hp,rfl,y,y'⟩:=y
  obtain⟨v,G1,h1,h2,h3⟩:=rl.nth ea
  obtain⟨v',G2,h1',h2',h3'⟩:=rl'.nth eb
  have:=y vs (Qap hl)
  rw[h1]at this
  cases this
  have:=y' vs' (Qap hl')
  rw[h1']at this
  cases this
  have s:=QbZ (o:= .tup [u,u']) hp
  refine⟨s,G1++G2,Rp.QiO Qaw ?_,λz hz=>?_⟩
  ·simp only[Rps]
   exact⟨u,[u'],G1,G2,rfl,rfl,h2.same s,u',[],G2,[],rfl,by simp,h2'.same s,rfl,rfl⟩
  ·rcases ZC.mp hz with hz | hz
   ·refine⟨_,Zp,?_⟩
    have:=h3 z hz
    rcases el with rfl | rfl
    ·exact Ze _ this
    ·exact this
   ·refine⟨_,Ze _ Zp,?_⟩
    have:=h3' z hz
    rcases el' with rfl | rfl
    ·exact Ze _ this
    ·exact this
noncomputable def Qe3(fa fb:DE):DI:=λρ=>(fa ρ).bind λr=>(fb ρ).bind λr'=>match r.d,r'.d with
 | .lst xs,.lst ys=>some ⟨Qii xs ys,r.M++r'.M⟩
 | _,_=>none
theorem Qy0{es:List Expr}{tk:Nat}{tpos:Pos}(hg:Gl X "zip")(hm:X.mg "zip" =none)(ha:SE X a fa)(hb:SE X b fb)(hs:starEach [a,b] X.env=[(false,eval a X.env),(false,eval b X.env)])(hs2:starEach [b] X.env=[(false,eval b X.env)]):
  SI X (.Tuple es tk tpos) (.Call (.Name "zip" p) [a,b] [] pos) (Qe3 fa fb):=λH0 A0=>
 (Qzh hg hm (QaP (ha H0 A0) (QaP (hb H0 A0) QdV hs2) (by rw[hs,hs2])) hs hs2).mono λσ H Rr ⟨ρ,hs,F,ir,rel,e,q⟩=>by
  obtain⟨r,e1,e⟩:=bind1 e
  obtain⟨r',e2,e⟩:=bind1 e
  refine⟨ρ,hs,F,r,rel,e1,λv H1 G pp=>⟨ρ,hs,F,r',rel.ext pp.same,e2,λv' H2 G' pp'=>?_⟩⟩
  have rp:=pp.rp.same pp'.same
  have rp':=pp'.rp
  cases hr:r.d with
  | lst xs=>
   cases hr':r'.d with
   | lst ys=>
    rw[hr,hr']at e
    rw[hr]at rp
    rw[hr']at rp'
    cases e
    obtain⟨c,vs,L,rfl,hl,rl,zl,el⟩:=rp.lst_inv
    obtain⟨c',vs',L',rfl,hl',rl',zl',el'⟩:=rp'.lst_inv
    refine⟨c,c',rfl,⟨vs,Qap hl⟩,⟨vs',Qap hl'⟩,q _ H2 [(.ref c,.lst xs,G),(.ref c',.lst ys,G')] (pp.same.trans pp'.same) QvK (λt ht=>?_) (pp.own.append pp'.own) (by rw[QjH];omega)⟩
    have sa:=pp.src.append pp'.src pp.same
    rcases Zq.mp ht with rfl | ht
    ·exact⟨rp,λz hz=>sa z (Zd _ hz)⟩
    ·rw[ZG.mp ht]
     exact⟨rp',λz hz=>sa z (Zb _ hz)⟩
   | _=>rw[hr,hr']at e;cases e
  | _=>rw[hr]at e;cases e
end
end HS
namespace HS
open PySem L2
section
variable {X:Cx}{a b c:Expr}{fa fb fc:DE}{pos p:Pos}
end
end HS
namespace HS
open PySem PySem.Spec L2
inductive Tg where
 | nm (i:Nat)
 | tp (is:List Nat)
noncomputable def Tg.slots:Tg->List Nat
 | .nm i=>[i]
 | .tp is=>is
noncomputable def Qer:List Nat->List D->En->En
 | i::is,d::ds,ρ=>Qer is ds (ρ.set i (some (d,d.flat)))
 | _,_,ρ=>ρ
noncomputable def Qcf:Tg->D->En->Option En
 | .nm i,d,ρ=>some (ρ.set i (some (d,d.flat)))
 | .tp is,.tup xs,ρ=>if xs.length=is.length then some (Qer is xs ρ)else none
 | .tp is,.lst xs,ρ=>if xs.length=is.length then some (Qer is xs ρ)else none
 | .tp _,_,_=>none
noncomputable def tG(K:PySem.W.Frag)(H0:Hp)(A0:List Addr)(t:Tg):TG:=λv σ H Q=>∃ρ hs F d G ρ',Rel K H0 A0 hs ρ F σ H/\Rp K H d v G/\Shr H0 A0 ρ F G/\Qcf t d ρ=some ρ'∧
 ∀σ' F',Rel K H0 A0 hs ρ' F' σ' H->(∀j,j∉t.slots->σ'[j]? =σ[j]?)->(∀j a,a∈F' j->a∈F j∨a∈G)->Q σ' H
def SG(X:Cx)(tg:Expr)(t:Tg):Prop:=∀H0 A0,PG X tg (tG X.K H0 A0 t)
theorem _root_.L2.PG.mono{X:Cx}{tg:Expr}{t t':TG}(h:PG X tg t)(m:∀v σ H Q,t' v σ H Q->t v σ H Q):PG X tg t':=λpins s σ H v u Q I r q=>h pins s σ H v u Q I r (m v σ H Q q)
noncomputable def Qlj:List Nat->TGs
 | []=>Qzq
 | i::is=>Qv0 (Qgf i) (Qlj is)
theorem Shr.set{H0:Hp}{A0:List Addr}{ρ:En}{F:Nat->List Addr}{G G1:List Addr}{i:Nat}{d:D}(h:Shr H0 A0 ρ F G)(hf:d.flat=true->G1=[]):Shr H0 A0 (ρ.set i (some (d,d.flat))) (λj=>if j=i then G1 else F j) G:=λa ha=>by
 refine⟨(h a ha).1,λj d' e=>?_⟩
 by_cases hj:j=i
 ·subst hj
  show ¬a∈(if j=j then G1 else F j)
  rw[if_pos rfl]
  have hl:j<ρ.length:=by
   by_cases hl:j<ρ.length
   ·exact hl
   ·rw[Zt (by simp;omega)]at e;cases e
  rw[Zl hl]at e
  have e1:=Option.some.inj (Option.some.inj e)
  rw[hf (congrArg Prod.snd e1)]
  simp
 ·rw[Zc (Ne.symm hj)]at e
  show ¬a∈(if j=i then G1 else F j)
  rw[if_neg hj]
  exact(h a ha).2 j d' e
theorem QjT{K:PySem.W.Frag}{H0:Hp}{A0:List Addr}{hs:List (V×D×List Addr)}:∀(is:List Nat) (ds:List D) (vs:List V) (ρ:En) (F:Nat->List Addr) (σ:L2.St) (H:Hp) (G:List Addr) (Q:L2.St->Hp->Prop),
  Rel K H0 A0 hs ρ F σ H->Rps K H ds vs G->Shr H0 A0 ρ F G->ds.length=is.length→
  (∀σ' F',Rel K H0 A0 hs (Qer is ds ρ) F' σ' H->(∀j,j∉is->σ'[j]? =σ[j]?)->(∀j a,a∈F' j->a∈F j∨a∈G)->Q σ' H)->Qlj is vs σ H Q
 | [],ds,vs,ρ,F,σ,H,G,Q,rel,rp,sh,hl,q=>by
  have:ds=[]:=by simpa using hl
  subst this
  simp only[Rps]at rp
  exact⟨rp.1,q σ F rel (λ_ _=>rfl) λ_ _ h=> .inl h⟩
 | i::is,[],vs,ρ,F,σ,H,G,Q,rel,rp,sh,hl,q=>by simp at hl
 | i::is,d::ds,vs,ρ,F,σ,H,G,Q,rel,rp,sh,hl,q=>by
  simp only[Rps]at rp
  obtain⟨v,ws,G1,G2,rfl,rfl,r1,r2⟩:=rp
  refine⟨v,ws,rfl,?_⟩
  have sh1:Shr H0 A0 ρ F G1:=λa ha=>sh a (Zd _ ha)
  have sh2:Shr H0 A0 ρ F G2:=λa ha=>sh a (Zb _ ha)
  refine QjT is ds ws _ _ _ H G2 Q (rel.QoT r1 sh1) r2 (sh2.set r1.QcJ) (by simpa using hl) λσ' F' rel' k m=>q σ' F' rel' (λj hj=>?_) λj a ha=>?_
  ·have h1:j≠i:=λz=>hj (by rw[z];exact Zp)
   rw[k j λz=>hj (Ze _ z),Zc (Ne.symm h1)]
  ·rcases m j a ha with z | z
   ·by_cases hj:j=i
    ·rw[if_pos hj]at z;exact .inr (Zd _ z)
    ·rw[if_neg hj]at z;exact .inl z
   ·exact .inr (Zb _ z)
section
variable {X:Cx}{tg:Expr}{pos:Pos}
theorem Qxu{i:Nat}{x:Str}(h:PG X (.Name x pos) (Qgf i)):SG X (.Name x pos) (.nm i):=λH0 A0=>h.mono λv σ H Q ⟨ρ,hs,F,d,G,ρ',rel,rp,sh,e,q⟩=>by
 cases e
 refine q _ _ (rel.QoT rp sh) (λj hj=>?_) λj a ha=>?_
 ·have:j≠i:=λz=>hj (by simp[Tg.slots,z])
  rw[Zc (Ne.symm this)]
 ·by_cases hj:j=i
  ·rw[if_pos hj]at ha;exact .inr ha
  ·rw[if_neg hj]at ha;exact .inl ha
theorem Qw8{es:List Expr}{k:Nat}{t:TGs}{n:Nat}(hc:X.calm=true)(h:PGs X es t)
  (hn:(assignEach es X.env).length=n) (hst:(assignEach es X.env).findIdx? (·.1)=none):PG X (.Tuple es k pos) (λv σ H Q=>∃a xs,v= .ref a/\SqL X.K H a xs/\xs.length=n/\t xs σ H Q):=by
 intro pins s σ H v u Q I r hw
 obtain⟨a,xs,e1,hq,hl,hw⟩:=hw
 subst e1
 cases r
 obtain⟨its,rv,ht,hz⟩:=I.list hq
 rw[PyProof.Rows.assign_Tuple]
 refine wpAny_bind (wpAny_standAt ?_)
 unfold unpack
 rw[hn,hst,show n=its.toArray.size by simp[← hl,rv.length]]
 refine wpAny_bind (wpAny_holding (PySem.W.kun_itemsOf (I.ok.hd hc) ht.isList λh' hx=>?_))
 have I1:Inv X pins σ H {s with heap:=h'}:=I.kept (t':=s.toks) λb o e=>hx b o (ZU (ZA e)) e
 exact h pins _ σ H xs _ Q I1 (by simpa using rv) hw
theorem Qzn{es:List Expr}{k:Nat}{is:List Nat}(hc:X.calm=true)(h:PGs X es (Qlj is))(hn:(assignEach es X.env).length=is.length)(hst:(assignEach es X.env).findIdx? (·.1)=none):SG X (.Tuple es k pos) (.tp is):=λH0 A0=>
 λpins s σ H v u Q I r ⟨ρ,hs,F,d,G,ρ',rel,rp,sh,e,q⟩=>by
  cases d with
  | tup xs=>
   simp only[Qcf]at e
   split at e
   ·rename_i hl
    cases e
    obtain⟨a,vs,rfl,hq,rs⟩:=rp.QbQ
    exact Qym hc h hn hst pins s σ H _ u Q I r ⟨a,vs,rfl,hq,by rw[← rs.length];exact hl,QjT is xs vs ρ F σ H G Q rel rs sh hl q⟩
   ·cases e
  | lst xs=>
   simp only[Qcf]at e
   split at e
   ·rename_i hl
    cases e
    obtain⟨a,vs,L,rfl,hq,rs,_,eG⟩:=rp.lst_inv
    have sub:∀b∈L,b∈G:=λb hb=>by
     rcases eG with rfl | rfl
     ·exact Ze _ hb
     ·exact hb
    exact Qw8 hc h hn hst pins s σ H _ u Q I r ⟨a,vs,rfl,Qap hq,by rw[← rs.length];exact hl,QjT is xs vs ρ F σ H L Q rel rs (λb hb=>sh b (sub b hb)) hl λσ' F' rel' k m=>q σ' F' rel' k λj b hb=>(m j b hb).imp id (sub b)⟩
   ·cases e
  | _=>simp only[Qcf]at e;cases e
end
noncomputable def Qfv(cap:List (Option Nat))(ρ:En):En:=cap.map λo=>o.bind λi=>match ρ[i]? with
 | some (some (d,_))=>some (d,d.flat)
 | _=>none
noncomputable def Qrp(cap:List (Option Nat))(ρ:En):List Nat:=cap.filterMap λo=>o.bind λi=>match ρ[i]? with
 | some (some (d,b))=>if b && !d.flat then some i else none
 | _=>none
noncomputable def QgD(t:Tg)(ft:DT)(fe:DE)(ρc:En)(acc:List D×Bool)(d:D):Option (List D×Bool):=
 (Qcf t d ρc).bind λρ1=>(ft ρ1).bind λc=>if c=true then(fe ρ1).map λr=>(acc.1++[r.d],acc.2 && r.norm.fr)else some acc
noncomputable def QM(fi:DI)(t:Tg)(cap:List (Option Nat))(ft:DT)(fe:DE):DE:=λρ=>(fi ρ).bind λir=>
 (ir.items.foldlM (QgD t ft fe (Qfv cap ρ)) ([],true)).map λq=>if q.2=true then⟨.lst q.1,true,[]⟩else⟨.lst q.1,false,ir.M++Qrp cap ρ⟩
def QdL(ρ:En):Prop:=∀(j:Nat) d,ρ[j]? =some (some (d,true))->d.flat=true
theorem QdL.set{ρ:En}(h:QdL ρ)(i:Nat)(d:D):QdL (ρ.set i (some (d,d.flat))):=λj d' e=>by
 by_cases hj:j=i
 ·subst hj
  have hl:j<ρ.length:=by
   by_cases hl:j<ρ.length
   ·exact hl
   ·rw[Zt (by simp;omega)]at e;cases e
  rw[Zl hl]at e
  have e1:=Option.some.inj (Option.some.inj e)
  have h1:d=d':=congrArg Prod.fst e1
  have h2:d.flat=true:=congrArg Prod.snd e1
  rw[← h1];exact h2
 ·rw[Zc (Ne.symm hj)]at e
  exact h j d' e
theorem QdL.Qer:∀(is:List Nat) (ds:List D) {ρ:En},QdL ρ->QdL (Qer is ds ρ)
 | [],_,_,h=>h
 | _::_,[],_,h=>h
 | i::is,d::ds,_,h=>QdL.Qer is ds (h.set i d)
theorem QdL.bind{t:Tg}{d:D}{ρ ρ':En}(h:QdL ρ)(e:Qcf t d ρ=some ρ'):QdL ρ':=by
 cases t with
 | nm i=>cases e;exact h.set i d
 | tp is=>
  cases d with
  | tup xs=>
   simp only[Qcf]at e
   split at e
   ·cases e;exact h.Qer is xs
   ·cases e
  | lst xs=>
   simp only[Qcf]at e
   split at e
   ·cases e;exact h.Qer is xs
   ·cases e
  | _=>simp only[Qcf]at e;cases e
theorem Qka(cap:List (Option Nat))(ρ:En):QdL (Qfv cap ρ):=λj d e=>by
 unfold Qfv at e
 rw[Zm]at e
 cases q:cap[j]? with
 | none=>rw[q]at e;cases e
 | some o=>
  rw[q]at e
  cases o with
  | none=>cases e
  | some i=>
   simp only[Zae,Za,Option.some.injEq]at e
   split at e
   ·have e1:=Option.some.inj e
    have h1:=congrArg Prod.fst e1
    have h2:=congrArg Prod.snd e1
    dsimp only at h1 h2
    rw[← h1];exact h2
   ·cases e
theorem Qmu{cap:List (Option Nat)}{ρ:En}{j:Nat}{d:D}{b:Bool}(e:(Qfv cap ρ)[j]? =some (some (d,b))):∃i b',cap[j]? =some (some i)/\ρ[i]? =some (some (d,b')):=by
 unfold Qfv at e
 rw[Zm]at e
 cases q:cap[j]? with
 | none=>rw[q]at e;cases e
 | some o=>
  rw[q]at e
  cases o with
  | none=>cases e
  | some i=>
   simp only[Zae,Za,Option.some.injEq]at e
   split at e
   ·rename_i d' b' hi
    have e1:=Option.some.inj e
    have h1:d'=d:=congrArg Prod.fst e1
    subst h1
    exact⟨i,b',rfl,hi⟩
   ·cases e
def QoB(X:Cx)(ifs:List Expr)(f:DT):Prop:=∀H0 A0,PTs X ifs (tVT X.K H0 A0 f)
noncomputable def QW:DT:=λ_=>some true
theorem Qvi{X:Cx}:QoB X [] QW:=λH0 A0 pins s σ H Q I ⟨ρ,hs,F,b,rel,e,q⟩=>by
 cases e
 exact Qxn pins s σ H Q I (q H (QU.refl _))
theorem QtR{X:Cx}{c:Expr}{f:DT}(h:ST X c f):QoB X [c] f:=λH0 A0=>QxT (h H0 A0)
structure Qnm (X:Cx) (N':List Str) (scope:Scope) (cap:List (Option Nat)) (tgs:List Nat):Prop where
 len:cap.length=N'.length
 get:∀(j i:Nat),cap[j]? =some (some i)->∃x,N'[j]? =some x/\scope.names.lookup x=some .free/\X.N[i]? =some x/\(X.env.kindOf x=some .cell∨X.env.kindOf x=some .free)
 apart:∀(j i:Nat),cap[j]? =some (some i)->j∉tgs
theorem join_some{α:Type}{o:Option (Option α)}{v:α}(h:o.join=some v):o=some (some v):=by
 cases o with
 | none=>cases h
 | some p=>cases p with
  | none=>cases h
  | some x=>exact h▸rfl
theorem QmC{X:Cx}{N':List Str}{scope:Scope}{fi:DI}{t:Tg}{cap:List (Option Nat)}{ft:DT}{fe:DE}{H0:Hp}{A0:List Addr}{σ:L2.St}{H:Hp}{Q:VK}(hc:Qnm X N' scope cap t.slots):
  tV X.K H0 A0 (QM fi t cap ft fe) σ H Q->Qnl (tI X.K H0 A0 fi) (Qk6 X N' scope) (tG X.K (λ_=>none) [] t) (tVT X.K (λ_=>none) [] ft) (tV X.K (λ_=>none) [] fe) σ H Q:=λ⟨ρ,hs,F,r,rel,e,q⟩=>by
 obtain⟨ir,e1,e⟩:=bind1 e
 obtain⟨⟨xs,f⟩,ef,e⟩:=Zf.mp e
 subst e
 refine⟨ρ,hs,F,ir,rel,e1,λJ H1 ts s1 wk hts ow hz=>?_⟩
 refine⟨cap.map λo=>o.bind λi=>σ[i]?.join,⟨by simp[hc.len],λj x v hN hv=>?_⟩,λDl hD=>?_⟩
 ·rw[Zm]at hv
  cases qc:cap[j]? with
  | none=>rw[qc]at hv;cases hv
  | some o=>
   rw[qc]at hv
   cases o with
   | none=>cases hv
   | some i=>
    simp only[Zae,Za,Option.some.injEq]at hv
    obtain⟨y,h1,h2,h3,h4⟩:=hc.get j i qc
    rw[hN]at h1;cases h1
    exact⟨h2,i,h3,join_some hv,h4⟩
 generalize hσc:(cap.map λo=>o.bind λi=>σ[i]?.join)=σc
 generalize hρc:Qfv cap ρ=ρc at ef
 have hF0:∃Fc:Nat->List Addr,Fc=λj=>match cap[j]? with
  | some (some i)=>(match ρ[i]? with
   | some (some _)=>F i
   | _=>[])
  | _=>[]:=⟨_,rfl⟩
 obtain⟨Fc,hFc⟩:=hF0
 have rel1:=rel.ext s1
 have relC:∀H2,QU H1 H2->Rel X.K (λ_=>none) [] [] ρc Fc σc H2:=λH2 s2=>by
  refine⟨by rw[← hρc,← hσc];simp[Qfv],λj d b e=>?_,λj d e=>?_,λj d b e a ha=> .inl rfl,λt ht=>(by simp at ht),λb o z=>(by cases z)⟩
  ·rw[← hρc]at e
   obtain⟨i,b',h1,h2⟩:=Qmu e
   obtain⟨v,h3,h4⟩:=(rel1.ext s2).val i d b' h2
   refine⟨v,?_,?_⟩
   ·rw[← hσc,Zm,h1]
    simp only[Zae,Za,h3,Option.join_some]
   ·rw[hFc];simp only[h1,h2];exact h4
  ·have hf:d.flat=true:=Qka cap ρ j d (by rw[hρc];exact e)
   have:Fc j=[]:=by
    rw[← hρc]at e
    obtain⟨i,b',h1,h2⟩:=Qmu e
    obtain⟨v,h3,h4⟩:=rel1.val i d b' h2
    rw[hFc];simp only[h1,h2];exact h4.QcJ hf
   rw[this]
   exact⟨(Qe0 d hf).symm,ZaL,λa ha=>(by simp at ha),λ_ _ _ _ _ a ha=>(by simp at ha),λt ht=>(by simp at ht)⟩
 have shC:∀G,Shr (λ_=>none) [] ρc Fc G:=λG a ha=>⟨.inl rfl,λj d e hj=>by
  have h0:=(relC H1 (QU.refl _)).own j d e
  have hf:d.flat=true:=Qka cap ρ j d (by rw[hρc];exact e)
  have:(Fc j).length=0:=by rw[h0.1,Qe0 d hf]
  rw[List.eq_nil_of_length_eq_zero this]at hj
  simp at hj⟩
 have hSh:QdL ρc:=by rw[← hρc];exact Qka cap ρ
 have heldOf:∀H2,QU H1 H2->QoV X.K H2 ts:=λH2 s2 t ht=>(hts t ht).1.same s2
 have oldOf:∀a,((∃t∈ts,a∈t.2.2)∨∃j,a∈Fc j)->(∃vs,H1 a=some (.lst vs))/\(H a=none∨∃(i:Nat) (d:D) (b:Bool),ρ[i]? =some (some (d,b))/\a∈F i/\(b=true->i∈ir.M++Qrp cap ρ)):=λa ha=>by
  rcases ha with⟨t,ht,ha⟩ | ⟨j,ha⟩
  ·refine⟨(hts t ht).1.mem a ha,?_⟩
   rcases(hts t ht).2 a ha with z | ⟨i,d,b,e,m,w⟩
   ·exact .inl z
   ·exact .inr ⟨i,d,b,e,m,λhb=>Zd _ (w hb)⟩
  ·have ha0:=ha
   rw[hFc]at ha
   dsimp only at ha
   split at ha
   ·rename_i i hi
    split at ha
    ·rename_i db hdb
     obtain⟨d,b⟩:=db
     obtain⟨v,h3,h4⟩:=rel1.val i d b hdb
     refine⟨h4.mem a ha,.inr ⟨i,d,b,hdb,ha,λhb=>Zb _ ?_⟩⟩
     unfold Qrp
     refine Zbl.mpr ⟨some i,Zao hi,?_⟩
     simp only[Za,hdb]
     have hnf:d.flat=false:=by
      cases hf:d.flat with
      | false=>rfl
      | true=>rw[h4.QcJ hf]at ha;simp at ha
     rw[hb,hnf];rfl
    ·simp at ha
   ·simp at ha
 have fresh5:∀H2,QU H1 H2->∀a,H2 a=none->H1 a=none:=λH2 s2 a h=>s2.free h
 refine⟨λi m acc H2=>m=ir.items.length-i/\i<=ir.items.length/\QU H1 H2/\H2 Dl=some (.lst acc)/\∃(ys:List D) (g:Bool) (G:List Addr),(ir.items.drop i).foldlM (QgD t ft fe ρc) (ys,g)=some (xs,f)/\Rps X.K H2 ys acc G/\ys.length<=i∧
  (∀a∈G,a≠Dl/\(H1 a=none∨(∃t∈ts,a∈t.2.2)∨∃j,a∈Fc j))/\(g=true->G.length=nls ys/\∀a,G.count a<=nw H1 a),⟨ir.items.length,rfl,Zac _,QbZ hD,Qaw,[],true,[],by simpa using ef,by simp[Rps],Zh _,λa ha=>(by simp at ha),λ_=>⟨rfl,λa=>by simp⟩⟩,?_⟩
 rintro i m acc H2 ⟨rfl,hi,s2,eD,ys,g,G,hfold,rps,hlen,hG,hcnt⟩
 by_cases hlt:i<ir.items.length
 ·refine .inr ⟨wk.go i H2 hlt (heldOf H2 s2),λx H3 hy=>?_⟩
  obtain⟨s3,G0,rp0,hG0⟩:=wk.yld i ir.items[i] H2 x H3 (by simp[hlt]) (heldOf H2 s2) hy
  rw[Zar hlt,ZbT]at hfold
  obtain⟨acc1,hstep,hrest⟩:=bind1 hfold
  unfold QgD at hstep
  obtain⟨ρ1,eb,hstep⟩:=bind1 hstep
  obtain⟨c,ec,hstep⟩:=bind1 hstep
  have sh1:QdL ρ1:=hSh.bind eb
  refine⟨ρc,[],Fc,ir.items[i],G0,ρ1,relC H3 (s2.trans s3),rp0,shC G0,eb,λσ2 F2 rel2 keep mem2=>⟨λj v hv=>?_,ρ1,[],F2,c,rel2,ec,λH5 s5=>?_⟩⟩
  ·have hj:j∉t.slots:=λhj=>by
    rw[← hσc,Zm]at hv
    cases qc:cap[j]? with
    | none=>rw[qc]at hv;cases hv
    | some o=>
     cases o with
     | none=>rw[qc]at hv;cases hv
     | some k=>exact hc.apart j k qc hj
   rw[keep j hj];exact hv
  have s15:QU H1 H5:=(s2.trans s3).trans s5
  have eD5:H5 Dl=some (.lst acc):=s5 _ _ (s3 _ _ eD)
  cases c with
  | false=>
   rw[if_neg Zan]at hstep
   refine Quj ?_
   cases hstep
   exact⟨_,by omega,rfl,hlt,s15,eD5,ys,g,G,hrest,rps.same (s3.trans s5),by omega,hG,hcnt⟩
  | true=>
   rw[if_pos rfl]at hstep
   refine Qvj ?_
   obtain⟨rr,er,hstep⟩:=Zf.mp hstep
   subst hstep
   refine⟨ρ1,[],F2,rr,rel2.ext s5,er,λy H6 Ge pe=>?_⟩
   have eD6:H6 Dl=some (.lst acc):=pe.same _ _ eD5
   have s16:=s15.trans pe.same
   refine⟨eD6,?_,_,by omega,rfl,hlt,?_⟩
   ·rw[← rps.length];exact ZR hlen (Zu hlt hz)
   have hGe:∀a∈Ge,a≠Dl/\(H1 a=none∨(∃t∈ts,a∈t.2.2)∨∃j,a∈Fc j):=λa ha=>by
    rcases pe.src a ha with z | ⟨j,d,b,ej,hj,_⟩
    ·exact⟨λw=>(by rw[w,eD5]at z;cases z),.inl (s15.free z)⟩
    ·have h1:(∃t∈ts,a∈t.2.2)∨∃j,a∈Fc j:=by
      rcases mem2 j a hj with w | w
      ·exact .inr ⟨j,w⟩
      ·exact .inl (hG0 a w)
     obtain⟨⟨vs,w⟩,_⟩:=oldOf a h1
     exact⟨λw'=>(by rw[w',hD]at w;cases w),.inr h1⟩
   have nD:Dl∉G:=λh=>(hG _ h).1 rfl
   have nDe:Dl∉Ge:=λh=>(hGe _ h).1 rfl
   have sU:QU H1 (L2.upd H6 Dl (.lst (acc++[y]))):=λb o hb=>by rw[QZ (Qcd hb hD)];exact s16 b o hb
   refine⟨sU,Qaw,ys++[rr.d],g && rr.norm.fr,G++Ge,hrest,?_,by rw[Zr,ZaZ];omega,λa ha=>?_,λhg=>?_⟩
   ·refine Rps.append ((rps.same ((s3.trans s5).trans pe.same)).upd eD6 nD) ?_
    simp only[Rps]
    exact⟨y,[],Ge,[],rfl,by simp,pe.rp.upd eD6 nDe,rfl,rfl⟩
   ·rcases ZC.mp ha with h | h
    ·exact hG a h
    ·exact hGe a h
   ·simp only[Zj]at hg
    obtain⟨l1,c1⟩:=hcnt hg.1
    have pn:=pe.norm
    obtain⟨c2,l2⟩:=pn.cnt hg.2
    rw[rr.QcX]at l2
    have nlapp:∀(as bs:List D),nls (as++bs)=nls as+nls bs:=λas bs=>by
     induction as with
     | nil=>simp[nls]
     | cons a as ih=>simp only[ZbS,nls,ih];omega
    refine⟨by rw[Zr,l1,l2,nlapp];simp[nls],λa=>?_⟩
    have fl:((rr.norm.M.map F2).flatten).count a=0:=by
     rw[ZQ]
     intro hm
     obtain⟨l,hl,hal⟩:=ZbB.mp hm
     obtain⟨j,hj,rfl⟩:=ZS.mp hl
     obtain⟨d,ej⟩:=pn.own j hj
     have hf:=sh1 j d ej
     obtain⟨v,_,rv⟩:=rel2.val j d true ej
     rw[rv.QcJ hf]at hal
     simp at hal
    have h1:=c1 a
    have h2:=c2 a
    rw[fl]at h2
    rw[Zau]
    cases q5:H5 a with
    | some o=>rw[QdR q5]at h2;omega
    | none=>
     rw[QbS q5]at h2
     have h0:G.count a=0:=ZQ.mpr λhm=>by
      obtain⟨vs,w⟩:=rps.mem a hm
      rw[s5 _ _ (s3 _ _ w)]at q5;cases q5
     rw[QbS (s15.free q5)]
     omega
 ·have hn:i=ir.items.length:=by omega
  subst hn
  refine .inl ⟨wk.stop H2 (heldOf H2 s2),?_⟩
  rw[List.drop_length]at hfold
  have:(ys,g)=(xs,f):=Option.some.inj hfold
  cases this
  have rp:Rp X.K H2 (.lst xs) (.ref Dl) (Dl::G):=Rp.Qes eD rps (Zi hlen hz)
  have hHD:H Dl=none:=s1.free hD
  split at q
  ·rename_i hg
   have hg:f=true:=hg
   obtain⟨l1,c1⟩:=hcnt hg
   have hn:∀a∈G,H1 a=none:=λa ha=>by
    have:=c1 a
    have h2:0<G.count a:=Zai.mpr ha
    cases w:H1 a with
    | none=>rfl
    | some o=>rw[QdR w]at this;omega
   refine q _ H2 (Dl::G) ⟨s1.trans s2,rp,λa ha=>?_,λ_=>⟨λa=>?_,by simp only[D.nl,ZP,l1]⟩,QbI.nil⟩
   ·rcases Zq.mp ha with rfl | h
    ·exact .inl hHD
    ·exact .inl (s1.free (hn a h))
   ·rw[ZaN]
    have h1:=c1 a
    split
    ·rename_i w
     have w:Dl=a:=by simpa using w
     subst w
     have h0:G.count Dl=0:=ZQ.mpr λh=>(hG _ h).1 rfl
     rw[QbS hHD];omega
    ·cases w:H1 a with
     | none=>rw[QbS w]at h1;rw[QbS (s1.free w)];omega
     | some o=>rw[QdR w]at h1;omega
  ·refine q _ H2 (Dl::G) ⟨s1.trans s2,rp,λa ha=>?_,λz=>(by cases z),?_⟩
   ·rcases Zq.mp ha with rfl | h
    ·exact .inl hHD
    ·rcases(hG a h).2 with z | z
     ·exact .inl (s1.free z)
     ·exact(oldOf a z).2
   ·refine ow.append λi hi=>?_
    unfold Qrp at hi
    obtain⟨o,_,ho⟩:=Zbl.mp hi
    cases o with
    | none=>cases ho
    | some k=>
     simp only[Za]at ho
     split at ho
     ·rename_i d b hk
      split at ho
      ·rename_i hb
       cases ho
       simp only[Zj]at hb
       rw[hb.1]at hk
       exact⟨d,hk⟩
      ·cases ho
     ·cases ho
section
variable {X:Cx}{tg iter elt:Expr}{ifs:List Expr}{scope:Scope}{N':List Str}{pos:Pos}{fi:DI}{t:Tg}{cap:List (Option Nat)}{ft:DT}{fe:DE}
theorem Qw3(hcalm:X.calm=true)(S:Qfd X N' scope)(hi:SI X tg iter fi)(hcap:Qnm X N' scope cap t.slots)
  (hin:∀cl C fp s3 H3,SG (cxc X N' scope cl C fp s3 H3) tg t/\QoB (cxc X N' scope cl C fp s3 H3) ifs ft/\SE (cxc X N' scope cl C fp s3 H3) elt fe) (hs:∀x,foldedSetIterable iter X.env x=pure x):
  SE X (.ListComp elt [⟨tg,iter,ifs,0⟩] scope pos) (QM fi t cap ft fe):=λH0 A0=>
 (QqB hcalm S (hi H0 A0) (λcl C fp s3 H3=>⟨(hin cl C fp s3 H3).1 _ _,(hin cl C fp s3 H3).2.1 _ _,(hin cl C fp s3 H3).2.2 _ _⟩) hs).mono λσ H Q h=>QmC hcap h
end
end HS
namespace HS
open PySem PySem.Spec L2
inductive Out where
 | nx (ρ:En)
 | bk (ρ:En)
 | ct (ρ:En)
 | rt (d:D) (fr:Bool)
noncomputable abbrev DS:=En->Option Out
noncomputable def Fits(K:PySem.W.Frag)(H0:Hp)(A0:List Addr)(hs:List (V×D×List Addr))(E:Ends):Out->Prop
 | .nx ρ=>∀σ H F,Rel K H0 A0 hs ρ F σ H->E.nx σ H
 | .bk ρ=>∀σ H F,Rel K H0 A0 hs ρ F σ H->E.bk σ H
 | .ct ρ=>∀σ H F,Rel K H0 A0 hs ρ F σ H->E.ct σ H
 | .rt d fr=>∀v H G,Ret K H0 A0 d fr v H G->E.rt v H
noncomputable def tS(K:PySem.W.Frag)(H0:Hp)(A0:List Addr)(f:DS):TS:=λE σ H=>∃ρ hs F o,Rel K H0 A0 hs ρ F σ H/\f ρ=some o/\Fits K H0 A0 hs E o
def S1(X:Cx)(st:Stmt)(f:DS):Prop:=∀H0 A0,PS X st (tS X.K H0 A0 f)
def SS(X:Cx)(sts:List Stmt)(f:DS):Prop:=∀H0 A0,PSs X sts (tS X.K H0 A0 f)
theorem _root_.L2.PS.mono{X:Cx}{st:Stmt}{t t':TS}(h:PS X st t)(m:∀D σ H,t' D σ H->t D σ H):PS X st t':=λpins s σ H D I q=>h pins s σ H D I (m D σ H q)
theorem _root_.L2.PSs.mono{X:Cx}{st:List Stmt}{t t':TS}(h:PSs X st t)(m:∀D σ H,t' D σ H->t D σ H):PSs X st t':=λpins s σ H D I q=>h pins s σ H D I (m D σ H q)
noncomputable def Qp:DS:=λρ=>some (.nx ρ)
noncomputable def Qe(f g:DS):DS:=λρ=>(f ρ).bind λo=>match o with
 | .nx ρ'=>g ρ'
 | .bk ρ'=>some (.bk ρ')
 | .ct ρ'=>some (.ct ρ')
 | .rt d fr=>some (.rt d fr)
noncomputable def QrV:DS:=λρ=>some (.bk ρ)
noncomputable def QqY:DS:=λρ=>some (.ct ρ)
noncomputable def Qo(i:Nat)(fa:DE):DS:=λρ=>(fa ρ).bind λr=>some (.nx (asg i r ρ))
noncomputable def Qaf(fa:DE):DE:=λρ=>(fa ρ).map λr=>⟨r.d,false,r.M⟩
noncomputable def QP(fa:DE):DS:=λρ=>(fa ρ).bind λr=>some (.rt r.d (r.norm.fr && decide r.norm.M.Nodup))
noncomputable def QrJ:DS:=λ_=>some (.rt .non true)
noncomputable def QqM(fa:DE):DS:=λρ=>(fa ρ).bind λ_=>some (.nx ρ)
noncomputable def sIf(g:DT)(f1 f2:DS):DS:=λρ=>(g ρ).bind λb=>if b=true then f1 ρ else f2 ρ
noncomputable def QdX(t:Tg)(fb:DS):List D->DS
 | [],ρ=>some (.nx ρ)
 | d::ds,ρ=>(Qcf t d ρ).bind λρ1=>(fb ρ1).bind λo=>match o with
  | .nx ρ2=>QdX t fb ds ρ2
  | .ct ρ2=>QdX t fb ds ρ2
  | .bk ρ2=>some (.nx ρ2)
  | .rt d fr=>some (.rt d fr)
noncomputable def Qbl(fi:DI)(t:Tg)(fb:DS):DS:=λρ=>(fi ρ).bind λir=>QdX t fb ir.items (Qbc ir.M ρ)
noncomputable def Qbq(g:DT)(fb:DS):Nat->DS
 | 0,_=>none
 | n+1,ρ=>(g ρ).bind λb=>if b=true then(fb ρ).bind λo=>match o with
  | .nx ρ2=>Qbq g fb n ρ2
  | .ct ρ2=>Qbq g fb n ρ2
  | .bk ρ2=>some (.nx ρ2)
  | .rt d fr=>some (.rt d fr)
  else some (.nx ρ)
section
variable {X:Cx}{st:Stmt}{sts:List Stmt}{e:Expr}{fa:DE}{f g:DS}{gc:DT}{pos:Pos}
theorem Qyd:SS X [] Qp:=λH0 A0=>QwM.mono λE σ H ⟨ρ,hs,F,o,rel,e,q⟩=>by
 cases e
 exact q σ H F rel
theorem QwG(h1:S1 X st f)(h2:SS X sts g):SS X (st::sts) (Qe f g):=λH0 A0=>(QcV (h1 H0 A0) (h2 H0 A0)).mono λE σ H ⟨ρ,hs,F,o,rel,e,q⟩=>by
 obtain⟨o1,e1,e⟩:=bind1 e
 refine⟨ρ,hs,F,o1,rel,e1,?_⟩
 cases o1 with
 | nx ρ'=>exact λσ' H' F' rel'=>⟨ρ',hs,F',o,rel',e,q⟩
 | bk ρ'=>cases e;exact q
 | ct ρ'=>cases e;exact q
 | rt d fr=>cases e;exact q
theorem Qwi:S1 X (.Pass pos) Qp:=λH0 A0=>Qwp.mono λE σ H ⟨ρ,hs,F,o,rel,e,q⟩=>by
 cases e
 exact q σ H F rel
theorem QtO:S1 X (.Break pos) QrV:=λH0 A0=>QuB.mono λE σ H ⟨ρ,hs,F,o,rel,e,q⟩=>by
 cases e
 exact q σ H F rel
theorem Qw9:S1 X (.Continue pos) QqY:=λH0 A0=>QpR.mono λE σ H ⟨ρ,hs,F,o,rel,e,q⟩=>by
 cases e
 exact q σ H F rel
theorem QvO(h:SE X e fa):SE X e (Qaf fa):=λH0 A0=>(h H0 A0).mono λσ H Q ⟨ρ,hs,F,r,rel,e,q⟩=>by
 obtain⟨r',e1,rfl⟩:=Zf.mp e
 exact⟨ρ,hs,F,r',rel,e1,λv H' G p=>q v H' G ⟨p.same,p.rp,p.src,λz=>(by cases z),p.own⟩⟩
theorem QnG{i:Nat}(h:∀H0 A0,PS X st (QeG (tV X.K H0 A0 fa) (Qgf i))):S1 X st (Qo i fa):=λH0 A0=>(h H0 A0).mono λE σ H ⟨ρ,hs,F,o,rel,e,q⟩=>by
 obtain⟨r,e1,e⟩:=bind1 e
 cases e
 refine⟨ρ,hs,F,r,rel,e1,λv H' G p=>?_⟩
 obtain⟨F',rel'⟩:=rel.asg (i:=i) p
 exact q _ _ F' rel'
theorem Qxs(h:PS X st (Qnv (tV X.K H0 A0 fa))):PS X st (tS X.K H0 A0 (QqM fa)):=h.mono λE σ H ⟨ρ,hs,F,o,rel,e,q⟩=>by
 obtain⟨r,e1,e⟩:=bind1 e
 cases e
 exact⟨ρ,hs,F,r,rel,e1,λv H' G p=>q σ H' F (rel.ext p.same)⟩
theorem Rel.ret{K:PySem.W.Frag}{H0 H H':Hp}{A0:List Addr}{hs:List (V×D×List Addr)}{ρ:En}{F:Nat->List Addr}{σ:L2.St}(rel:Rel K H0 A0 hs ρ F σ H){r:R}{v:V}{G:List Addr}(p:Qag K ρ F H H' r v G):Ret K H0 A0 r.d (r.norm.fr && decide r.norm.M.Nodup) v H' G where
 same:=rel.same.trans p.same
 rp:=p.rp
 src:=λa ha=>by
  rcases p.src a ha with z | ⟨i,d,b,e,m,_⟩
  ·exact .inl (rel.same.free z)
  ·exact rel.src i d b e a m
 cnt:=λh=>by
  simp only[Zj,decide_eq_true_eq]at h
  have p':=p.norm
  obtain⟨h1,h2⟩:=p'.fresh rel h.1 h.2
  have h3:=(p'.cnt h.1).2
  rw[r.QcX]at h3
  exact⟨h1,h3,λa ha=>(h2 a ha).1⟩
theorem QyC(he:SE X e fa):S1 X (.Return (some e) pos) (QP fa):=λH0 A0=>(Qx6 (he H0 A0)).mono λE σ H ⟨ρ,hs,F,o,rel,e,q⟩=>by
 obtain⟨r,e1,e⟩:=bind1 e
 cases e
 exact⟨ρ,hs,F,r,rel,e1,λv H' G p=>q v H' G (rel.ret p)⟩
theorem QxM:S1 X (.Return none pos) QrJ:=λH0 A0=>Qwl.mono λE σ H ⟨ρ,hs,F,o,rel,e,q⟩=>by
 cases e
 exact q .non H [] ⟨rel.same,.QkB,λa ha=>(by simp at ha),λ_=>⟨ZaL,rfl,λa ha=>(by simp at ha)⟩⟩
theorem QAC{c:Expr}{a b:List Stmt}(hc:ST X c gc)(ha:SS X a f)(hb:SS X b g):S1 X (.If c a b pos) (sIf gc f g):=λH0 A0=>(QAV (hc H0 A0) (ha H0 A0) (hb H0 A0)).mono λE σ H ⟨ρ,hs,F,o,rel,e,q⟩=>by
 obtain⟨c,e1,e⟩:=bind1 e
 refine⟨ρ,hs,F,c,rel,e1,λH1 s1=>?_⟩
 cases c with
 | true=>exact Qvj ⟨ρ,hs,F,o,rel.ext s1,e,q⟩
 | false=>exact Quj ⟨ρ,hs,F,o,rel.ext s1,e,q⟩
theorem Qx4{tg iter:Expr}{body:List Stmt}{fi:DI}{t:Tg}(hp:PassesOwn (model X.prog X.w) X.A X.env X.xe)(hc:X.calm=true)(hi:SI X tg iter fi)(hg:SG X tg t)(hb:SS X body f)(hs:∀x,foldedSetIterable iter X.env x=pure x):
  S1 X (.For tg iter body [] pos) (Qbl fi t f):=λH0 A0=>(Qyo hp hc (hi H0 A0) (hg H0 A0) (hb H0 A0) hs).mono λE σ H ⟨ρ,hs,F,o,rel,e,q⟩=>by
 obtain⟨ir,e1,e⟩:=bind1 e
 refine⟨ρ,hs,F,ir,rel,e1,λJ H1 ts s1 wk hts ow hz=>?_⟩
 have rel1:Rel X.K H0 A0 (ts++hs) (Qbc ir.M ρ) F σ H1:=((rel.ext s1).weak (Qbp ir.M ρ)).hold λt ht=>⟨(hts t ht).1,Shr.of rel (hts t ht).2⟩
 refine⟨λi m σ' H'=>m=ir.items.length-i/\i<=ir.items.length/\∃ρi Fi,Rel X.K H0 A0 (ts++hs) ρi Fi σ' H'/\QdX t f (ir.items.drop i) ρi=some o,⟨_,rfl,Zac _,_,F,rel1,by simpa using e⟩,?_⟩
 rintro i m σ' H' ⟨rfl,hi',ρi,Fi,reli,ei⟩
 have held:QoV X.K H' ts:=λt ht=>(reli.held t (Zd _ ht)).1
 by_cases hlt:i<ir.items.length
 ·rw[Zar hlt]at ei
  unfold QdX at ei
  obtain⟨ρ1,eb,ei⟩:=bind1 ei
  obtain⟨o1,eo,ei⟩:=bind1 ei
  refine .inr ⟨wk.go i H' hlt held,λσ2 H2=>∃ρ2 F2,Rel X.K H0 A0 (ts++hs) ρ2 F2 σ2 H2/\QdX t f (ir.items.drop (i+1)) ρ2=some o,λσ2 H2 ⟨ρ2,F2,rel2,e2⟩=>⟨_,by omega,rfl,hlt,ρ2,F2,rel2,e2⟩,λx H2 hy=>?_⟩
  obtain⟨s2,G0,rp0,hG0⟩:=wk.yld i ir.items[i] H' x H2 (by simp[hlt]) held hy
  have shr:Shr H0 A0 ρi Fi G0:=λa ha=>by
   obtain⟨t,ht,hat⟩:=hG0 a ha
   exact⟨(reli.held t (Zd _ ht)).2 a hat,λj d ej hj=>(reli.own j d ej).2.2.2.2 t (Zd _ ht) a hj hat⟩
  refine⟨ρi,ts++hs,Fi,ir.items[i],G0,ρ1,reli.ext s2,rp0,shr,eb,λσ3 F3 rel3 _ _=>⟨ρ1,ts++hs,F3,o1,rel3,eo,?_⟩⟩
  cases o1 with
  | nx ρ2=>exact λσ4 H4 F4 rel4=>⟨ρ2,F4,rel4,ei⟩
  | ct ρ2=>exact λσ4 H4 F4 rel4=>⟨ρ2,F4,rel4,ei⟩
  | bk ρ2=>cases ei;exact λσ4 H4 F4 rel4=>q σ4 H4 F4 rel4.QnM
  | rt d fr=>cases ei;exact q
 ·have hn:i=ir.items.length:=by omega
  subst hn
  rw[List.drop_length]at ei
  cases ei
  exact .inl ⟨wk.stop H' held,q σ' H' Fi reli.QnM⟩
theorem QtW{c:Expr}{body:List Stmt}{n:Nat}(hp:PassesOwn (model X.prog X.w) X.A X.env X.xe)(hc:ST X c gc)(hb:SS X body f):S1 X (.While c body [] pos) (Qbq gc f n):=λH0 A0=>(Qvb hp (hc H0 A0) (hb H0 A0)).mono λE σ H ⟨ρ,hs,F,o,rel,e,q⟩=>by
 refine⟨λm σ' H'=>∃ρi Fi,Rel X.K H0 A0 hs ρi Fi σ' H'/\Qbq gc f m ρi=some o,⟨n,ρ,F,rel,e⟩,?_⟩
 rintro m σ' H' ⟨ρi,Fi,reli,ei⟩
 cases m with
 | zero=>cases ei
 | succ m=>
  unfold Qbq at ei
  obtain⟨b,eb,ei⟩:=bind1 ei
  refine⟨ρi,hs,Fi,b,reli,eb,λH1 s1=>?_⟩
  cases b with
  | false=>
   rw[if_neg Zan]at ei
   cases ei
   exact Quj (q σ' H1 Fi (reli.ext s1))
  | true=>
   rw[if_pos rfl]at ei
   obtain⟨o1,eo,ei⟩:=bind1 ei
   refine Qvj ⟨λσ2 H2=>∃ρ2 F2,Rel X.K H0 A0 hs ρ2 F2 σ2 H2/\Qbq gc f m ρ2=some o,λσ2 H2 h=>⟨m,ZaT _,h⟩,ρi,hs,Fi,o1,reli.ext s1,eo,?_⟩
   cases o1 with
   | nx ρ2=>exact λσ4 H4 F4 rel4=>⟨ρ2,F4,rel4,ei⟩
   | ct ρ2=>exact λσ4 H4 F4 rel4=>⟨ρ2,F4,rel4,ei⟩
   | bk ρ2=>cases ei;exact λσ4 H4 F4 rel4=>q σ4 H4 F4 rel4
   | rt d fr=>cases ei;exact q
end
end HS
namespace HS
open PySem PySem.Spec L2
section
variable {K:PySem.W.Frag}{H H':Hp}
theorem Rps.split:∀{ds:List D}{vs:List V}{F:List Addr}{j:Nat}{d:D},Rps K H ds vs F->ds[j]? =some d→
  ∃F1 G F2 v,F=F1++(G++F2)/\vs[j]? =some v/\Rps K H (ds.take j) (vs.take j) F1/\Rp K H d v G/\Rps K H (ds.drop (j+1)) (vs.drop (j+1)) F2
 | [],_,_,_,_,_,e=>by simp at e
 | d::ds,_,_,0,_,h,e=>by
  simp only[Rps]at h
  obtain⟨v,ws,F1,F2,rfl,rfl,r,q⟩:=h
  simp at e;subst e
  exact⟨[],F1,F2,v,rfl,by simp,by simp[Rps],r,by simpa using q⟩
 | d::ds,_,_,j+1,_,h,e=>by
  simp only[Rps]at h
  obtain⟨v,ws,F1,F2,rfl,rfl,r,q⟩:=h
  obtain⟨G1,G,G2,v',h1,h2,h3,h4,h5⟩:=Rps.split q (by simpa using e)
  refine⟨F1++G1,G,G2,v',by rw[h1,ZaP],by simpa using h2,?_,h4,by simpa using h5⟩
  simp only[List.take_succ_cons,Rps]
  exact⟨v,_,F1,G1,rfl,rfl,r,h3⟩
theorem Rps.join{ds:List D}{vs:List V}{F1 G F2:List Addr}{j:Nat}{d:D}{v:V}(h1:Rps K H (ds.take j) (vs.take j) F1)(hd:Rp K H d v G)(h2:Rps K H (ds.drop (j+1)) (vs.drop (j+1)) F2)(hj:j<ds.length)(hv:vs[j]? =some v):
  Rps K H (ds.set j d) vs (F1++(G++F2)):=by
 have e1:ds.set j d=ds.take j++d::ds.drop (j+1):=ZaM .. |>.trans (by rw[if_pos hj])
 have hjv:j<vs.length:=(Zg.mp hv).1
 have hve:vs[j]=v:=(Zg.mp hv).2
 have e2:vs=vs.take j++v::vs.drop (j+1):=by
  rw[← hve,← Zar hjv,Zba]
 rw[e1,e2]
 refine h1.append ?_
 simp only[Rps]
 refine⟨v,_,G,F2,rfl,rfl,hd,h2⟩
theorem Rps.Qv4{ds:List D}{vs:List V}{F1 G F2:List Addr}{j:Nat}{d:D}{v:V}(h1:Rps K H (ds.take j) (vs.take j) F1)(hd:Rp K H d v G)(h2:Rps K H (ds.drop (j+1)) (vs.drop (j+1)) F2)(hj:j<ds.length)(hv:j<vs.length):
  Rps K H (ds.set j d) (vs.set j v) (F1++(G++F2)):=by
 have e1:ds.set j d=ds.take j++d::ds.drop (j+1):=ZaM .. |>.trans (by rw[if_pos hj])
 have e2:vs.set j v=vs.take j++v::vs.drop (j+1):=ZaM .. |>.trans (by rw[if_pos hv])
 rw[e1,e2]
 refine h1.append ?_
 simp only[Rps]
 exact⟨v,_,G,F2,rfl,rfl,hd,h2⟩
noncomputable def Focus(K:PySem.W.Frag)(H:Hp):List Int->D->V->List Addr->D->V->List Addr->Prop
 | [],d,v,F,dm,w,Gm=>dm=d/\w=v/\Gm=F/\Rp K H d v F
 | i::is,d,v,F,dm,w,Gm=>∃(ds:List D) (a:Addr) (vs:List V) (j:Nat) (F1 G F2:List Addr) (d':D) (v':V),v= .ref a/\ixN ds.length i=some j∧
   ((d= .lst ds/\ds.length<=sizeLine/\((F=a::(F1++(G++F2))/\H a=some (.lst vs))∨(F=F1++(G++F2)/\Fix K H a vs)))∨(d= .tup ds/\F=F1++(G++F2)/\SqT K H a vs))∧
   Rps K H (ds.take j) (vs.take j) F1/\Rps K H (ds.drop (j+1)) (vs.drop (j+1)) F2/\ds[j]? =some d'/\vs[j]? =some v'/\ds.length=vs.length/\Focus K H is d' v' G dm w Gm
theorem Focus.same(s:QU H H'):∀{is:List Int}{d:D}{v:V}{F:List Addr}{dm:D}{w:V}{Gm:List Addr},Focus K H is d v F dm w Gm->Focus K H' is d v F dm w Gm
 | [],_,_,_,_,_,_,h=>⟨h.1,h.2.1,h.2.2.1,h.2.2.2.same s⟩
 | i::is,_,_,_,_,_,_,h=>by
  obtain⟨ds,a,vs,j,F1,G,F2,d',v',h1,h2,h3,h4,h5,h6,h7,h8,h9⟩:=h
  refine⟨ds,a,vs,j,F1,G,F2,d',v',h1,h2,?_,h4.same s,h5.same s,h6,h7,h8,h9.same s⟩
  rcases h3 with⟨e,z,q⟩ | ⟨e,eF,q⟩
  ·refine .inl ⟨e,z,?_⟩
   rcases q with⟨eF,q⟩ | ⟨eF,q⟩
   ·exact .inl ⟨eF,s _ _ q⟩
   ·exact .inr ⟨eF,QnR s q⟩
  ·exact .inr ⟨e,eF,QoO s q⟩
theorem Focus.rp:∀{is:List Int}{d:D}{v:V}{F:List Addr}{dm:D}{w:V}{Gm:List Addr},Focus K H is d v F dm w Gm->Rp K H dm w Gm
 | [],_,_,_,_,_,_,h=>by
  obtain⟨rfl,rfl,rfl,r⟩:=h
  exact r
 | i::is,_,_,_,_,_,_,h=>by
  obtain⟨ds,a,vs,j,F1,G,F2,d',v',h1,h2,h3,h4,h5,h6,h7,h8,h9⟩:=h
  exact h9.rp
theorem Focus.Qst:∀{is:List Int}{d:D}{v:V}{F:List Addr}{dm:D}{w:V}{Gm:List Addr},Focus K H is d v F dm w Gm->Rp K H d v F
 | [],_,_,_,_,_,_,h=>h.2.2.2
 | i::is,_,_,_,_,_,_,h=>by
  obtain⟨ds,a,vs,j,F1,G,F2,d',v',rfl,h2,h3,h4,h5,h6,h7,h8,h9⟩:=h
  have hjl:j<ds.length:=(Zg.mp h6).1
  have hdj:ds[j]=d':=(Zg.mp h6).2
  have j1:=Rps.join h4 h9.Qst h5 hjl h7
  rw[show ds.set j d'=ds by rw[← hdj];exact List.set_getElem_self hjl]at j1
  rcases h3 with⟨rfl,hz,⟨rfl,q⟩ | ⟨rfl,q⟩⟩ | ⟨rfl,rfl,q⟩
  ·exact Rp.Qes q j1 hz
  ·simp only[Rp]
   exact⟨hz,a,vs,rfl,.inr ⟨q,j1⟩⟩
  ·simp only[Rp]
   exact⟨a,vs,rfl,q,j1⟩
theorem Focus.one{d:D}{v:V}{F:List Addr}{ds:List D}{i:Int}{d':D}(r:Rp K H d v F)(hd:d.items=some ds)(hi:atI ds i=some d'):
  ∃a vs v' G,v= .ref a/\((d= .lst ds/\SqL K H a vs)∨(d= .tup ds/\SqT K H a vs))/\atI vs i=some v'/\Focus K H [i] d v F d' v' G:=by
 unfold atI at hi
 cases hj:ixN ds.length i with
 | none=>rw[hj]at hi;cases hi
 | some j=>
  rw[hj]at hi
  have hdj:ds[j]? =some d':=hi
  have fin:∀(vs:List V) (L:List Addr),Rps K H ds vs L->∃v' G F1 F2,L=F1++(G++F2)/\vs[j]? =some v'/\atI vs i=some v'/\Rps K H (ds.take j) (vs.take j) F1/\Rp K H d' v' G/\Rps K H (ds.drop (j+1)) (vs.drop (j+1)) F2/\ds.length=vs.length:=λvs L rl=>by
   obtain⟨F1,G,F2,v',h1,h2,h3,h4,h5⟩:=rl.split hdj
   refine⟨v',G,F1,F2,h1,h2,?_,h3,h4,h5,rl.length⟩
   unfold atI
   rw[← rl.length,hj]
   exact h2
  cases d with
  | lst xs=>
   cases hd
   simp only[Rp]at r
   obtain⟨hz,a,vs,rfl,⟨L,rfl,q,rl⟩ | ⟨q,rl⟩⟩:=r
   ·obtain⟨v',G,F1,F2,h1,h2,h3,h4,h5,h6,h7⟩:=fin vs L rl
    exact⟨a,vs,v',G,rfl,.inl ⟨rfl,SqL.of q⟩,h3,ds,a,vs,j,F1,G,F2,d',v',rfl,hj,.inl ⟨rfl,hz,.inl ⟨by rw[h1],q⟩⟩,h4,h6,hdj,h2,h7,rfl,rfl,rfl,h5⟩
   ·obtain⟨v',G,F1,F2,h1,h2,h3,h4,h5,h6,h7⟩:=fin vs _ rl
    exact⟨a,vs,v',G,rfl,.inl ⟨rfl,q.sq⟩,h3,ds,a,vs,j,F1,G,F2,d',v',rfl,hj,.inl ⟨rfl,hz,.inr ⟨h1,q⟩⟩,h4,h6,hdj,h2,h7,rfl,rfl,rfl,h5⟩
  | tup xs=>
   cases hd
   obtain⟨a,vs,rfl,q,rl⟩:=r.QbQ
   obtain⟨v',G,F1,F2,h1,h2,h3,h4,h5,h6,h7⟩:=fin vs _ rl
   exact⟨a,vs,v',G,rfl,.inr ⟨rfl,q⟩,h3,ds,a,vs,j,F1,G,F2,d',v',rfl,hj,.inr ⟨rfl,h1,q⟩,h4,h6,hdj,h2,h7,rfl,rfl,rfl,h5⟩
  | _=>cases hd
theorem Focus.snoc:∀{is:List Int}{d:D}{v:V}{F:List Addr}{dm:D}{w:V}{Gm:List Addr}{i:Int}{d':D}{v':V}{G:List Addr},Focus K H is d v F dm w Gm->Focus K H [i] dm w Gm d' v' G->Focus K H (is++[i]) d v F d' v' G
 | [],_,_,_,_,_,_,_,_,_,_,h,g=>by
  obtain⟨rfl,rfl,rfl,r⟩:=h
  exact g
 | k::is,_,_,_,_,_,_,_,_,_,_,h,g=>by
  obtain⟨ds,a,vs,j,F1,G,F2,d',v',h1,h2,h3,h4,h5,h6,h7,h8,h9⟩:=h
  exact⟨ds,a,vs,j,F1,G,F2,d',v',h1,h2,h3,h4,h5,h6,h7,h8,h9.snoc g⟩
noncomputable def Qa9:D->List Int->Option D
 | d,[]=>some d
 | d,i::is=>(d.items).bind λds=>(atI ds i).bind λd'=>Qa9 d' is
theorem QkS:∀{is:List Int}{d:D}{i:Int}{d':D},Qa9 d (is++[i])=some d'->∃dm ds,Qa9 d is=some dm/\dm.items=some ds/\atI ds i=some d'
 | [],d,i,d',h=>by
  obtain⟨ds,h1,h⟩:=bind1 h
  obtain⟨d'',h2,h⟩:=bind1 h
  cases h
  exact⟨d,ds,rfl,h1,h2⟩
 | k::is,d,i,d',h=>by
  obtain⟨ds,h1,h⟩:=bind1 h
  obtain⟨d'',h2,h⟩:=bind1 h
  obtain⟨dm,es,h3,h4,h5⟩:=QkS h
  refine⟨dm,es,?_,h4,h5⟩
  simp only[Qa9,h1,h2,Za,h3]
noncomputable def Qbt:List Int->D->D->D
 | [],_,new=>new
 | i::is,.lst ds,new=>match ixN ds.length i with
  | some j=> .lst (ds.set j (Qbt is (ds.getD j .non) new))
  | none=> .lst ds
 | i::is,.tup ds,new=>match ixN ds.length i with
  | some j=> .tup (ds.set j (Qbt is (ds.getD j .non) new))
  | none=> .tup ds
 | _::_,d,_=>d
theorem QiQ:∀{ds:List D}{j:Nat}{d e:D},ds[j]? =some d->nls (ds.set j e)+d.nl=nls ds+e.nl
 | [],_,_,_,h=>by simp at h
 | x::ds,0,d,e,h=>by simp at h;subst h;simp only[List.set_cons_zero,nls];omega
 | x::ds,j+1,d,e,h=>by
  have:=QiQ (e:=e) (by simpa using h)
  simp only[List.set_cons_succ,nls];omega
theorem Qev:∀(as bs:List D),nls (as++bs)=nls as+nls bs
 | [],bs=>by simp[nls]
 | a::as,bs=>by simp only[ZbS,nls,Qev as bs];omega
theorem Focus.mut{p:Addr}{dsm ds':List D}{vs':List V}{G':List Addr}:∀{is:List Int}{d:D}{v:V}{F:List Addr}{Gm:List Addr},Focus K H is d v F (.lst dsm) (.ref p) Gm->F.Nodup->F.length=d.nl→
  ∃vsm Gp,H p=some (.lst vsm)/\Gm=p::Gp/\Rps K H dsm vsm Gp/\Gp.length=nls dsm/\p∈F/\(∀a∈Gp,a∈F)/\p∉Gp∧
   (Rps K (upd H p (.lst vs')) ds' vs' G'->ds'.length<=sizeLine->G'.length=nls ds'→
    ∃F',Rp K (upd H p (.lst vs')) (Qbt is d (.lst ds')) v F'/\F'.length=(Qbt is d (.lst ds')).nl/\∀a,F'.count a+Gp.count a=F.count a+G'.count a)
 | [],d,v,F,Gm,h,nd,hl=>by
  obtain⟨rfl,rfl,rfl,r⟩:=h
  simp only[Rp]at r
  obtain⟨hz,a,vs,e,h⟩:=r
  cases e
  rcases h with⟨L,rfl,q,rl⟩ | ⟨q,rl⟩
  ·obtain⟨n1,n2⟩:=ZaB.mp nd
   have hl':L.length=nls dsm:=by simp only[D.nl,ZP]at hl;omega
   refine⟨vs,L,q,rfl,rl,hl',Zp,λa ha=>Ze _ ha,n1,λr' hz' hl2=>⟨p::G',Rp.Qes Qaw r' hz',?_,λa=>?_⟩⟩
   ·simp only[Qbt,D.nl,ZP,hl2]
   ·rw[ZaN,ZaN];omega
  ·have:=rl.QaM
   simp only[D.nl]at hl
   omega
 | i::is,d,v,F,Gm,h,nd,hl=>by
  obtain⟨ds,a,vs,j,F1,G,F2,d',v',rfl,hj,h3,h4,h5,h6,h7,h8,h9⟩:=h
  have hjl:j<ds.length:=(Zg.mp h6).1
  have gd:ds.getD j .non=d':=by rw[Zv,h6];rfl
  have l1:=h4.QaM
  have l2:=h5.QaM
  have l3:=h9.Qst.QaM
  have nlsplit:nls (ds.take j)+(d'.nl+nls (ds.drop (j+1)))=nls ds:=by
   have e1:ds=ds.take j++d'::ds.drop (j+1):=by
    have:ds[j]=d':=(Zg.mp h6).2
    rw[← this,← Zar hjl,Zba]
   have e2:=congrArg nls e1
   rw[Qev]at e2
   simp only[nls]at e2
   exact e2.symm
  have core:(F1++(G++F2)).Nodup->(F1++(G++F2)).length=nls ds->_:=λnd' hl'=>by
   simp only[Zr]at hl'
   have hG:G.length=d'.nl:=by omega
   have ndG:G.Nodup:=(Zbu.mp (Zbu.mp nd').2.1).1
   exact(h9.mut (vs':=vs') (ds':=ds') (G':=G') ndG hG)
  have apart:(F1++(G++F2)).Nodup->p∈G->p∉F1/\p∉F2:=λnd' hp=>by
   have n1:=Zbu.mp nd'
   have n2:=Zbu.mp n1.2.1
   exact⟨λh=>n1.2.2 p h p (Zd _ hp) rfl,λh=>n2.2.2 p hp p h rfl⟩
  have cnt:∀(G'' Gp:List Addr),(∀a,G''.count a+Gp.count a=G.count a+G'.count a)->∀a,(F1++(G''++F2)).count a+Gp.count a=(F1++(G++F2)).count a+G'.count a:=λG'' Gp hc a=>by
   have:=hc a
   simp only[Zau];omega
  rcases h3 with⟨rfl,hz,⟨rfl,q⟩ | ⟨rfl,q⟩⟩ | ⟨rfl,rfl,q⟩
  ·
   obtain⟨n1,n2⟩:=ZaB.mp nd
   have hl':(F1++(G++F2)).length=nls ds:=by simp only[D.nl,ZP]at hl;omega
   obtain⟨vsm,Gp,e1,e2,e3,e4,e5,e6,e7,e8⟩:=core n2 hl'
   have ap:=apart n2 e5
   have hap:a≠p:=λz=>n1 (by rw[z];exact Zb _ (Zd _ e5))
   refine⟨vsm,Gp,e1,e2,e3,e4,Ze _ (Zb _ (Zd _ e5)),λb hb=>Ze _ (Zb _ (Zd _ (e6 b hb))),e7,λr' hz' hl2=>?_⟩
   obtain⟨G'',f1,f2,f3⟩:=e8 r' hz' hl2
   have j1:=Rps.join (h4.upd e1 ap.1) f1 (h5.upd e1 ap.2) hjl h7
   refine⟨a::(F1++(G''++F2)),?_,?_,λb=>?_⟩
   ·simp only[Qbt,hj,gd]
    exact Rp.Qes (by rw[QZ hap];exact q) j1 (by rw[ZY];exact hz)
   ·have:=QiQ (e:=Qbt is d' (.lst ds')) h6
    simp only[Qbt,hj,gd,D.nl,ZP,Zr,f2]at hl' ⊢
    omega
   ·have:=cnt G'' Gp f3 b
    rw[ZaN,ZaN];omega
  ·have:(F1++(G++F2)).length<=nls ds:=by simp only[Zr];omega
   simp only[D.nl]at hl
   omega
  ·
   have hl':(F1++(G++F2)).length=nls ds:=by simpa only[D.nl]using hl
   obtain⟨vsm,Gp,e1,e2,e3,e4,e5,e6,e7,e8⟩:=core nd hl'
   have ap:=apart nd e5
   refine⟨vsm,Gp,e1,e2,e3,e4,Zb _ (Zd _ e5),λb hb=>Zb _ (Zd _ (e6 b hb)),e7,λr' hz' hl2=>?_⟩
   obtain⟨G'',f1,f2,f3⟩:=e8 r' hz' hl2
   have j1:=Rps.join (h4.upd e1 ap.1) f1 (h5.upd e1 ap.2) hjl h7
   refine⟨F1++(G''++F2),?_,?_,cnt G'' Gp f3⟩
   ·simp only[Qbt,hj,gd,Rp]
    exact⟨a,vs,rfl,Qqz e1 q,j1⟩
   ·have:=QiQ (e:=Qbt is d' (.lst ds')) h6
    simp only[Qbt,hj,gd,D.nl,Zr,f2]at hl' ⊢
    omega
end
end HS
namespace HS
open PySem PySem.Spec L2
section
variable {K:PySem.W.Frag}{H0 H H1 H2:Hp}{A0:List Addr}{hs:List (V×D×List Addr)}{ρ:En}{F:Nat->List Addr}{σ:L2.St}
theorem Rel.mut(rel:Rel K H0 A0 hs ρ F σ H){r:R}{vn:V}{Gn:List Addr}(p:Qag K ρ F H H1 r vn Gn)(hf:r.fr=true)(nd:r.M.Nodup)(s12:QU H1 H2){x:Nat}{d:D}(hx:ρ[x]? =some (some (d,true)))(hxM:x∉r.M){v0:V}(hv0:σ[x]? =some (some v0))
  {dnew:D}{q:Addr}{F':List Addr}{vsm vs':List V}(e1:H2 q=some (.lst vsm)) (e5:q∈F x) (f1:Rp K (upd H2 q (.lst vs')) dnew v0 F') (f2:F'.length=dnew.nl) (cF:∀a,F'.count a<=(F x).count a+Gn.count a):
  ∃F',Rel K H0 A0 hs ((kill r.M ρ).set x (some (dnew,true))) F' σ (upd H2 q (.lst vs')):=by
 obtain⟨ol,on,o0,oap,oh⟩:=rel.own x d hx
 obtain⟨gn,gs⟩:=p.fresh rel hf nd
 have rel2:=(rel.ext p.same).ext s12
 have relk:=rel2.weak (Qdq r.M ρ)
 have apn:∀a∈Gn,a∉F x:=λa ha hax=>by
  rcases(gs a ha).2 with z | ⟨k,d',hk,ek,hak⟩
  ·obtain⟨vs,w⟩:=rel.mem hx hax
   rw[z]at w;cases w
  ·have:k≠x:=λz=>hxM (z▸hk)
   exact oap k d' true this ek a hax hak
 have memF:∀a∈F',a∈F x∨a∈Gn:=λa ha=>by
  have h1:=cF a
  have h2:0<F'.count a:=Zai.mpr ha
  by_cases h:a∈F x
  ·exact .inl h
  ·rw[ZQ.mpr h]at h1
   exact .inr (Zai.mp (by omega))
 have apart:∀(j:Nat) d' b,j≠x->(kill r.M ρ)[j]? =some (some (d',b))->∀a∈F',a∉F j:=λj d' b hj e a ha haj=>by
  obtain⟨b',e',_⟩:=(Qdq r.M ρ).2 j d' b e
  rcases memF a ha with h | h
  ·exact oap j d' b' hj e' a h haj
  ·rcases(gs a h).2 with z | ⟨k,d'',hk,ek,hak⟩
   ·obtain⟨vs,w⟩:=rel.mem e' haj
    rw[z]at w;cases w
   ·have hjk:j≠k:=λz=>by subst z;exact QiJ r.M ρ j d' b hk e
    exact(rel.own k d'' ek).2.2.2.1 j d' b' hjk e' a hak haj
 have apartH:∀t∈hs,∀a∈F',a∉t.2.2:=λt ht a ha hat=>by
  rcases memF a ha with h | h
  ·exact oh t ht a h hat
  ·rcases(gs a h).2 with z | ⟨k,d'',hk,ek,hak⟩
   ·obtain⟨vs,w⟩:=(rel.held t ht).1.mem a hat
    rw[z]at w;cases w
   ·exact(rel.own k d'' ek).2.2.2.2 t ht a hak hat
 have nqj:∀(j:Nat) d' b,j≠x->ρ[j]? =some (some (d',b))->q∉F j:=λj d' b hj e h=>oap j d' b hj e q e5 h
 have nF':F'.Nodup:=Zap.mpr λa=>by
  have h1:=cF a
  have h2:=Zap.mp on a
  have h3:=Zap.mp gn a
  by_cases h:a∈Gn
  ·rw[ZQ.mpr (apn a h)]at h1;omega
  ·rw[ZQ.mpr h]at h1;omega
 have lt:∀{j:Nat}{z:Option (D×Bool)}{y:D×Bool},((kill r.M ρ).set j z)[j]? =some (some y)->j<(kill r.M ρ).length:=λ{j z y} e=>by
  by_cases hl:j<(kill r.M ρ).length
  ·exact hl
  ·rw[Zt (by simp;omega)]at e;cases e
 refine⟨λj=>if j=x then F' else F j,by simp[relk.len],λj d' b e=>?_,λj d' e=>?_,λj d' b e a ha=>?_,λt ht=>⟨(relk.held t ht).1.upd e1 λh=>oh t ht q e5 h,(relk.held t ht).2⟩,λb o hb=>?_⟩
 ·by_cases hj:j=x
  ·subst hj
   have hl:=lt e
   rw[Zl hl]at e
   cases e
   exact⟨v0,hv0,by rw[if_pos rfl];exact f1⟩
  ·rw[Zc (Ne.symm hj)]at e
   obtain⟨w,h1,h2⟩:=relk.val j d' b e
   obtain⟨b',e',_⟩:=(Qdq r.M ρ).2 j d' b e
   exact⟨w,h1,by rw[if_neg hj];exact h2.upd e1 (nqj j d' b' hj e')⟩
 ·by_cases hj:j=x
  ·subst hj
   have hl:=lt e
   rw[Zl hl]at e
   cases e
   rw[if_pos rfl]
   refine⟨f2,nF',λa ha=>?_,λk d'' b hk ek a ha=>?_,apartH⟩
   ·rcases memF a ha with h | h
    ·exact o0 a h
    ·exact(gs a h).1
   ·rw[Zc (Ne.symm hk)]at ek
    rw[if_neg hk]
    exact apart k d'' b hk ek a ha
  ·rw[Zc (Ne.symm hj)]at e
   obtain⟨h1,h2,h3,h4,h5⟩:=relk.own j d' e
   rw[if_neg hj]
   refine⟨h1,h2,h3,λk d'' b hk ek a ha=>?_,h5⟩
   by_cases hki:k=x
   ·subst hki
    rw[if_pos rfl]
    exact λhG=>apart j d' true hj e a hG ha
   ·rw[Zc (Ne.symm hki)]at ek
    rw[if_neg hki]
    exact h4 k d'' b hk ek a ha
 ·by_cases hj:j=x
  ·subst hj
   rw[if_pos rfl]at ha
   rcases memF a ha with h | h
   ·exact .inl (o0 a h)
   ·exact .inl (gs a h).1
  ·rw[Zc (Ne.symm hj)]at e
   rw[if_neg hj]at ha
   exact relk.src j d' b e a ha
 ·have hbq:b≠q:=λz=>by rw[z,o0 q e5]at hb;cases hb
  rw[QZ hbq]
  exact relk.same b o hb
end
noncomputable abbrev DP:=En->Option (List Int)
noncomputable def Qal:DP:=λ_=>some []
noncomputable def Qcm(p:DP)(fb:DE):DP:=λρ=>(p ρ).bind λis=>(fb ρ).bind λr=>match r.d with
 | .int i=>some (is++[i])
 | _=>none
noncomputable def tP(K:PySem.W.Frag)(H0:Hp)(A0:List Addr)(x:Nat)(pf:DP):TE:=λσ H Q=>∃ρ hs F d b is dm,Rel K H0 A0 hs ρ F σ H/\ρ[x]? =some (some (d,b))/\pf ρ=some is/\Qa9 d is=some dm∧
 ∀v0 v H' Gm,QU H H'->σ[x]? =some (some v0)->Focus K H' is d v0 (F x) dm v Gm->Q v H'
def SPa(X:Cx)(e:Expr)(x:Nat)(pf:DP):Prop:=∀H0 A0,PE X e (tP X.K H0 A0 x pf)
section
variable {X:Cx}{a b e:Expr}{fa fb:DE}{pf:DP}{x:Nat}{pos:Pos}
theorem QfW{y:Str}(h:PE X (.Name y pos) (Qf1 x)):SPa X (.Name y pos) x Qal:=λH0 A0=>h.mono λσ H Q ⟨ρ,hs,F,d,b,is,dm,rel,hx,hp,hd,q⟩=>by
 cases hp
 cases hd
 obtain⟨v,h1,h2⟩:=rel.val x d b hx
 exact⟨v,h1,q v v H (F x) (QU.refl _) h1 ⟨rfl,rfl,rfl,h2⟩⟩
theorem Qg1(ha:SPa X a x pf)(hb:SE X b fb)(hs:QiS b):SPa X (.Subscript a b pos) x (Qcm pf fb):=λH0 A0=>
 (QvY (QqD.or QsB) (ha H0 A0) (hb H0 A0) hs).mono λσ H Q ⟨ρ,hs,F,d,b',is,dm,rel,hx,hp,hd,q⟩=>by
  obtain⟨is',e1,hp⟩:=bind1 hp
  obtain⟨r,e2,hp⟩:=bind1 hp
  cases hr:r.d with
  | int i=>
   rw[hr]at hp
   cases hp
   obtain⟨dn,ds,g1,g2,g3⟩:=QkS hd
   refine⟨ρ,hs,F,d,b',is',dn,rel,hx,e1,g1,λv0 w H1 Gm s1 hv fo=>⟨ρ,hs,F,r,rel.ext s1,e2,λu H2 G p2=>?_⟩⟩
   have rp:=p2.rp
   rw[hr]at rp
   rw[rp.int_inv]
   have fo2:=fo.same p2.same
   obtain⟨c,vs,v',G',rfl,hc,h3,h4⟩:=Focus.one fo2.rp g2 g3
   have fin:=q v0 v' H2 G' (s1.trans p2.same) hv (fo2.snoc h4)
   rcases hc with⟨_,hc⟩ | ⟨_,hc⟩
   ·exact .inl ⟨c,vs,i,v',rfl,rfl,hc,h3,fin⟩
   ·exact .inr ⟨c,vs,i,v',rfl,rfl,hc,h3,fin⟩
  | _=>rw[hr]at hp;cases hp
noncomputable def Qcj(x:Nat)(pf:DP)(fi fa:DE):DS:=λρ=>(fa ρ).bind λr0=>match ρ[x]? with
 | some (some (d,true))=>(pf ρ).bind λis=>(fi ρ).bind λri=>match ri.d,Qa9 d is with
  | .int k,some (.lst ds)=>(ixN ds.length k).bind λj=>if r0.norm.fr && decide r0.norm.M.Nodup && !r0.norm.M.contains x then some (.nx ((kill r0.norm.M ρ).set x (some (Qbt is d (.lst (ds.set j r0.d)),true))))else
   if is.isEmpty && !r0.norm.M.contains x then some (.nx ((Qbc r0.norm.M ρ).set x (some (.lst (ds.set j r0.d),false))))else
   none
  | _,_=>none
 | _=>none
theorem set_mk{K:PySem.W.Frag}{H2:Hp}{q:Addr}{dsm:List D}{vsm:List V}{Gp Gn:List Addr}{j:Nat}{dn:D}{vn:V}(hq:H2 q=some (.lst vsm))(rs:Rps K H2 dsm vsm Gp)(hl:Gp.length=nls dsm)(nq:q∉Gp)(nqn:q∉Gn)(hn:Rp K H2 dn vn Gn)(hnl:Gn.length=dn.nl)(hj:j<dsm.length):
  ∃G',Rps K (upd H2 q (.lst (vsm.set j vn))) (dsm.set j dn) (vsm.set j vn) G'/\G'.length=nls (dsm.set j dn)/\∀a,G'.count a<=Gp.count a+Gn.count a:=by
 obtain⟨F1,G,F2,v,e1,e2,h1,h2,h3⟩:=rs.split (j:=j) (d:=dsm[j]) (by simp[hj])
 subst e1
 have hjv:j<vsm.length:=by rw[← rs.length];exact hj
 have n1:q∉F1:=λh=>nq (Zd _ h)
 have n2:q∉F2:=λh=>nq (Zb _ (Zb _ h))
 refine⟨F1++(Gn++F2),Rps.Qv4 (h1.upd hq n1) (hn.upd hq nqn) (h3.upd hq n2) hj hjv,?_,λa=>?_⟩
 ·have:=QiQ (ds:=dsm) (j:=j) (d:=dsm[j]) (e:=dn) (by simp[hj])
  have l1:=h1.QaM
  have l2:=h2.QaM
  have l3:=h3.QaM
  have e1:nls (dsm.take j)+((dsm[j]).nl+nls (dsm.drop (j+1)))=nls dsm:=by
   have e2:=congrArg nls (Zba j dsm)
   rw[Qev,Zar hj]at e2
   simpa only[nls]using e2
  simp only[Zr]at hl ⊢
  omega
 ·simp only[Zau];omega
theorem Qag.Qgk{K:PySem.W.Frag}{ρ:En}{F:Nat->List Addr}{H H1 H2:Hp}{r:R}{v:V}{G:List Addr}(p:Qag K ρ F H H1 r v G)(s:QU H1 H2):Qag K ρ F H H2 r v G:=⟨p.same.trans s,p.rp.same s,p.src,p.cnt,p.own⟩
theorem Qmm{K:PySem.W.Frag}{H2:Hp}{q:Addr}{dsm:List D}{vsm:List V}{Gp Gn:List Addr}{j:Nat}{dn:D}{vn:V}(hq:H2 q=some (.lst vsm))(rs:Rps K H2 dsm vsm Gp)(nq:q∉Gp)(nqn:q∉Gn)(hn:Rp K H2 dn vn Gn)(hj:j<dsm.length):
  ∃G',Rps K (upd H2 q (.lst (vsm.set j vn))) (dsm.set j dn) (vsm.set j vn) G'/\∀a∈G',a∈Gp∨a∈Gn:=by
 obtain⟨F1,G,F2,v,e1,e2,h1,h2,h3⟩:=rs.split (j:=j) (d:=dsm[j]) (by simp[hj])
 subst e1
 have hjv:j<vsm.length:=by rw[← rs.length];exact hj
 have n1:q∉F1:=λh=>nq (Zd _ h)
 have n2:q∉F2:=λh=>nq (Zb _ (Zb _ h))
 refine⟨F1++(Gn++F2),Rps.Qv4 (h1.upd hq n1) (hn.upd hq nqn) (h3.upd hq n2) hj hjv,λa ha=>?_⟩
 rcases ZC.mp ha with h | h
 ·exact .inl (Zd _ h)
 ·rcases ZC.mp h with h | h
  ·exact .inr h
  ·exact .inl (Zb _ (Zb _ h))
theorem Qjp:∀(M:List Nat) (ρ:En) (x:Nat),x∉M->(Qbc M ρ)[x]? =ρ[x]?
 | [],ρ,x,_=>rfl
 | i::M,ρ,x,h=>by
  have hi:i≠x:=λe=>h (e▸Zp)
  unfold Qbc
  rw[Qjp M _ x λe=>h (Ze _ e)]
  split
  ·rw[Zc hi]
  ·rfl
theorem Rel.QBd{K:PySem.W.Frag}{H0 H:Hp}{A0:List Addr}{hs:List (V×D×List Addr)}{ρ:En}{F:Nat->List Addr}{σ:L2.St}(rel:Rel K H0 A0 hs ρ F σ H){x:Nat}{d:D}(hx:ρ[x]? =some (some (d,true))){Gn:List Addr}(sh:Shr H0 A0 ρ F Gn){v0:V}(hv0:σ[x]? =some (some v0))
  {dnew:D}{q:Addr}{G':List Addr}{vsm vs':List V}(e1:H q=some (.lst vsm)) (e5:q∈F x) (f1:Rp K (upd H q (.lst vs')) dnew v0 G') (mem:∀a∈G',a∈F x∨a∈Gn):
  ∃F',Rel K H0 A0 hs (ρ.set x (some (dnew,false))) F' σ (upd H q (.lst vs')):=by
 obtain⟨ol,on,o0,oap,oh⟩:=rel.own x d hx
 have lt:∀{j:Nat}{z:Option (D×Bool)}{y:D×Bool},(ρ.set j z)[j]? =some (some y)->j<ρ.length:=λ{j z y} e=>by
  by_cases hl:j<ρ.length
  ·exact hl
  ·rw[Zt (by simp;omega)]at e;cases e
 refine⟨λj=>if j=x then G' else F j,by simp[rel.len],λj d' b e=>?_,λj d' e=>?_,λj d' b e a ha=>?_,λt ht=>⟨(rel.held t ht).1.upd e1 λh=>oh t ht q e5 h,(rel.held t ht).2⟩,λb o hb=>?_⟩
 ·by_cases hj:j=x
  ·subst hj
   have hl:=lt e
   rw[Zl hl]at e
   cases e
   exact⟨v0,hv0,by rw[if_pos rfl];exact f1⟩
  ·rw[Zc (Ne.symm hj)]at e
   obtain⟨w,h1,h2⟩:=rel.val j d' b e
   exact⟨w,h1,by rw[if_neg hj];exact h2.upd e1 λh=>oap j d' b hj e q e5 h⟩
 ·by_cases hj:j=x
  ·subst hj
   have hl:=lt e
   rw[Zl hl]at e
   cases e
  ·rw[Zc (Ne.symm hj)]at e
   obtain⟨h1,h2,h3,h4,h5⟩:=rel.own j d' e
   rw[if_neg hj]
   refine⟨h1,h2,h3,λk d'' b hk ek a ha=>?_,h5⟩
   by_cases hki:k=x
   ·subst hki
    rw[if_pos rfl]
    intro hG
    rcases mem a hG with h | h
    ·exact h4 k d true (Ne.symm hj) hx a ha h
    ·exact(sh a h).2 j d' e ha
   ·rw[Zc (Ne.symm hki)]at ek
    rw[if_neg hki]
    exact h4 k d'' b hk ek a ha
 ·by_cases hj:j=x
  ·subst hj
   rw[if_pos rfl]at ha
   rcases mem a ha with h | h
   ·exact .inl (o0 a h)
   ·exact(sh a h).1
  ·rw[Zc (Ne.symm hj)]at e
   rw[if_neg hj]at ha
   exact rel.src j d' b e a ha
 ·have hbq:b≠q:=λz=>by rw[z,o0 q e5]at hb;cases hb
  rw[QZ hbq]
  exact rel.same b o hb
theorem QzC{i:Expr}{pos':Pos}{fi:DE}(hv:SE X e fa)(ho:SPa X a x pf)(hi:SE X i fi)
  (h:∀te to ti,PE X e te->PE X a to->PE X i ti->PS X (.Assign [.Subscript a i pos'] e pos) (QeG te (L2.Qa6 to ti Qgh))):S1 X (.Assign [.Subscript a i pos'] e pos) (Qcj x pf fi fa):=λH0 A0=>
 (h _ _ _ (hv H0 A0) (ho H0 A0) (hi H0 A0)).mono λE σ H ⟨ρ,hs,F,o,rel,e,q⟩=>by
  obtain⟨r0,e1,e⟩:=bind1 e
  split at e
  ·rename_i d hx
   obtain⟨is,e2,e⟩:=bind1 e
   obtain⟨ri,e3,e⟩:=bind1 e
   split at e
   ·rename_i k ds hk hp
    obtain⟨j,e4,e⟩:=bind1 e
    split at e
    ·rename_i hc
     cases e
     simp only[Zj,decide_eq_true_eq,ZaR]at hc
     obtain⟨⟨c1,c2⟩,c3⟩:=hc
     have c3:x∉r0.norm.M:=λh=>by rw[Zbz.mpr h]at c3;cases c3
     refine⟨ρ,hs,F,r0,rel,e1,λvn H1 Gn p=>⟨ρ,hs,F,d,true,is,.lst ds,rel.ext p.same,hx,e2,hp,λv0 w H2 Gm s2 hv0 fo=>⟨ρ,hs,F,ri,(rel.ext p.same).ext s2,e3,λu H3 Gi pi=>?_⟩⟩⟩
     have p':=(p.norm.Qgk s2).Qgk pi.same
     have fo3:=fo.same pi.same
     have rpi:=pi.rp
     rw[hk]at rpi
     rw[rpi.int_inv]
     obtain⟨l,ws,L,rfl,_⟩:=fo3.rp.lst_inv
     obtain⟨ol,on,_,oap,_⟩:=rel.own x d hx
     have hjl:=(QcD e4).2.1
     obtain⟨gn,gs⟩:=p'.fresh rel c1 c2
     have rn:=p'.rp
     rw[r0.QcX]at rn
     have hnl:=(p'.cnt c1).2
     rw[r0.QcX]at hnl
     obtain⟨vsm,_,f1,_⟩:=fo3.mut (vs':=[]) (ds':=[]) (G':=[]) on ol
     obtain⟨_,_,_,_,_,_,zl,_⟩:=fo3.rp.lst_inv
     have key:∃F',Rp X.K (upd H3 l (.lst (vsm.set j vn))) (Qbt is d (.lst (ds.set j r0.d))) v0 F'/\F'.length=(Qbt is d (.lst (ds.set j r0.d))).nl/\l∈F x/\ds.length=vsm.length/\∀a,F'.count a<=(F x).count a+Gn.count a:=by
      have own5:∀G',_:=λG'=>fo3.mut (vs':=vsm.set j vn) (ds':=ds.set j r0.d) (G':=G') on ol
      obtain⟨vs1,Gp,g1,g2,g3,g4,g5,g6,g7,_⟩:=own5 []
      rw[f1]at g1;cases g1
      have hq:l∉Gn:=λh=>by
       rcases(gs l h).2 with z | ⟨k',d',hk',ek,hak⟩
       ·obtain⟨vs,w⟩:=rel.mem hx g5
        rw[z]at w;cases w
       ·exact oap k' d' true (λz=>c3 (z▸hk')) ek l g5 hak
      obtain⟨G',m1,m2,m3⟩:=set_mk f1 g3 g4 g7 hq rn hnl hjl
      obtain⟨vs2,Gp2,k1,k2,k3,k4,k5,k6,k7,k8⟩:=own5 G'
      have eG:Gp2=Gp:=by rw[g2]at k2;exact(List.cons.inj k2).2.symm
      subst eG
      obtain⟨F',h1,h2,h3⟩:=k8 m1 (by rw[ZY];exact zl) m2
      exact⟨F',h1,h2,g5,g3.length,λa=>by have:=h3 a;have:=m3 a;omega⟩
     obtain⟨F',k1,k2,k3,k4,k5⟩:=key
     refine⟨l,vsm,k,j,rfl,rfl,f1,by rw[← k4];exact e4,?_⟩
     obtain⟨F'',rel'⟩:=rel.mut p' c1 c2 (QU.refl _) hx c3 hv0 f1 k3 k1 k2 k5
     exact q _ _ F'' rel'
    ·
     split at e
     ·rename_i hc
      cases e
      simp only[Zj,ZaR,List.isEmpty_iff]at hc
      obtain⟨rfl,c3⟩:=hc
      have c3:x∉r0.norm.M:=λh=>by rw[Zbz.mpr h]at c3;cases c3
      refine⟨ρ,hs,F,r0,rel,e1,λvn H1 Gn p=>⟨ρ,hs,F,d,true,[],.lst ds,rel.ext p.same,hx,e2,hp,λv0 w H2 Gm s2 hv0 fo=>⟨ρ,hs,F,ri,(rel.ext p.same).ext s2,e3,λu H3 Gi pi=>?_⟩⟩⟩
      have p':=(p.norm.Qgk s2).Qgk pi.same
      have fo3:=fo.same pi.same
      have rpi:=pi.rp
      rw[hk]at rpi
      rw[rpi.int_inv]
      obtain⟨l,ws,L,rfl,_⟩:=fo3.rp.lst_inv
      obtain⟨ol,on,_,oap,_⟩:=rel.own x d hx
      have hjl:=(QcD e4).2.1
      have rn:=p'.rp
      rw[r0.QcX]at rn
      obtain⟨vsm,Gp,f1,g2,g3,g4,g5,g6,g7,_⟩:=fo3.mut (vs':=[]) (ds':=[]) (G':=[]) on ol
      obtain⟨_,_,_,_,_,_,zl,_⟩:=fo3.rp.lst_inv
      have sh:=Shr.of rel p'.src
      have relD:=(rel.ext p'.same).weak (Qbp r0.norm.M ρ)
      have hxD:(Qbc r0.norm.M ρ)[x]? =some (some (d,true)):=by rw[Qjp _ _ _ c3];exact hx
      have hq:l∉Gn:=λh=>(sh l h).2 x d hxD g5
      obtain⟨G',m1,m3⟩:=Qmm f1 g3 g7 hq rn hjl
      have e0:v0= .ref l:=(fo3.2.1).symm
      subst e0
      refine⟨l,vsm,k,j,rfl,rfl,f1,by rw[← g3.length];exact e4,?_⟩
      obtain⟨F'',rel'⟩:=relD.QBd (dnew:= .lst (ds.set j r0.d)) (G':=l::G') (vs':=vsm.set j vn) hxD sh hv0 f1 g5 (Rp.Qes Qaw m1 (by rw[ZY];exact zl)) λa ha=>by
       rcases Zq.mp ha with h | h
       ·exact .inl (h▸g5)
       ·rcases m3 a h with h | h
        ·exact .inl (g6 a h)
        ·exact .inr h
      exact q _ _ F'' rel'
     ·
      cases e
   ·cases e
  ·cases e
end
end HS
namespace HS
open PySem PySem.Spec L2
section
variable {K:PySem.W.Frag}{H0 H H1 H2 H3:Hp}{A0:List Addr}{hs:List (V×D×List Addr)}{ρ:En}{F:Nat->List Addr}{σ:L2.St}
theorem Rel.write(rel:Rel K H0 A0 hs ρ F σ H){r:R}{vn:V}{Gn:List Addr}(p:Qag K ρ F H H3 r vn Gn)(hf:r.fr=true)(nd:r.M.Nodup){x:Nat}{d:D}(hx:ρ[x]? =some (some (d,true)))(hxM:x∉r.M){v0 w:V}(hv0:σ[x]? =some (some v0))
  {is:List Int}{ds:List D}{Gm:List Addr}(fo:Focus K H3 is d v0 (F x) (.lst ds) w Gm):
  ∃l vsm Gp,w= .ref l/\H3 l=some (.lst vsm)/\Rps K H3 ds vsm Gp/\Gp.length=nls ds/\l∉Gp/\l∉Gn/\ds.length<=sizeLine∧
   ∀ds' vs' G',Rps K (upd H3 l (.lst vs')) ds' vs' G'->ds'.length<=sizeLine->G'.length=nls ds'->(∀a,G'.count a<=Gp.count a+Gn.count a)→
    ∃F',Rel K H0 A0 hs ((kill r.M ρ).set x (some (Qbt is d (.lst ds'),true))) F' σ (upd H3 l (.lst vs')):=by
 obtain⟨l,ws,L,rfl,_,_,zl,_⟩:=fo.rp.lst_inv
 obtain⟨ol,on,_,oap,_⟩:=rel.own x d hx
 obtain⟨gn,gs⟩:=p.fresh rel hf nd
 obtain⟨vsm,Gp,g1,g2,g3,g4,g5,g6,g7,_⟩:=fo.mut (vs':=[]) (ds':=[]) (G':=[]) on ol
 have hq:l∉Gn:=λh=>by
  rcases(gs l h).2 with z | ⟨k',d',hk',ek,hak⟩
  ·obtain⟨vs,w⟩:=rel.mem hx g5
   rw[z]at w;cases w
  ·exact oap k' d' true (λz=>hxM (z▸hk')) ek l g5 hak
 refine⟨l,vsm,Gp,rfl,g1,g3,g4,g7,hq,zl,λds' vs' G' m1 m2 m3 m4=>?_⟩
 obtain⟨vs2,Gp2,k1,k2,k3,k4,k5,k6,k7,k8⟩:=fo.mut (vs':=vs') (ds':=ds') (G':=G') on ol
 have eG:Gp2=Gp:=by rw[g2]at k2;exact(List.cons.inj k2).2.symm
 subst eG
 obtain⟨F',h1,h2,h3⟩:=k8 m1 m2 m3
 exact rel.mut p hf nd (QU.refl _) hx hxM hv0 g1 g5 h1 h2 λa=>by have:=h3 a;have:=m4 a;omega
end
section
variable {X:Cx}{a b e:Expr}{fa fb:DE}{pf:DP}{x:Nat}{pos apos:Pos}
noncomputable def Qku(r:R)(x:Nat):Bool:=r.norm.fr && decide r.norm.M.Nodup && !r.norm.M.contains x
theorem Qsb{r:R}{x:Nat}(h:Qku r x=true):r.norm.fr=true/\r.norm.M.Nodup/\x∉r.norm.M:=by
 unfold Qku at h
 simp only[Zj,decide_eq_true_eq,ZaR]at h
 exact⟨h.1.1,h.1.2,λz=>by rw[Zbz.mpr z]at h;cases h.2⟩
noncomputable def QdS(x:Nat)(pf:DP)(fa:DE):DS:=λρ=>match ρ[x]? with
 | some (some (d,true))=>(pf ρ).bind λis=>(fa ρ).bind λr0=>match Qa9 d is with
  | some (.lst ds)=>if Qku r0 x && decide (ds.length<sizeLine)then some (.nx ((kill r0.norm.M ρ).set x (some (Qbt is d (.lst (ds++[r0.d])),true))))else none
  | _=>none
 | _=>none
theorem Qu3{H0:Hp}{A0:List Addr}{E:Ends}{σ:L2.St}{H:Hp}:tS X.K H0 A0 (QdS x pf fa) E σ H->Qnv (tBM X.K "list" Qqe (tP X.K H0 A0 x pf) (QhP (tV X.K H0 A0 fa) QnO)) E σ H:=λ⟨ρ,hs,F,o,rel,e,q⟩=>by
 unfold QdS at e
 split at e
 ·rename_i d hx
  obtain⟨is,e2,e⟩:=bind1 e
  obtain⟨r0,e1,e⟩:=bind1 e
  split at e
  ·rename_i ds hp
   split at e
   ·rename_i hc
    simp only[Zj,decide_eq_true_eq]at hc
    obtain⟨c1,c2,c3⟩:=Qsb hc.1
    cases e
    refine⟨ρ,hs,F,d,true,is,.lst ds,rel,hx,e2,hp,λv0 w H2 Gm s2 hv0 fo=>?_⟩
    have ty:tyV X.K "list" w H2:=by
     obtain⟨l,ws,L,rfl,hl,_⟩:=fo.rp.lst_inv
     exact .inl ⟨rfl,ws,Qap hl⟩
    refine⟨ty,ρ,hs,F,r0,rel.ext s2,e1,λvn H3 Gn p=>?_⟩
    have p':=p.norm
    obtain⟨l,vsm,Gp,rfl,g1,g2,g3,g4,g5,g6,g7⟩:=(rel.ext s2).write p' c1 c2 hx c3 hv0 (fo.same p.same)
    refine⟨l,vsm,vn,rfl,rfl,g1,by rw[← g2.length];exact hc.2,?_⟩
    have rn:=p'.rp
    rw[r0.QcX]at rn
    have hnl:=(p'.cnt c1).2
    rw[r0.QcX]at hnl
    have rw1:Rps X.K (upd H3 l (.lst (vsm++[vn]))) [r0.d] [vn] Gn:=by
     simp only[Rps]
     exact⟨vn,[],Gn,[],rfl,by simp,rn.upd g1 g5,rfl,rfl⟩
    obtain⟨F',rel'⟩:=g7 (ds++[r0.d]) (vsm++[vn]) (Gp++Gn) ((g2.upd g1 g4).append rw1) (by rw[Zr,ZaZ];omega) (by rw[Zr,Qev,g3,hnl];simp[nls]) (λa=>by rw[Zau];omega)
    exact q _ _ F' rel'
   ·cases e
  ·cases e
 ·cases e
open PyProof.Rows in
theorem Qs7:Qy9 X (QzI X.K):=by
 intro pins s σ H o i ov iv Q I ro ri h
 obtain⟨p,xs,k,v,rfl,rfl,hq,ha,q⟩:=h
 cases ro
 obtain⟨t,rfl⟩:=ri
 obtain⟨its,r,pl,hz⟩:=I.list hq
 obtain⟨j,h1,h2,h3,h4,h5⟩:=Qlx ha
 obtain⟨w,ew,rw'⟩:=r.get h2
 have hl:=r.length
 have hn:=Qg3
 by_cases h0:0<=k
 ·refine wpAny_getItem_list pl.isList h0 (by omega) (x:=w) ?_ ⟨v,H,I,rw',q⟩
  have:k.toNat=j:=by
   rw[seqIndex_of h0 h5]at h1
   exact Option.some.inj h1
  rw[this];simpa using ew
 ·refine wpAny_getItem_list_neg pl.isList (by omega) (by rw[Zw]<;>omega) (by omega) (x:=w) ?_ ⟨v,H,I,rw',q⟩
  have hj:(k+(its.toArray.size:Int)).toNat=j:=by
   rw[seqIndex_neg (by omega) h4]at h1
   rw[Zw,← hl]
   exact Option.some.inj h1
  rw[hj];simpa using ew
noncomputable def Qgu(g:D->D->Option D)(x:Nat)(pf:DP)(fi fa:DE):DS:=λρ=>match ρ[x]? with
 | some (some (d,true))=>(pf ρ).bind λis=>(fi ρ).bind λri=>match ri.d,Qa9 d is with
  | .int k,some (.lst ds)=>(ixN ds.length k).bind λj=>(ds[j]?).bind λold=>(fa ρ).bind λr=>(g old r.d).map λnew=> .nx (ρ.set x (some (Qbt is d (.lst (ds.set j new)),true)))
  | _,_=>none
 | _=>none
theorem Qwu{op:Operator}{i:Expr}{pos':Pos}{fi:DE}{g:D->D->Option D}{r:R2}(ho:OpR X (inplaceOp op) r)(hg:Qco X.K g r)(hv:SE X e fa)(hp:SPa X a x pf)(hi:SE X i fi)
  (ha:∀ov iv new,augStore i ov iv new=(do holding [new,ov,iv] (setItem ov iv new);release [new,ov,iv] [];pure .next)):S1 X (.AugAssign (.Subscript a i pos') op e pos) (Qgu g x pf fi fa):=λH0 A0=>
 (Qxq (hp H0 A0) (hi H0 A0) Qs7 (hv H0 A0) (λpins s σ H x y v u Q I rx ry q=>QA6 ho I rx ry q) set_list ha).mono λE σ H ⟨ρ,hs,F,o,rel,e,q⟩=>by
  unfold Qgu at e
  split at e
  ·rename_i d hx
   obtain⟨is,e2,e⟩:=bind1 e
   obtain⟨ri,e3,e⟩:=bind1 e
   split at e
   ·rename_i k ds hk hp'
    obtain⟨j,e4,e⟩:=bind1 e
    obtain⟨old,e5,e⟩:=bind1 e
    obtain⟨rv,e6,e⟩:=bind1 e
    obtain⟨new,e7,e⟩:=Zf.mp e
    subst e
    have hjl:=(QcD e4).2.1
    refine⟨ρ,hs,F,d,true,is,.lst ds,rel,hx,e2,hp',λv0 w H2 Gm s2 hv0 fo=>⟨ρ,hs,F,ri,rel.ext s2,e3,λu H3 Gi pi=>?_⟩⟩
    have fo3:=fo.same pi.same
    have rpi:=pi.rp
    rw[hk]at rpi
    rw[rpi.int_inv]
    have at3:atI ds k=some old:=by unfold atI;rw[e4];exact e5
    obtain⟨l,vs,v',Go,rfl,hc,h3,h4⟩:=Focus.one fo3.rp rfl at3
    have hc:SqL X.K H3 l vs:=by
     rcases hc with⟨_,hc⟩ | ⟨hc,_⟩
     ·exact hc
     ·cases hc
    refine⟨l,vs,k,v',rfl,rfl,hc,h3,ρ,hs,F,rv,(rel.ext s2).ext pi.same,e6,λy H4 G4 p4=>?_⟩
    have fo4:=fo3.same p4.same
    have ro:=h4.rp.same p4.same
    refine(hg _ _ _ e7).2 H4 v' y Go G4 _ ro p4.rp λz hz=>?_
    have rel4:=((rel.ext s2).ext pi.same).ext p4.same
    have pz:Qag X.K ρ F H4 H4 ⟨new,true,[]⟩ z []:= .flat (QU.refl _) (hz H4) (hg _ _ _ e7).1
    obtain⟨l',vsm,Gp,el,g1,g2,g3,g4,g5,g6,g7⟩:=rel4.write pz rfl ZaL hx (by simp) hv0 fo4
    cases el
    refine⟨l,vsm,k,j,rfl,rfl,g1,by rw[← g2.length];exact e4,?_⟩
    obtain⟨G',m1,m2,m3⟩:=set_mk g1 g2 g3 g4 g5 (hz H4) (Qe0 new (hg _ _ _ e7).1).symm hjl
    obtain⟨F',rel'⟩:=g7 _ _ G' m1 (by rw[ZY];exact g6) m2 m3
    exact q _ _ F' rel'
   ·cases e
  ·cases e
end
end HS
namespace HS
open PySem PySem.Spec L2 PyProof.Rows
noncomputable def D.Qwd:D->Option Int
 | .int i=>some i
 | _=>none
noncomputable def QhW:List D->Option (List Int)
 | []=>some []
 | d::ds=>(d.Qwd).bind λi=>(QhW ds).map λr=>i::r
theorem Qip:∀{ds:List D}{ns:List Int},QhW ds=some ns->ds=ns.map .int
 | [],_,h=>by cases h;rfl
 | d::ds,ns,h=>by
  unfold QhW at h
  obtain⟨i,h1,h⟩:=bind1 h
  obtain⟨r,h2,rfl⟩:=Zf.mp h
  cases d with
  | int j=>cases h1;rw[Qip h2];rfl
  | _=>cases h1
theorem Qny:∀(ns:List Int),QhW (ns.map D.int)=some ns
 | []=>rfl
 | n::ns=>by simp[QhW,Qny ns,D.Qwd]
theorem Rps.ints{K:PySem.W.Frag}{H:Hp}:∀{ns:List Int}{vs:List V}{F:List Addr},Rps K H (ns.map .int) vs F->vs=ns.map .int
 | [],_,_,h=>by simp only[List.map_nil,Rps]at h;rw[h.1];rfl
 | n::ns,_,_,h=>by
  simp only[ZJ,Rps]at h
  obtain⟨v,ws,F1,F2,rfl,rfl,r,q⟩:=h
  rw[r.int_inv,Rps.ints q];rfl
theorem Qe6{ns:List Int}{us:List Value}(h:QF (ns.map V.int) us):IntsAre us ns:=intsAre_of h
section
variable {X:Cx}{a b e:Expr}{es:List Expr}{fa fb:DE}{fs:DA}{pos p2:Pos}
theorem Qzk{k:Expr}{te tk:TE}(he:PE X e te)(hk:PE X k tk):PE X (.Subscript e (.Slice none none (some k) p2) pos)
  (λσ H Q=>te σ H λx H1=>tk σ H1 λy H2=>∃a xs,x= .ref a/\y= .int (-1)/\SqL X.K H2 a xs/\∀p,H2 p=none->Q (.ref p) (upd H2 p (.lst xs.reverse))):=by
 intro pins s σ H Q I h
 refine PyProof.Rows.Subscript_ (thn (he pins s σ H _ I h) λv s1 ⟨x,H1,I1,r1,q1⟩=>?_)
 refine wpAny_Slice ?_
 rw[evalPart_none]
 refine wpAny_pure (wpAny_pure ?_)
 rw[evalPart_some]
 refine thn (hk pins s1 σ H1 _ I1 q1) λvk s3 ⟨y,H3,I3,r3,q3⟩=>?_
 obtain⟨c,xs,rfl,rfl,hq,q⟩:=q3
 cases r1
 obtain⟨t,rfl⟩:=r3
 have I4:Inv X pins σ H3 {s3 with heap:=s3.heap.push {cls:= .type "slice",data:= .fields #[.none,.none,.int (-1) t]}}:=I3.kept (t':=s3.toks) λb ob q=>Zn _ q
 obtain⟨its,r,ht,hz⟩:=I4.list hq
 have hlen:=r.length
 refine tail_any ht.isList.typeIs slot_list_getitem.lookup ?_ (by with_unfolding_all rfl)
 refine wpAny_getItem_list_slice ht.isList (Heap.IsSliceOf.new ..) .none .none (.int (-1) t) (by simp) ?_ (by rw[Zw]<;>omega)
 rw[PySem.W.krv_pick]
 refine⟨.ref _,_,I4.laid (t':=s3.toks) (λb ob q=>Zn _ q) (Zh _) ?_,rfl,q _ (I4.hok.fresh (Zh _))⟩
 exact⟨by rw[ZbH];exact hz,its.reverse,0,r.reverse,ZN _ rfl⟩
theorem Rps.rev{K:PySem.W.Frag}{H:Hp}:∀{ds:List D}{vs:List V}{F:List Addr},Rps K H ds vs F->∃G,Rps K H ds.reverse vs.reverse G/\∀a∈G,a∈F
 | [],_,_,h=>by simp only[Rps]at h;rw[h.1,h.2];exact⟨[],by simp[Rps],λ_ h=>h⟩
 | d::ds,_,_,h=>by
  simp only[Rps]at h
  obtain⟨v,ws,F1,F2,rfl,rfl,r,q⟩:=h
  obtain⟨G,h1,h2⟩:=Rps.rev q
  refine⟨G++F1,?_,λa ha=>?_⟩
  ·rw[Zbr,Zbr]
   refine h1.append ?_
   simp only[Rps]
   exact⟨v,[],F1,[],rfl,by simp,r,rfl,rfl⟩
  ·rcases ZC.mp ha with z | z
   ·exact Zb _ (h2 a z)
   ·exact Zd _ z
noncomputable def Qpt(fa fk:DE):DE:=λρ=>(fa ρ).bind λra=>(fk ρ).bind λrk=>match ra.d,rk.d with
 | .lst xs,.int (-1)=>some (QaQ xs.reverse ra.M)
 | _,_=>none
theorem QzR{k:Expr}{fk:DE}(ha:SE X a fa)(hk:SE X k fk):SE X (.Subscript a (.Slice none none (some k) p2) pos) (Qpt fa fk):=λH0 A0=>
 (Qzk (ha H0 A0) (hk H0 A0)).mono λσ H Q ⟨ρ,hs,F,r',rel,e,q⟩=>by
  obtain⟨ra,e1,e⟩:=bind1 e
  obtain⟨rk,e2,e⟩:=bind1 e
  refine two rel e1 e2 λx y H1 H2 G1 G2 p1 p2=>?_
  split at e
  ·rename_i xs hra hrk
   cases e
   have rp:=p1.rp.same p2.same
   have rk':=p2.rp
   rw[hra]at rp
   rw[hrk]at rk'
   obtain⟨c,vs,L,rfl,hc,rl,zl,el⟩:=rp.lst_inv
   refine⟨c,vs,rfl,rk'.int_inv,Qap hc,λp hp=>?_⟩
   obtain⟨G,h1,h2⟩:=rl.rev
   refine q _ _ (p::G) (Qag.QaQ (p1.same.trans p2.same) hp h1 (by rw[ZbH];exact zl) (λz hz=>p1.src z ?_) p1.own)
   rcases el with rfl | rfl
   ·exact Ze _ (h2 z hz)
   ·exact h2 z hz
  ·cases e
theorem Qld{us:List Value}{ns:List Int}(hi:IntsAre us ns):∃xs:Array (Int×Tok),us.toArray=intItems xs/\ns=xs.toList.map (·.1):=by
 obtain⟨xs,e⟩:=hi.allInts.items
 exact⟨xs,e,by rw[← hi.numsOf,← nums_intItems,← e]⟩
theorem QoK{prog:Program}{w:World}{A:Around}{E:Value->Shared->Prop}{s:Shared}{l:Addr}{xs:Array (Int×Tok)}{Q:Value->Shared->Prop}(hh:A.handled=none)(hl:s.heap.IsTuple l (intItems xs))
  (h:∀h' tk t',(∀b o,s.heap.get? b=some o->h'.get? b=some o)->Q (.int (preSum (numAt xs) xs.size) t') {s with heap:=h',toks:=tk}):
  wpAny (model prog w) A (call (.builtin "sum") [.ref l]) Q E s:=by
 have hlt:l<s.heap.objs.size:=by obtain⟨_,e,_⟩:=hl;exact ZA e
 refine call_sum_walkG (wpAny_pyIter_tuple hl ?_)
 refine⟨_,[_,l],[_],_,_,_,numAt xs,rfl,Walks.tuple (A:=A.in1) hh _ l (ZU hlt) (intItems xs),⟨⟨_,ZN _ rfl,rfl,rfl⟩,hl.push _⟩,λb hb=>?_,(λ_ _=>intItems_at),λh' tk t' hk=>?_⟩
 ·show b<(s.heap.push _).objs.size
  rw[Zbd]
  rcases Zq.mp hb with rfl | hb
  ·exact ZaT _
  ·rcases Zq.mp hb with rfl | hb
   ·exact Zbs hlt
   ·cases hb
 ·have:=h h' tk t' λb o e=>by
   refine hk b o (λhm=>?_) (Zn _ e)
   rcases Zq.mp hm with e1 | hm
   ·exact absurd (e1▸ZA e) (Zad _)
   ·cases hm
  simpa[intItems]using this
noncomputable def Qyr(K:PySem.W.Frag):List V->Hp->VK->Prop:=λxs H Q=>∃(p:Addr) (ns:List Int),xs=[.ref p]/\(SqL K H p (ns.map V.int)∨SqT K H p (ns.map V.int))/\Q (.int ns.sum) H
theorem Qs2(hc:X.calm=true):QcO X (.builtin "sum") (Qyr X.K):=by
 intro pins s σ H xs us Q I r h
 obtain⟨p,ns,rfl,hq,q⟩:=h
 obtain⟨u,rfl,rx⟩:=vals1 r
 cases rx
 rcases hq with hq | hq
 ·obtain⟨its,r',pl,hz⟩:=I.list hq
  obtain⟨ys,e,hns⟩:=Qld (Qe6 r')
  have hl:=pl.isList
  rw[e]at hl
  refine sum_intListG (I.ok.hd hc) hl λh' tk t' hk=>?_
  refine⟨.int ns.sum,H,I.kept hk,⟨t',?_⟩,q⟩
  rw[preSum_eq,ZaU (by simp),hns]
 ·obtain⟨its,r',pl,hz⟩:=I.tuple hq
  obtain⟨ys,e,hns⟩:=Qld (Qe6 r')
  have hl:=pl
  rw[e]at hl
  refine QoK (I.ok.hd hc) hl λh' tk t' hk=>?_
  refine⟨.int ns.sum,H,I.kept hk,⟨t',?_⟩,q⟩
  rw[preSum_eq,ZaU (by simp),hns]
noncomputable def QiZ:List D->Option D
 | [.lst xs]=>(QhW xs).map λns=> .int ns.sum
 | [.tup xs]=>(QhW xs).map λns=> .int ns.sum
 | _=>none
theorem QxL{K:PySem.W.Frag}:Qhs K QiZ (Qyr K):=λds d e=>by
 unfold QiZ at e
 split at e
 ·obtain⟨ns,h1,rfl⟩:=Zf.mp e
  refine⟨rfl,λH vs F Q r q=>?_⟩
  obtain⟨v,rfl,rp⟩:=r.one
  obtain⟨l,ws,L,rfl,hl,rl,zl,el⟩:=rp.lst_inv
  rw[Qip h1]at rl
  rw[rl.ints]at hl
  exact⟨l,ns,rfl,.inl (Qap hl),q _ λ_=> .int_mk⟩
 ·obtain⟨ns,h1,rfl⟩:=Zf.mp e
  refine⟨rfl,λH vs F Q r q=>?_⟩
  obtain⟨v,rfl,rp⟩:=r.one
  obtain⟨l,ws,rfl,hl,rl⟩:=rp.QbQ
  rw[Qip h1]at rl
  rw[rl.ints]at hl
  exact⟨l,ns,rfl,.inr hl,q _ λ_=> .int_mk⟩
 ·cases e
end
end HS
namespace HS
open PySem PySem.Spec L2 PyProof.Rows
theorem Qjx:∀{vs:List V}{us:List Value},us.length=vs.length->(∀(k:Nat) (v:V),vs[k]? =some v->∃u,us[k]? =some u/\RelV v u)->QF vs us
 | [],[],_,_=> .nil
 | [],_::_,h,_=>by simp at h
 | _::_,[],h,_=>by simp at h
 | v::vs,u::us,h,g=>by
  obtain⟨u',e,r⟩:=g 0 v rfl
  cases e
  exact .cons r (Qjx (by simpa using h) λk v hk=>g (k+1) v hk)
section
variable {X:Cx}{a b c e tg:Expr}{es:List Expr}{fa fb fc:DE}{fs:DA}{pos p2:Pos}
theorem QsE{pins:List (Addr×Obj)}{σ:L2.St}{H:Hp}{s:Shared}{Q:VK}{E:Value->Shared->Prop}{j:Int}{t u v:Tok}{tk:Nat}(I:Inv X pins σ H s)(hc:X.calm=true)(h0:0<=j)(h1:j<=1000000)
  (q:∀l,H l=none->Q (.ref l) (upd H l (.lst ((List.range j.toNat).map λ(k:Nat)=>V.int (k:Int))))):
  wpAny (model X.prog X.w) X.A (call (.type "list") [.ref s.heap.objs.size]) (EP X pins σ Q) E {s with heap:=s.heap.push {cls:= .type "range",data:= .fields #[.int 0 t,.int j u,.int 1 v]},toks:=tk}:=by
 have I2:Inv X pins σ H {s with heap:=s.heap.push {cls:= .type "range",data:= .fields #[.int 0 t,.int j u,.int 1 v]},toks:=tk}:=I.kept λb o e=>Zn _ e
 refine call_list_range (n:=j.toNat) (I.ok.hd hc) (IsRange.new ..) (small_one (by omega) (by omega) (by omega) (by omega)) (by rw[rangeSize_one];split<;>omega) (by omega) λh' tk' acc' c' hk hS hacc=>?_
 have hv:QF ((List.range j.toNat).map λ(k:Nat)=>V.int (k:Int)) acc'.toList:=by
  have hl:=hacc.1
  refine Qjx (by simp[hl]) λk v hk=>?_
  rw[Zm]at hk
  have hkl:k<j.toNat:=by
   by_cases z:k<j.toNat
   ·exact z
   ·rw[Zt (by simp;omega)]at hk;cases hk
  rw[ZH hkl]at hk
  cases hk
  obtain⟨w,hw⟩:∃w,acc'[k]? =some w:=⟨acc'[k]'(by omega),by rw[Array.getElem?_eq_getElem (by omega)]⟩
  obtain⟨t',rfl⟩:=hacc.2 k w hw
  exact⟨_,by rw[Array.getElem?_toList];exact hw,⟨t',by simp⟩⟩
 refine⟨.ref _,_,I2.laid hk (Zh _) (show QcU X.prog X.w _ h' _ (.lst _)from⟨by simp[Qhi];omega,acc'.toList,c',hv,by simpa using hS⟩),rfl,q _ (I2.hok.fresh (Zh _))⟩
theorem QtI{p p' pos':Pos}{ta:TA}(hg:Gl X "list")(hm:X.mg "list" =none)(hg':Gl X "range")(hm':X.mg "range" =none)(hc:X.calm=true)(ha:PA X [a] ta)(hs:starEach [a] X.env=[(false,eval a X.env)]):
  PE X (.Call (.Name "list" p) [.Call (.Name "range" p') [a] [] pos'] [] pos) (λσ H Q=>ta σ H λvs H1=>∃j:Int,vs=[.int j]/\0<=j/\j<=1000000/\∀l,H1 l=none->Q (.ref l) (upd H1 l (.lst ((List.range j.toNat).map λ(k:Nat)=>V.int (k:Int))))):=by
 intro pins s σ H Q I h
 refine wpAny_Call_Name_kw (QdW I hg hm boot_list ?_ (by decide) (by decide))
 refine ZW (Calls.spliced_cons ?_) rfl rfl
 refine Call_ (QdW I hg' hm' boot_range (ZW (thn (ha pos' pins s σ H _ I h) λus s1 ⟨vs,H1,I1,r1,q1⟩=>?_) hs rfl))
 obtain⟨j,e,q1,q2,q⟩:=q1
 subst e
 cases r1 with
 | cons r rr=>
  cases rr
  obtain⟨t,rfl⟩:=r
  exact call_range_1 (Calls.spliced_nil (QsE I1 hc q1 q2 q))
noncomputable def QrM(fa:DE):DE:=λρ=>(fa ρ).bind λr=>match r.d with
 | .int j=>if 0<=j/\j<=1000000 then some ⟨.lst ((List.range j.toNat).map λ(k:Nat)=> .int (k:Int)),true,[]⟩else none
 | _=>none
theorem Rps.ofInts{K:PySem.W.Frag}{H:Hp}:∀ns:List Int,Rps K H (ns.map .int) (ns.map .int) []
 | []=>by simp[Rps]
 | n::ns=>by simp only[ZJ,Rps];exact⟨_,_,[],[],rfl,rfl,.int_mk,Rps.ofInts ns⟩
theorem Qtu:∀ns:List Int,Qak (ns.map .int)=true
 | []=>rfl
 | n::ns=>by simp[Qak,D.flat,Qtu ns]
theorem Qwg{p p' pos':Pos}(hg:Gl X "list")(hm:X.mg "list" =none)(hg':Gl X "range")(hm':X.mg "range" =none)(hc:X.calm=true)(ha:SE X a fa)(hs:starEach [a] X.env=[(false,eval a X.env)]):
  SE X (.Call (.Name "list" p) [.Call (.Name "range" p') [a] [] pos'] [] pos) (QrM fa):=λH0 A0=>
 (QtI hg hm hg' hm' hc (QaP (ha H0 A0) QdV hs) hs).mono λσ H Q ⟨ρ,hs,F,r',rel,e,q⟩=>by
  obtain⟨ra,e1,e⟩:=bind1 e
  refine⟨ρ,hs,F,ra,rel,e1,λv H1 G p1=>?_⟩
  cases hd:ra.d with
  | int j=>
   rw[hd]at e
   dsimp only at e
   split at e
   ·rename_i hj
    cases e
    have rp:=p1.rp
    rw[hd]at rp
    refine⟨j,by rw[rp.int_inv],hj.1,hj.2,λl hl=>?_⟩
    have e2:((List.range j.toNat).map λ(k:Nat)=>D.int (k:Int))=((List.range j.toNat).map λ(k:Nat)=>(k:Int)).map D.int:=by rw[Zaj];rfl
    have e3:((List.range j.toNat).map λ(k:Nat)=>V.int (k:Int))=((List.range j.toNat).map λ(k:Nat)=>(k:Int)).map V.int:=by rw[Zaj];rfl
    have:=Qag.QaQ (ρ:=ρ) (F:=F) p1.same hl (Rps.ofInts (K:=X.K) ((List.range j.toNat).map λ(k:Nat)=>(k:Int))) (by simp[Qhi];omega) Src.nil QbI.nil
    rw[← e2,← e3]at this
    unfold QaQ at this
    rw[if_pos (by rw[e2];exact Qtu _)]at this
    exact q _ _ _ this
   ·cases e
  | _=>rw[hd]at e;cases e
noncomputable def Itd(hi:Int)(n:Nat):It:=⟨λi _=>i<n,λi H x H'=>H'=H/\x= .int (hi-i),λi _=>n<=i⟩
theorem QpP{P:Program}{w:World}{K:PySem.W.Frag}{tg:Expr}(it:Addr)(lo:Int)(n:Nat):Turn P w K tg (Itd lo n) [it] it (λi h=>IsRangeIter h it (lo+(i:Nat)*(-1)) ((n:Int)-(i:Nat)) (-1)) where
 mem:=by simp
 obj:=λi h st b hb=>by
  have e:b=it:=by simpa using hb
  subst e
  exact⟨_,st,λv z=>by
   have z':Data.fields _=Data.cell v:=z
   cases z'⟩
 keep:=λi h h' st k=>k it (by simp) _ st
 item:=by
  intro X hP hw hK hc i pins s σ H E I hf st hg
  subst hP hw hK
  obtain⟨f0,f1,f2,f3,f4,f5⟩:=hf it (by simp)
  have W:=Walks.range (prog:=X.prog) (w:=X.w) (I.ok.hd hc) it lo (-1) n
  refine W.item i s _ _ hg st λv h' tk hv st' kk=>?_
  obtain⟨t,rfl⟩:=hv
  have I1:Inv X pins σ H {s with heap:=h',toks:=tk}:=I.turned (λb o hb e=>kk b o (by simpa using hb) e) f0 f1 f3 f4 f5
  refine⟨_,rfl,Qnp st' rfl rfl (by decide) ⟨.int (lo-i),H,I1,⟨t,?_⟩,⟨rfl,rfl⟩,st',λb hb=>(hf b hb).1⟩⟩
  rw[show lo+(i:Int)* -1=lo-i by omega]
 done:=by
  intro X hP hw hK hc i pins s σ H E I hf st hg
  subst hP hw hK
  obtain⟨f0,f1,f2,f3,f4,f5⟩:=hf it (by simp)
  exact wpAny_pyNext_range_end (I.ok.hd hc) st (by have:n<=i:=hg;omega) λh' eb=>⟨rfl,I.turned (t':=s.toks) (λb o hb e=>eb b o hb e) f0 f1 f3 f4 f5⟩
 self:=λ_ _ _ _ _ st h=>wpAny_pyIter_rangeiter st h
theorem QmO(lo hi:Int):Builtin.Range.rangeSize lo hi (-1)=if lo>hi then lo-hi else 0:=by
 unfold Builtin.Range.rangeSize
 rw[if_neg (by decide)]
 split
 ·rw[show(- -1:Int)=1 by decide,Int.ediv_one];omega
 ·rfl
theorem small_down{lo hi:Int}(h1: -(2^62)<=lo)(h2:lo<2^62)(h3: -(2^62)<=hi)(h4:hi<2^62):Builtin.Range.small lo hi (-1)=true:=by
 unfold Builtin.Range.small
 rw[QmO]
 simp only[Builtin.Range.rangeFitsLong,Zj,Zch,decide_eq_true_eq,beq_iff_eq,show ¬((-1:Int)>0) by decide,if_false]
 split<;>omega
theorem Qss{pins:List (Addr×Obj)}{σ:L2.St}{H:Hp}{s:Shared}{R:It->Hp->Prop}{E:Value->Shared->Prop}{lo hi:Int}{t u v:Tok}{tk:Nat}(I:Inv X pins σ H s)(h1: -(2^62)<=lo)(h2:lo<2^62)(h3: -(2^62)<=hi)(h4:hi<2^62)
  (q:R (Itd lo (lo-hi).toNat) H):wpAny (model X.prog X.w) X.A (pyIter (.ref s.heap.objs.size)) (PIE X pins σ tg R) E {s with heap:=s.heap.push {cls:= .type "range",data:= .fields #[.int lo t,.int hi u,.int (-1) v]},toks:=tk}:=by
 refine wpAny_pyIter_range (IsRange.new ..) (small_down h1 h2 h3 h4) ?_
 have I1:Inv X pins σ H {s with heap:=s.heap.push {cls:= .type "range",data:= .fields #[.int lo t,.int hi u,.int (-1) v]},toks:=tk}:=I.kept λb o e=>Zn _ e
 refine⟨(s.heap.push {cls:= .type "range",data:= .fields #[.int lo t,.int hi u,.int (-1) v]}).objs.size,[(s.heap.push {cls:= .type "range",data:= .fields #[.int lo t,.int hi u,.int (-1) v]}).objs.size],_,_,H,rfl,
  I1.kept (t':=tk) λb o e=>Zn _ e,QpP _ lo (lo-hi).toNat,?_,λb hb=>?_,q⟩
 ·have e1:lo+((0:Nat):Int)*(-1)=lo:=by simp
  have e2:(((lo-hi).toNat:Nat):Int)-((0:Nat):Int)=Builtin.Range.rangeSize lo hi (-1):=by rw[QmO];split<;>omega
  show IsRangeIter _ _ (lo+((0:Nat):Int)*(-1)) ((((lo-hi).toNat:Nat):Int)-((0:Nat):Int)) (-1)
  rw[e1,e2]
  exact ZN _ rfl
 ·have e:b=(s.heap.push {cls:= .type "range",data:= .fields #[.int lo t,.int hi u,.int (-1) v]}).objs.size:=by simpa using hb
  subst e
  exact I1.Ql9 (Zh _) (I1.hok.fresh (Zh _))
noncomputable def Qz7(ta:TA):TI:=λσ H R=>ta σ H λvs H1=>∃i j:Int,vs=[.int i,.int j,.int (-1)]/\(-(2^62)<=i/\i<2^62/\ -(2^62)<=j/\j<2^62)/\R (Itd i (i-j).toNat) H1
theorem QsK{ta:TA}{p pos:Pos}(hg:Gl X "range")(hm:X.mg "range" =none)(ha:PA X [a,b,c] ta)(hs:starEach [a,b,c] X.env=(false,eval a X.env)::starEach [b,c] X.env)(hs2:(backTo pos (starEach [b,c] X.env)).any (·.1)=false):
  PI X tg (.Call (.Name "range" p) [a,b,c] [] pos) (Qz7 ta):=by
 intro pins s σ H R I h
 refine Call_ (QdW I hg hm boot_range (ZW (thn (ha pos pins s σ H _ I h) λus s1 ⟨vs,H1,I1,r1,q1⟩=>?_) hs hs2))
 obtain⟨i,j,e,⟨q1,q2,q3,q4⟩,q⟩:=q1
 subst e
 cases r1 with
 | cons r rr=>
  cases rr with
  | cons r' rr=>
   cases rr with
   | cons r'' rr=>
    cases rr
    obtain⟨t,rfl⟩:=r
    obtain⟨t',rfl⟩:=r'
    obtain⟨t'',rfl⟩:=r''
    exact call_range_3 (by decide) (Qss I1 q1 q2 q3 q4 q) (.inl (ZbQ (by decide+kernel)))
noncomputable def QlV(hi:Int)(n:Nat):List D:=(List.range n).map λ(k:Nat)=> .int (hi-(k:Int))
theorem Qu7{lo:Int}{n i:Nat}{d:D}(h:(QlV lo n)[i]? =some d):i<n/\d= .int (lo-i):=by
 unfold QlV at h
 rw[Zm]at h
 by_cases hi:i<n
 ·rw[ZH hi]at h;cases h;exact⟨hi,rfl⟩
 ·rw[Zt (by simp;omega)]at h;cases h
noncomputable def Qhn(fa fb fc:DE):DI:=λρ=>(fa ρ).bind λr=>(fb ρ).bind λr'=>(fc ρ).bind λr''=>match r.d,r'.d,r''.d with
 | .int i,.int j,.int (-1)=>if i-j<=16777216/\ -(2^62)<=i/\i<2^62/\ -(2^62)<=j/\j<2^62 then some ⟨QlV i (i-j).toNat,[]⟩else none
 | _,_,_=>none
theorem Qke{lo:Int}{n:Nat}:(QlV lo n).length=n:=by simp[QlV]
theorem Qp3{K:PySem.W.Frag}{lo:Int}{n:Nat}:Walk K (Itd lo n) [] (QlV lo n) where
 stop:=λH _=>by rw[Qke];exact Zh _
 go:=λi H hi _=>by rw[Qke]at hi;exact hi
 yld:=λi d H x H' e _ y=>by
  obtain⟨h1,rfl⟩:=Qu7 e
  obtain⟨rfl,rfl⟩:=y
  exact⟨QU.refl _,[],.int_mk,λz hz=>by simp at hz⟩
theorem QtB{p:Pos}(hg:Gl X "range")(hm:X.mg "range" =none)(ha:SE X a fa)(hb:SE X b fb)(hc:SE X c fc)(h1:starEach [a,b,c] X.env=(false,eval a X.env)::starEach [b,c] X.env)(h2:starEach [b,c] X.env=(false,eval b X.env)::starEach [c] X.env)(h3:starEach [c] X.env=(false,eval c X.env)::starEach [] X.env):
  SI X tg (.Call (.Name "range" p) [a,b,c] [] pos) (Qhn fa fb fc):=λH0 A0=>
 (QsK hg hm (QaP (ha H0 A0) (QaP (hb H0 A0) (QaP (hc H0 A0) QdV h3) h2) h1) h1 (by rw[h2,h3];rfl)).mono λσ H Rr ⟨ρ,hs,F,ir,rel,e,q⟩=>by
  obtain⟨r,e1,e⟩:=bind1 e
  obtain⟨r',e2,e⟩:=bind1 e
  obtain⟨r'',e3,e⟩:=bind1 e
  refine⟨ρ,hs,F,r,rel,e1,λv H1 G pp=>⟨ρ,hs,F,r',rel.ext pp.same,e2,λv' H2 G' pp'=>⟨ρ,hs,F,r'',(rel.ext pp.same).ext pp'.same,e3,λv'' H3 G'' pp''=>?_⟩⟩⟩
  split at e
  ·rename_i i j hr hr' hr''
   split at e
   ·rename_i hz
    cases e
    have rp:=(pp.rp.same pp'.same).same pp''.same
    have rp':=pp'.rp.same pp''.same
    have rp'':=pp''.rp
    rw[hr]at rp
    rw[hr']at rp'
    rw[hr'']at rp''
    rw[rp.int_inv,rp'.int_inv,rp''.int_inv]
    refine⟨i,j,rfl,hz.2,q _ H3 [] ((pp.same.trans pp'.same).trans pp''.same) Qp3 (λt ht=>by simp at ht) QbI.nil ?_⟩
    rw[Qke,Qhi];omega
   ·cases e
  ·cases e
noncomputable def QqX(fs:DA):DE:=λρ=>(fs ρ).bind λr=>match r.ds with
 | [.lst xs]=>if Qak xs=true then some ⟨.tup xs,true,[]⟩else none
 | _=>none
theorem QxW{p:Pos}(hg:Gl X "tuple")(hm:X.mg "tuple" =none)(ha:SA X (e::es) fs)(he:starEach (e::es) X.env=(false,eval e X.env)::starEach es X.env)(hpl:(backTo pos (starEach es X.env)).any (·.1)=false):
  SE X (.Call (.Name "tuple" p) (e::es) [] pos) (QqX fs):=λH0 A0=>
 (QiC Qnf hg hm ZbU (ha H0 A0) (by decide) (by decide) he hpl).mono λσ H Q ⟨ρ,hs,F,r',rel,e,q⟩=>by
  obtain⟨ra,e1,e⟩:=bind1 e
  refine⟨ρ,hs,F,ra,rel,e1,λvs H1 G p1=>?_⟩
  split at e
  ·rename_i xs hds
   split at e
   ·rename_i hf
    cases e
    have rp:=p1.rp
    rw[hds]at rp
    obtain⟨v,rfl,rq⟩:=rp.one
    obtain⟨l,ws,L,rfl,hl,rl,zl,el⟩:=rq.lst_inv
    have:=rl.QcJ hf
    subst this
    refine⟨l,ws,rfl,.inl ⟨Qap hl,λc hc=>q _ _ [] (.flat (p1.same.trans (QbZ hc)) (Rp.QiO Qaw (rl.same (QbZ hc))) (by simp only[D.flat];exact hf))⟩⟩
   ·cases e
  ·cases e
end
end HS
namespace HS
open PySem PySem.Spec PyProof.Rows L2
section
variable {X:Cx}{a b c:Expr}{fa fb fc:DE}{pos:Pos}
end
end HS
namespace HS
open PySem PySem.Spec L2
structure FnR where
 n:Nat
 dfl:List D
 den:Den
structure Th where
 N:List Str
 sc:List (Str×NameKind)
 Γ:List (Str×FnR)
 cs:List (Str×Int)
 tr:Stmt->Option DS:=λ_=>none
noncomputable def posOf(x:Str):List Str->Option Nat
 | []=>none
 | y::ys=>if x=y then some 0 else(posOf x ys).map (· +1)
theorem Qgs:∀{x:Str}{ys:List Str}{i:Nat},posOf x ys=some i->ys[i]? =some x
 | x,[],i,h=>by cases h
 | x,y::ys,i,h=>by
  unfold posOf at h
  split at h
  ·rename_i e;cases h;subst e;rfl
  ·obtain⟨j,hj,rfl⟩:=Zf.mp h
   simpa using Qgs hj
noncomputable def look{α:Type}(x:Str):List (Str×α)->Option α
 | []=>none
 | (y,a)::r=>if x=y then some a else look x r
theorem Qb7{α:Type}:∀{x:Str}{l:List (Str×α)},look x l=l.lookup x
 | x,[]=>rfl
 | x,(y,a)::r=>by
  unfold look
  rw[Zx]
  by_cases h:x=y
  ·subst h;simp
  ·rw[if_neg h,Qb7]
   have:(x == y)=false:=by simpa using h
   rw[this]
noncomputable def Qv8:NameKind->Bool
 | .local =>true | .cell=>true | .free=>true | _=>false
noncomputable def Qv1:NameKind->Bool
 | .local =>true | .cell=>true | _=>false
noncomputable def QBf:NameKind->Bool
 | .globalImplicit=>true | _=>false
noncomputable def isFree:NameKind->Bool
 | .free=>true | _=>false
noncomputable def odd(x:Str):Bool:=decide (x= "__debug__") || decide (x= "__classdict__") || decide (x= "__name__")
noncomputable def Th.slot(Θ:Th)(x:Str):Option Nat:=if((look x Θ.sc).map Qv8).getD false && !odd x then posOf x Θ.N else none
noncomputable def Th.Qdo(Θ:Th)(x:Str):Option Nat:=if((look x Θ.sc).map Qv1).getD false && !odd x then posOf x Θ.N else none
noncomputable def Th.gl(Θ:Th)(x:Str):Bool:=((look x Θ.sc).map QBf).getD false && !odd x
def QxR(X:Cx)(x:Str)(r:FnR):Prop:=∃k f fd ps,Qb2 X.prog X.w X.K X.mg X.base CX0 k f fd ps (spV X.K r.n r.den)/\QaT k X.A/\X.mg x=some (.ref f)/\PySem.W.keepIn X.K (.ref f)=true∧
 ∀m,m<=r.dfl.length->∃ds dvs,Binds X.K fd ps ds/\QF dvs ds/\∀H,Rps X.K H (r.dfl.drop (r.dfl.length-m)) dvs []
noncomputable def QnB:List Str:=["range","enumerate","zip","len","list","min","max","sum","abs","isinstance","int","bool","tuple","str","divmod","sorted","any","all"]
structure CtxB (X:Cx) (Θ:Th):Prop where
 N:X.N=Θ.N
 nd:Θ.N.Nodup
 lc:∀x,look x Θ.sc=some .local ->X.env.scope.names.lookup x=some .local
 ce:∀x,look x Θ.sc=some .cell->X.env.scope.names.lookup x=some .cell/\X.fn x=true
 fe:∀x,look x Θ.sc=some .free->X.env.scope.names.lookup x=some .cell∨X.env.scope.names.lookup x=some .free
 gl:∀x,look x Θ.sc=some .globalImplicit->X.env.scope.names.lookup x=some .globalImplicit
 units:X.A.units+64<cLine
 mg:∀x∈QnB,X.mg x=none
 cs:∀x i,look x Θ.cs=some i->∃t,X.mg x=some (.int i t)
structure QaG (X:Cx) (Θ:Th):Prop extends CtxB X Θ where
 calm:X.calm=true
 pass:PassesOwn (model X.prog X.w) X.A X.env X.xe
 fns:∀x r,look x Θ.Γ=some r->QxR X x r
 tr:∀st f,Θ.tr st=some f->S1 X st f
section
variable {X:Cx}{Θ:Th}
theorem QqE{x:Str}(h:odd x=false):(x == ("__debug__" :Str))=false/\(x == ("__classdict__" :Str))=false/\x≠ "__name__" :=by
 unfold odd at h
 simp only[Bool.or_eq_false_iff,decide_eq_false_iff_not]at h
 exact⟨by simpa using h.1.1,by simpa using h.1.2,h.2⟩
theorem QaE(ok:CtxB X Θ){x:Str}{i:Nat}{pos:Pos}(h:Θ.slot x=some i):PE X (.Name x pos) (Qf1 i):=by
 unfold Th.slot at h
 split at h
 ·rename_i hc
  simp only[Zj,ZaR]at hc
  obtain⟨h1,h2,_⟩:=QqE hc.2
  refine QsU (by rw[ok.N];exact Qgs h) ?_ h1 h2
  cases q:look x Θ.sc with
  | none=>rw[q]at hc;cases hc.1
  | some k=>
   rw[q]at hc
   cases k with
   | «local» =>exact .inl (ok.lc x q)
   | cell=>exact .inr (.inl (ok.ce x q).1)
   | free=>exact .inr (ok.fe x q)
   | _=>cases hc.1
 ·cases h
theorem QeX(ok:CtxB X Θ){x:Str}{i:Nat}(h:Θ.Qdo x=some i):X.N[i]? =some x/\Loc X.env.scope x/\(X.fn x=true∨X.env.scope.names.lookup x=some .local):=by
 unfold Th.Qdo at h
 split at h
 ·rename_i hc
  simp only[Zj,ZaR]at hc
  refine⟨by rw[ok.N];exact Qgs h,?_⟩
  cases q:look x Θ.sc with
  | none=>rw[q]at hc;cases hc.1
  | some k=>
   rw[q]at hc
   cases k with
   | «local» =>exact⟨.inl (ok.lc x q),.inr (ok.lc x q)⟩
   | cell=>exact⟨.inr (ok.ce x q).1,.inl (ok.ce x q).2⟩
   | _=>cases hc.1
 ·cases h
theorem QhZ(ok:CtxB X Θ){x:Str}(h:Θ.gl x=true):Gl X x/\(x == ("__debug__" :Str))=false/\x≠ "__name__" :=by
 unfold Th.gl at h
 simp only[Zj,ZaR]at h
 obtain⟨h1,h2,h3⟩:=QqE h.2
 refine⟨?_,h1,h3⟩
 cases q:look x Θ.sc with
 | none=>rw[q]at h;cases h.1
 | some k=>
  rw[q]at h
  cases k with
  | globalImplicit=>exact ok.gl x q
  | _=>cases h.1
end
noncomputable def isTup:Expr->Bool
 | .Tuple .. =>true
 | _=>false
noncomputable def QnV:Expr->Option Str
 | .Name x _=>some x
 | _=>none
noncomputable def Qga(Θ:Th):Expr->Option Tg
 | .Name x _=>(Θ.Qdo x).map .nm
 | .Tuple es _ _=>((es.mapM QnV).bind λxs=>xs.mapM Θ.Qdo).map .tp
 | _=>none
noncomputable def Qrq:CmpOp->Option (D->D->Option D)
 | .Eq=>some gEq | .NotEq=>some gNe | .Lt=>some gLt | .LtE=>some gLe | .Gt=>some gGt | .GtE=>some gGe
 | .Is=>none | .IsNot=>none
 | .In=>some (gIn false) | .NotIn=>some (gIn true)
noncomputable def QuH(x:Str):Option String:=
 if x= "int" then some "int" else if x= "bool" then some "bool" else if x= "list" then some "list" else if x= "tuple" then some "tuple" else if x= "str" then some "str" else none
noncomputable def inner(Θ:Th)(scope:Scope):Th:={N:=(scope.names.filter λy=>Qv8 y.2).map (·.1),sc:=scope.names,Γ:=Θ.Γ,cs:=Θ.cs}
noncomputable def Qi4(Θ:Th)(scope:Scope):List (Option Nat):=(inner Θ scope).N.map λx=>if((look x scope.names).map isFree).getD false then posOf x Θ.N else none
noncomputable def QkW(Θ:Th)(scope:Scope)(t:Tg):Bool:=(scope.kind == .function) && decide (inner Θ scope).N.Nodup &&
 (scope.names.all λy=>match y.2 with
  | .cell=>decide (look y.1 scope.names=some .cell)
  | .local =>decide (look y.1 scope.names=some .local)
  | .free=>match look y.1 Θ.sc with
   | some .cell=>true
   | some .free=>true
   | _=>false
  | _=>true) &&
 t.slots.all λj=>match (Qi4 Θ scope)[j]? with
  | some (some _)=>false
  | _=>true
noncomputable def QjQ(Θ:Th)(x:Str)(a:Expr):Option Expr:=match a with
 | .Call (.Name y _) [b] [] _=>if x= "list" /\y= "range" /\Θ.gl y=true/\(look y Θ.Γ).isNone=true then some b else none
 | _=>none
noncomputable def QAy:List Expr->Bool
 | []=>true | [_]=>true | _=>false
noncomputable def bf1(x:Str)(fa:DE):Option DE:=
 if x= "len" then some (dBf QaD (Qc fa Qg))else
 if x= "list" then some (dList (Qc fa Qg))else
 if x= "abs" then some (dBf Qis (Qc fa Qg))else
 if x= "sum" then some (dBf QiZ (Qc fa Qg))else
 if x= "tuple" then some (QqX (Qc fa Qg))else
 none
noncomputable def bf2(x:Str)(fa fb:DE):Option DE:=
 if x= "min" then some (dBf QgA (Qc fa (Qc fb Qg)))else
 if x= "max" then some (dBf Qgw (Qc fa (Qc fb Qg)))else
 none
mutual
noncomputable def Qs(n:Nat)(Θ:Th)(e:Expr):Option DE:=match n with
 | 0=>none
 | n+1=>match e with
  | .Name x _=>match Θ.slot x with
   | some i=>some (Qa i)
   | none=>if Θ.gl x then(look x Θ.cs).map λi=>dC (.int i)else none
  | .Constant (.int i) _ _=>some (dC (.int i))
  | .Constant (.bool b) _ _=>some (dC (.bl b))
  | .Constant .none _ _=>some (dC .non)
  | .Constant (.str x) _ _=>some (dC (.str x))
  | .BinOp a op b _=>(Qs n Θ a).bind λfa=>(Qs n Θ b).bind λfb=>match op with
   | .Add=>some (QQ fa fb)
   | .Mult=>some (Qav fa fb)
   | .Sub=>some (dOp Qa6 fa fb)
   | .FloorDiv=>some (dOp QbF fa fb)
   | .Mod=>some (dOp Qah fa fb)
   | .RShift=>some (dOp QrU fa fb)
   | .LShift=>some (dOp QrC fa fb)
   | .BitAnd=>some (dOp Qu4 fa fb)
   | _=>none
  | .UnaryOp .USub a _=>(Qs n Θ a).map Qlz
  | .UnaryOp .Not a _=>(Qs n Θ a).map QrG
  | .BoolOp .And [a] _=>Qs n Θ a
  | .BoolOp .And (a::b::r) p=>(Qs n Θ a).bind λfa=>(Qs n Θ (.BoolOp .And (b::r) p)).map λfb=>Qd3 fa fb
  | .BoolOp .Or [a] _=>Qs n Θ a
  | .BoolOp .Or (a::b::r) p=>(Qs n Θ a).bind λfa=>(Qs n Θ (.BoolOp .Or (b::r) p)).map λfb=>dOr fa fb
  | .Compare a [op] [b] _=>(Qs n Θ a).bind λfa=>(Qs n Θ b).bind λfb=>(Qrq op).map λg=>dOp g fa fb
  | .IfExp c a b _=>(Qba n Θ c).bind λg=>(Qs n Θ a).bind λfa=>(Qs n Θ b).map λfb=>dIf g fa fb
  | .Tuple es _ _=>(QbE n Θ es).map Qat
  | .List es _=>(QbE n Θ es).map QaC
  | .Subscript a (.Slice lo hi none _) _=>(Qs n Θ a).bind λfa=>(QiR n Θ lo).bind λfl=>(QiR n Θ hi).map λfh=>QcI fa fl fh
  | .Subscript a (.Slice none none (some k) _) _=>(Qs n Θ a).bind λfa=>(Qs n Θ k).map λfk=>Qpt fa fk
  | .Subscript a b _=>(Qs n Θ a).bind λfa=>(Qs n Θ b).map λfb=>Qr fa fb
  | .Call (.Name x _) args [] _=>if Θ.gl x then(match look x Θ.Γ with
    | some r=>if r.n<=args.length+r.dfl.length/\args.length<=r.n then(QbE n Θ args).map λfs=>Qj r.n r.den (r.dfl.drop (r.dfl.length-(r.n-args.length))) fs else none
    | none=>QkZ n Θ x args)else none
  | .ListComp elt [⟨tg,iter,ifs,0⟩] scope _=>(Qga (inner Θ scope) tg).bind λt=>if QkW Θ scope t && QAy ifs then
    (Qfo n Θ tg iter).bind λfi=>(QfO n (inner Θ scope) ifs).bind λft=>(Qs n (inner Θ scope) elt).map λfe=>QM fi t (Qi4 Θ scope) ft fe else none
  | _=>none
noncomputable def QkZ(n:Nat)(Θ:Th)(x:Str)(args:List Expr):Option DE:=match n with
  | 0=>none
  | n+1=>match args with
    | [a]=>match QjQ Θ x a with
     | some b=>(Qs n Θ b).map QrM
     | none=>(Qs n Θ a).bind λfa=>bf1 x fa
    | [a,b]=>if x= "isinstance" then(Qs n Θ a).bind λfa=>match b with
        | .Name y _=>if Θ.gl y then(QuH y).map λT=>Qj3 T fa else none
        | _=>none
      else(Qs n Θ a).bind λfa=>(Qs n Θ b).bind λfb=>bf2 x fa fb
    | _=>none
noncomputable def Qba(n:Nat)(Θ:Th)(e:Expr):Option DT:=match n with
 | 0=>none
 | n+1=>match e with
  | .UnaryOp .Not a _=>(Qba n Θ a).map Qck
  | .BoolOp .And [a] _=>Qba n Θ a
  | .BoolOp .And (a::b::r) p=>(Qba n Θ a).bind λfa=>(Qba n Θ (.BoolOp .And (b::r) p)).map λfb=>QhK fa fb
  | .BoolOp .Or [a] _=>Qba n Θ a
  | .BoolOp .Or (a::b::r) p=>(Qba n Θ a).bind λfa=>(Qba n Θ (.BoolOp .Or (b::r) p)).map λfb=>bOr fa fb
  | .Compare a [op] [b] _=>(Qs n Θ a).bind λfa=>(Qs n Θ b).bind λfb=>(Qrq op).map λg=>QO (dOp g fa fb)
  | .BoolOp _ _ _=>none
  | .IfExp _ _ _ _=>none
  | .Compare _ _ _ _=>none
  | e=>(Qs n Θ e).map QO
noncomputable def QfO(n:Nat)(Θ:Th)(es:List Expr):Option DT:=match n with
 | 0=>none
 | n+1=>match es with
  | []=>some QW
  | [c]=>Qba n Θ c
  | _=>none
noncomputable def QbE(n:Nat)(Θ:Th)(es:List Expr):Option DA:=match n with
 | 0=>none
 | n+1=>match es with
  | []=>some Qg
  | e::es=>(Qs n Θ e).bind λfa=>(QbE n Θ es).map λfs=>Qc fa fs
noncomputable def QiR(n:Nat)(Θ:Th)(e:Option Expr):Option DO:=match n with
 | 0=>none
 | n+1=>match e with
  | none=>some Qbv
  | some e=>(Qs n Θ e).map Qbw
noncomputable def Qfo(n:Nat)(Θ:Th)(tg e:Expr):Option DI:=match n with
 | 0=>none
 | n+1=>match e with
  | .Call (.Name x _) args [] _=>if Θ.gl x && (look x Θ.Γ).isNone then(match args with
    | [a]=>if x= "range" then(Qs n Θ a).map QaY else
     if x= "enumerate" then(if isTup tg then(Qs n Θ a).map QgZ else none)else
     (Qs n Θ e).map QY
    | [a,b,c]=>
     if x= "range" then(Qs n Θ a).bind λfa=>(Qs n Θ b).bind λfb=>(Qs n Θ c).map λfc=>Qhn fa fb fc else
     (Qs n Θ e).map QY
    | [a,b]=>
     if x= "range" then(Qs n Θ a).bind λfa=>(Qs n Θ b).map λfb=>QdN fa fb else
     if x= "zip" then(if isTup tg then(Qs n Θ a).bind λfa=>(Qs n Θ b).map λfb=>Qe3 fa fb else none)else
     (Qs n Θ e).map QY
    | _=>(Qs n Θ e).map QY)else(Qs n Θ e).map QY
  | e=>(Qs n Θ e).map QY
end
end HS
namespace HS
open PySem PySem.Spec L2
theorem Qau{α β γ:Type}{x:Option α}{y:α->Option β}{k:α->β->γ}{r:γ}(e:(x.bind λa=>(y a).map λb=>k a b)=some r):∃a b,x=some a/\y a=some b/\k a b=r:=by
 obtain⟨a,h1,e⟩:=bind1 e
 obtain⟨b,h2,e⟩:=Zf.mp e
 exact⟨a,b,h1,h2,e⟩
theorem Qa2{n:Nat}{Θ:Th}{e:Expr}{f:DE}(h:Qs n Θ e=some f)(es:List Expr)(env:Env):starEach (e::es) env=(false,eval e env)::starEach es env:=by
 cases n with
 | zero=>exact nomatch (show(none:Option DE)=some _ from h)
 | succ n=>cases e<;>first | rfl | (exact nomatch (show(none:Option DE)=some _ from h))
theorem Qqj:∀{n:Nat}{Θ:Th}{es:List Expr}{f:DA},QbE n Θ es=some f->∀(pos:Pos) (env:Env),(backTo pos (starEach es env)).any (·.1)=false
 | 0,_,_,_,h,_,_=>by simp[QbE]at h
 | n+1,_,[],_,h,_,_=>rfl
 | n+1,_,e::es,_,h,pos,env=>by
  simp only[QbE]at h
  obtain⟨fa,fs,h1,h2,_⟩:=Qau h
  rw[Qa2 h1]
  have:=Qqj h2 pos env
  simpa[backTo]using this
theorem Qqw{n:Nat}{Θ:Th}{b:Expr}{f:DE}(h:Qs n Θ b=some f):QiS b:=by
 cases n with
 | zero=>exact nomatch (show(none:Option DE)=some _ from h)
 | succ n=>cases b<;>first | (intro o i;rfl) | (exact nomatch (show(none:Option DE)=some _ from h))
theorem Qzw{n:Nat}{Θ:Th}{e:Expr}{f:DE}(h:Qs n Θ e=some f)(env:Env):∀x,foldedSetIterable e env x=pure x:=by
 cases n with
 | zero=>exact nomatch (show(none:Option DE)=some _ from h)
 | succ n=>cases e<;>first | (intro x;rfl) | (exact nomatch (show(none:Option DE)=some _ from h))
theorem QtK{n:Nat}{Θ:Th}{e:Expr}{f:DE}(h:Qs n Θ e=some f)(op:CmpOp):behindInMarks op e=false:=by
 cases n with
 | zero=>exact nomatch (show(none:Option DE)=some _ from h)
 | succ n=>cases e<;>first | rfl | (exact nomatch (show(none:Option DE)=some _ from h))
theorem Qey{env:Env}:∀{names:List (Str×NameKind)}{x:Str},names.lookup x=some .cell→
  (names.map λ(n,k)=>if(k == NameKind.free && env.scope.kind == .function && env.kindOf n == some .cell)then(n,NameKind.cell)else(n,k)).lookup x=some .cell
 | [],_,h=>by simp at h
 | (n,k)::r,x,h=>by
  have ih:= @Qey env r x
  rw[ZJ]
  cases hx:x == n with
  | true=>
   simp only[Zx,hx]at h
   cases h
   dsimp only
   split<;>simp[Zx,hx]
  | false=>
   simp only[Zx,hx]at h
   dsimp only
   split<;>(simp only[Zx,hx];exact ih h)
theorem Qob{X:Cx}{Θ:Th}{scope:Scope}{t:Tg}(ok:QaG X Θ)(h:QkW Θ scope t=true):Qfd X (inner Θ scope).N scope/\Qnm X (inner Θ scope).N scope (Qi4 Θ scope) t.slots/\∀cl C fp s3 H3,QaG (cxc X (inner Θ scope).N scope cl C fp s3 H3) (inner Θ scope):=by
 unfold QkW at h
 simp only[Zj,decide_eq_true_eq]at h
 obtain⟨⟨⟨h1,h2⟩,h3⟩,h4⟩:=h
 have hk:scope.kind= .function:=by simpa using h1
 have each:∀y∈scope.names,(y.2= .cell->scope.names.lookup y.1=some .cell)/\(y.2= .local ->scope.names.lookup y.1=some .local)/\(y.2= .free->X.env.kindOf y.1=some .cell∨X.env.kindOf y.1=some .free):=λy hy=>by
  have:=Zaw.mp h3 y hy
  obtain⟨y,k⟩:=y
  cases k with
  | cell=>exact⟨λ_=>(by rw[← Qb7];simpa using this),λz=>(by cases z),λz=>(by cases z)⟩
  | «local» =>exact⟨λz=>(by cases z),λ_=>by rw[← Qb7];simpa using this,λz=>by cases z⟩
  | free=>
   refine⟨λz=>(by cases z),λz=>(by cases z),λ_=>?_⟩
   dsimp only at this
   split at this
   ·rename_i q;exact .inl (ok.ce _ q).1
   ·rename_i q;exact ok.fe _ q
   ·cases this
  | _=>exact⟨λz=>(by cases z),λz=>(by cases z),λz=>(by cases z)⟩
 have S:Qfd X (inner Θ scope).N scope:=⟨hk,λy hy=>(each y hy).1,λy hy=>(each y hy).2.1,λy hy=>(each y hy).2.2⟩
 refine⟨S,⟨by unfold Qi4;simp,λj i e=>?_,λj i e hj=>?_⟩,λcl C fp s3 H3=>⟨⟨rfl,h2,λx e=>?_,λx e=>?_,λx e=>?_,λx e=>?_,ok.units,ok.mg,ok.cs⟩,ok.calm,PassesOwn.never,ok.fns,λ_ _ e=>nomatch e⟩⟩
 ·unfold Qi4 at e
  rw[Zm]at e
  cases q:(inner Θ scope).N[j]? with
  | none=>rw[q]at e;cases e
  | some x=>
   rw[q]at e
   simp only[Zae,Option.some.injEq]at e
   split at e
   ·rename_i hf
    cases hl:look x scope.names with
    | none=>rw[hl]at hf;cases hf
    | some k=>
     rw[hl]at hf
     cases k with
     | free=>
      rw[Qb7]at hl
      exact⟨x,rfl,hl,by rw[ok.N];exact Qgs e,(each (x,.free) (Zal hl)).2.2 rfl⟩
     | _=>cases hf
   ·cases e
 ·have:=Zaw.mp h4 j hj
  rw[e]at this
  cases this
 ·have e':scope.names.lookup x=some .local :=by rw[← Qb7];exact e
  exact lookup_relabel_local e'
 ·have e':scope.names.lookup x=some .cell:=by rw[← Qb7];exact e
  exact⟨Qey e',decide_eq_true e'⟩
 ·have e':scope.names.lookup x=some .free:=by rw[← Qb7];exact e
  exact Qdl e'
 ·have e':scope.names.lookup x=some .globalImplicit:=by rw[← Qb7];exact e
  show(relabel scope X.env).names.lookup x=some .globalImplicit
  unfold relabel
  have gen:∀{names:List (Str×NameKind)},names.lookup x=some .globalImplicit→
    (names.map λ(n,k)=>if(k == NameKind.free && X.env.scope.kind == .function && X.env.kindOf n == some .cell)then(n,NameKind.cell)else(n,k)).lookup x=some .globalImplicit:=by
   intro names
   induction names with
   | nil=>intro z;simp at z
   | cons y r ih=>
    intro z
    obtain⟨n,k⟩:=y
    rw[ZJ]
    cases hx:x == n with
    | true=>
     simp only[Zx,hx]at z
     cases z
     simp[Zx,hx]
    | false=>
     simp only[Zx,hx]at z
     dsimp only
     split<;>(simp only[Zx,hx];exact ih z)
  exact gen e'
theorem Qnr{X:Cx}{Θ:Th}(ok:QaG X Θ){tg:Expr}{t:Tg}(h:Qga Θ tg=some t):SG X tg t:=by
 have hN:X.N.Nodup:=by rw[ok.N];exact ok.nd
 cases tg with
 | Name x pos=>
  simp only[Qga]at h
  obtain⟨i,hi,rfl⟩:=Zf.mp h
  obtain⟨h1,h2,h3⟩:=QeX ok.toCtxB hi
  exact Qxu (Qqq hN h1 h2 h3)
 | Tuple es k pos=>
  simp only[Qga]at h
  obtain⟨is,hi,rfl⟩:=Zf.mp h
  obtain⟨xs,h1,h2⟩:=bind1 hi
  have key:∀(es:List Expr) (xs:List Str) (is:List Nat),es.mapM QnV=some xs->xs.mapM Θ.Qdo=some is->PGs X es (Qlj is)/\(assignEach es X.env).length=is.length/\(assignEach es X.env).findIdx? (·.1)=none:=by
   intro es
   induction es with
   | nil=>
    intro xs is h1 h2
    cases h1
    cases h2
    exact⟨Qwn,rfl,rfl⟩
   | cons e es ih=>
    intro xs is h1 h2
    rw[List.mapM_cons]at h1
    obtain⟨x,hx,h1⟩:=bind1 h1
    obtain⟨ys,hy,h1⟩:=bind1 h1
    cases h1
    rw[List.mapM_cons]at h2
    obtain⟨i,hi,h2⟩:=bind1 h2
    obtain⟨js,hj,h2⟩:=bind1 h2
    cases h2
    obtain⟨a1,a2,a3⟩:=ih ys js hy hj
    cases e with
    | Name y p=>
     cases hx
     obtain⟨g1,g2,g3⟩:=QeX ok.toCtxB hi
     refine⟨Qt8 (Qqq hN g1 g2 g3) a1 rfl,?_,?_⟩
     ·show(assignEach es X.env).length+1=_
      rw[a2];rfl
     ·show List.findIdx? (·.1) ((false,assign (.Name x p) X.env)::assignEach es X.env)=none
      rw[List.findIdx?_cons]
      simp only[a3];rfl
    | _=>cases hx
  obtain⟨a1,a2,a3⟩:=key es xs is h1 h2
  exact Qzn ok.calm a1 a2 a3
 | _=>simp only[Qga]at h;cases h
theorem Qru{f:Int->Int->Bool}:∀a b d,gI (λi j=>some (.bl (f i j))) a b=some d->∃k,d= .bl k:=λa b d h=>by
 obtain⟨i,j,_,_,e⟩:=QtC h
 cases e
 exact⟨_,rfl⟩
theorem Qsh{X:Cx}{Θ:Th}(ok:QaG X Θ){op:CmpOp}{g:D->D->Option D}(h:Qrq op=some g):∃r,OpR X (compareOp op) r/\Qco X.K g r/\∀a b d,g a b=some d->∃k,d= .bl k:=by
 cases op<;>cases h
 ·exact⟨_,Qyx ok.units,QAH,λa b d h=>by unfold gEq at h;split at h<;>cases h;exact⟨_,rfl⟩⟩
 ·exact⟨_,Qy7 ok.units,QzZ,λa b d h=>by unfold gNe at h;split at h<;>cases h;exact⟨_,rfl⟩⟩
 ·exact⟨_,QAL,QAI,Qru⟩
 ·exact⟨_,QAg,QAa,Qru⟩
 ·exact⟨_,QAS,QAP,Qru⟩
 ·exact⟨_,Qz8,QAz,Qru⟩
 ·exact⟨_,Qyp ok.units,QvZ,λa b d h=>by unfold gIn at h;split at h<;>first | (split at h<;>cases h;exact⟨_,rfl⟩) | cases h⟩
 ·exact⟨_,Qty ok.units,QvZ,λa b d h=>by unfold gIn at h;split at h<;>first | (split at h<;>cases h;exact⟨_,rfl⟩) | cases h⟩
structure Qlc (n:Nat):Prop where
 E:∀X Θ e f,QaG X Θ->Qs n Θ e=some f->SE X e f
 B:∀X Θ x args f p pos,QaG X Θ->Θ.gl x=true->QkZ n Θ x args=some f->SE X (.Call (.Name x p) args [] pos) f
 T:∀X Θ e f,QaG X Θ->Qba n Θ e=some f->ST X e f
 Ts:∀X Θ e f,QaG X Θ->QfO n Θ e=some f->QoB X e f
 A:∀X Θ e f,QaG X Θ->QbE n Θ e=some f->SA X e f
 O:∀X Θ e f,QaG X Θ->QiR n Θ e=some f->SO X e f
 I:∀X Θ tg e f,QaG X Θ->Qfo n Θ tg e=some f->SI X tg e f/\∀x,foldedSetIterable e X.env x=pure x
theorem callArgs{X:Cx}{n:Nat}{Θ:Th}{es:List Expr}{fs:DA}(h:QbE n Θ es=some fs){e:Expr}{es':List Expr}(he:es=e::es')(pos:Pos):starEach (e::es') X.env=(false,eval e X.env)::starEach es' X.env/\(backTo pos (starEach es' X.env)).any (·.1)=false:=by
 subst he
 cases n with
 | zero=>simp[QbE]at h
 | succ n=>
  simp only[QbE]at h
  obtain⟨fa,fs',h1,h2,_⟩:=Qau h
  exact⟨Qa2 h1 es' X.env,Qqj h2 pos X.env⟩
theorem QAT{n:Nat}(ih:Qlc n):∀X Θ e f,QaG X Θ->Qs (n+1) Θ e=some f->SE X e f:=by
  intro X Θ e f ok h
  cases e with
  | Name x pos=>
    (conv at h=>lhs;whnf)
    cases q:Θ.slot x with
    | some i=>rw[q]at h;cases h;exact Qep (QaE ok.toCtxB q)
    | none=>
      rw[q]at h
      dsimp only at h
      split at h
      · rename_i hg
        obtain⟨i,hi,rfl⟩:=Zf.mp h
        obtain⟨g1,g2,g3⟩:=QhZ ok.toCtxB hg
        obtain⟨t,hm⟩:=ok.cs x i hi
        exact Qof (v:= .int i) (Qxg g1 hm ⟨t,rfl⟩ g2) (λ_ _=> .int_mk) rfl
      · cases h
  | Constant c k pos=>
    cases c with
    | int i=>(conv at h=>lhs;whnf);cases h;exact Qof Qy4 (λ_ _=> .int_mk) rfl
    | bool b=>(conv at h=>lhs;whnf);cases h;exact Qof QAw (λ_ _=> .Qew) rfl
    | none=>(conv at h=>lhs;whnf);cases h;exact Qof QyF (λ_ _=> .QkB) rfl
    | str x=>(conv at h=>lhs;whnf);cases h;exact Qof QyI (λ_ _=> .str_mk) rfl
    | _=>exact nomatch (show(none:Option DE)=some _ from h)
  | BinOp a op b pos=>
    (conv at h=>lhs;whnf)
    obtain⟨fa,h1,h⟩:=bind1 h
    obtain⟨fb,h2,h⟩:=bind1 h
    have ha:=ih.E X Θ a fa ok h1
    have hb:=ih.E X Θ b fb ok h2
    cases op with
    | Add=>cases h;exact Qyn ha hb
    | Mult=>cases h;exact Qzz ha hb
    | Sub=>cases h;exact Qi8 QzF QsW ha hb
    | FloorDiv=>cases h;exact Qi8 QxA Qyi ha hb
    | Mod=>cases h;exact Qi8 Qxy Qyv ha hb
    | RShift=>cases h;exact Qi8 Qzs QzB ha hb
    | LShift=>cases h;exact Qi8 Qx8 QyS ha hb
    | BitAnd=>cases h;exact Qi8 QzJ QzT ha hb
    | _=>cases h
  | UnaryOp op a pos=>
    cases op with
    | USub=>
      (conv at h=>lhs;whnf)
      obtain⟨fa,h1,rfl⟩:=Zf.mp h
      exact QzO (ih.E X Θ a fa ok h1)
    | Not=>
      (conv at h=>lhs;whnf)
      obtain⟨fa,h1,rfl⟩:=Zf.mp h
      exact QyL (ih.E X Θ a fa ok h1)
    | _=>exact nomatch (show(none:Option DE)=some _ from h)
  | BoolOp op es pos=>
    cases op with
    | And=>
      match es,h with
      | [],h=>exact nomatch (show(none:Option DE)=some _ from h)
      | [a],h=>(conv at h=>lhs;whnf);exact QtD (ih.E X Θ a f ok h)
      | a::b::r,h=>
        (conv at h=>lhs;whnf)
        obtain⟨fa,fb,h1,h2,rfl⟩:=Qau h
        exact QyA (ih.E X Θ a fa ok h1) (ih.E X Θ _ fb ok h2)
    | Or=>
      match es,h with
      | [],h=>exact nomatch (show(none:Option DE)=some _ from h)
      | [a],h=>(conv at h=>lhs;whnf);exact QtD (ih.E X Θ a f ok h)
      | a::b::r,h=>
        (conv at h=>lhs;whnf)
        obtain⟨fa,fb,h1,h2,rfl⟩:=Qau h
        exact QAB (ih.E X Θ a fa ok h1) (ih.E X Θ _ fb ok h2)
  | Compare a ops bs pos=>
    match ops,bs,h with
    | [op],[b],h=>
      (conv at h=>lhs;whnf)
      obtain⟨fa,h1,h⟩:=bind1 h
      obtain⟨fb,g,h2,h3,rfl⟩:=Qau h
      obtain⟨r,o1,o2,_⟩:=Qsh ok h3
      exact QyD o1 o2 (ih.E X Θ a fa ok h1) (ih.E X Θ b fb ok h2) (QtK h2 op)
    | [],_,h=>exact nomatch (show(none:Option DE)=some _ from h)
    | [_],[],h=>exact nomatch (show(none:Option DE)=some _ from h)
    | [_],_::_::_,h=>exact nomatch (show(none:Option DE)=some _ from h)
    | _::_::_,_,h=>exact nomatch (show(none:Option DE)=some _ from h)
  | IfExp c a b pos=>
    (conv at h=>lhs;whnf)
    obtain⟨g,h1,h⟩:=bind1 h
    obtain⟨fa,fb,h2,h3,rfl⟩:=Qau h
    exact QAo (ih.T X Θ c g ok h1) (ih.E X Θ a fa ok h2) (ih.E X Θ b fb ok h3)
  | Tuple es k pos=>
    (conv at h=>lhs;whnf)
    obtain⟨fs,h1,rfl⟩:=Zf.mp h
    exact QyO (ih.A X Θ es fs ok h1)
  | List es pos=>
    (conv at h=>lhs;whnf)
    obtain⟨fs,h1,rfl⟩:=Zf.mp h
    exact Qya (ih.A X Θ es fs ok h1)
  | Subscript a b pos=>
    by_cases hb:∃lo hi p2,b= .Slice lo hi none p2
    · obtain⟨lo,hi,p2,rfl⟩:=hb
      (conv at h=>lhs;whnf)
      obtain⟨fa,h1,h⟩:=bind1 h
      obtain⟨fl,fh,h2,h3,rfl⟩:=Qau h
      exact Qyk (ih.E X Θ a fa ok h1) (ih.O X Θ lo fl ok h2) (ih.O X Θ hi fh ok h3)
    · by_cases hk:∃k p2,b= .Slice none none (some k) p2
      · obtain⟨k,p2,rfl⟩:=hk
        (conv at h=>lhs;whnf)
        obtain⟨fa,fk,h1,h2,rfl⟩:=Qau h
        exact QzR (ih.E X Θ a fa ok h1) (ih.E X Θ k fk ok h2)
      · have h':((Qs n Θ a).bind λfa=>(Qs n Θ b).map λfb=>Qr fa fb)=some f:=by
          cases b<;>first
            | (exact h)
            | (rename_i lo hi st p2;cases lo<;>cases hi<;>cases st<;>first | (exact absurd ⟨_,_,_,rfl⟩ hb) | (exact absurd ⟨_,_,rfl⟩ hk) | (exact h))
        obtain⟨fa,fb,h1,h2,rfl⟩:=Qau h'
        exact Qyw (ih.E X Θ a fa ok h1) (ih.E X Θ b fb ok h2) (Qqw h2)
  | Call fn args kws pos=>
    cases fn with
    | Name x p=>
     cases kws with
     | cons k ks=>exact nomatch (show(none:Option DE)=some _ from h)
     | nil=>
      have h:(if Θ.gl x then(match look x Θ.Γ with | some r=>if r.n<=args.length+r.dfl.length/\args.length<=r.n then(QbE n Θ args).map λfs=>Qj r.n r.den (r.dfl.drop (r.dfl.length-(r.n-args.length))) fs else none | none=>QkZ n Θ x args)else none)=some f:=h
      split at h
      · rename_i hg
        obtain⟨g1,g2,g3⟩:=QhZ ok.toCtxB hg
        split at h
        · rename_i r hr
          split at h
          · rename_i hn
            obtain⟨fs,h1,rfl⟩:=Zf.mp h
            obtain⟨k,fa,fd,ps,F1,F2,F3,F4,F5⟩:=ok.fns x r hr
            obtain⟨ds,dvs,b1,b2,b3⟩:=F5 (r.n-args.length) (by omega)
            cases args with
            | nil=>
              cases n with
              | zero=>simp[QbE]at h1
              | succ n=>
                simp only[QbE]at h1
                cases h1
                exact QuF F1 F2 g1 F3 F4 b1 b2 b3 g2
            | cons e es=>
              obtain⟨s1,s2⟩:=callArgs (X:=X) h1 rfl pos
              exact Qw4 F1 F2 g1 F3 F4 b1 b2 b3 (ih.A X Θ _ fs ok h1) g2 s1 s2
          · cases h
        · exact ih.B X Θ x args f p pos ok hg h
      · cases h
    | _=>exact nomatch (show(none:Option DE)=some _ from h)
  | ListComp elt gens scope pos=>
    match gens,h with
    | [⟨tg,iter,ifs,k⟩],h=>
      by_cases hk:k=0
      · subst hk
        (conv at h=>lhs;whnf)
        obtain⟨t,ht,h⟩:=bind1 h
        split at h
        · rename_i hc
          simp only[Zj]at hc
          obtain⟨fi,h1,h⟩:=bind1 h
          obtain⟨ft,fe,h2,h3,rfl⟩:=Qau h
          obtain⟨S,cap,inn⟩:=Qob ok hc.1
          obtain⟨i1,i2⟩:=ih.I X Θ tg iter fi ok h1
          exact Qw3 ok.calm S i1 cap (λcl C fp s3 H3=>⟨Qnr (inn cl C fp s3 H3) ht,ih.Ts _ _ ifs ft (inn cl C fp s3 H3) h2,ih.E _ _ elt fe (inn cl C fp s3 H3) h3⟩) i2
        · cases h
      · exfalso
        cases k with
        | ofNat k=>
          cases k with
          | zero=>exact hk rfl
          | succ k=>exact nomatch (show(none:Option DE)=some _ from h)
        | negSucc k=>exact nomatch (show(none:Option DE)=some _ from h)
    | [],h=>exact nomatch (show(none:Option DE)=some _ from h)
    | ⟨_,_,_,.ofNat 0⟩::_::_,h=>exact nomatch (show(none:Option DE)=some _ from h)
    | ⟨_,_,_,.ofNat (k+1)⟩::_::_,h=>exact nomatch (show(none:Option DE)=some _ from h)
    | ⟨_,_,_,.negSucc k⟩::_::_,h=>exact nomatch (show(none:Option DE)=some _ from h)
  | _=>exact nomatch (show(none:Option DE)=some _ from h)
theorem QzE{X:Cx}{Θ:Th}{x:Str}{a:Expr}{fa f:DE}{p pos:Pos}(ok:QaG X Θ)(g1:Gl X x)(sa:SA X [a] (Qc fa Qg))(st:starEach [a] X.env=(false,eval a X.env)::starEach [] X.env)(h:bf1 x fa=some f):SE X (.Call (.Name x p) [a] [] pos) f:=by
 unfold bf1 at h
 by_cases e:x= "len"
 ·rw[if_pos e]at h;cases h;subst e;have hm:=ok.mg "len" (by decide+kernel)
  exact QkA Qpm QyB g1 hm PySem.boot_len sa (by decide) (by decide) st rfl
 rw[if_neg e]at h;clear e
 by_cases e:x= "list"
 ·rw[if_pos e]at h;cases h;subst e;have hm:=ok.mg "list" (by decide+kernel)
  exact QwB g1 hm sa st rfl
 rw[if_neg e]at h;clear e
 by_cases e:x= "abs"
 ·rw[if_pos e]at h;cases h;subst e;have hm:=ok.mg "abs" (by decide+kernel)
  exact QkA QvV QyH g1 hm PyProof.Rows.boot_abs sa (by decide) (by decide) st rfl
 rw[if_neg e]at h;clear e
 by_cases e:x= "sum"
 ·rw[if_pos e]at h;cases h;subst e;have hm:=ok.mg "sum" (by decide+kernel)
  exact QkA (Qs2 ok.calm) QxL g1 hm PyProof.Rows.boot_sum sa (by decide) (by decide) st rfl
 rw[if_neg e]at h;clear e
 by_cases e:x= "tuple"
 ·rw[if_pos e]at h;cases h;subst e;have hm:=ok.mg "tuple" (by decide+kernel)
  exact QxW g1 hm sa st rfl
 rw[if_neg e]at h;clear e
 cases h
theorem Qys{X:Cx}{Θ:Th}{x:Str}{a b:Expr}{fa fb f:DE}{p pos:Pos}(ok:QaG X Θ)(g1:Gl X x)(sa:SA X [a,b] (Qc fa (Qc fb Qg)))(st:starEach [a,b] X.env=(false,eval a X.env)::starEach [b] X.env)(pl:(backTo pos (starEach [b] X.env)).any (·.1)=false)(h:bf2 x fa fb=some f):SE X (.Call (.Name x p) [a,b] [] pos) f:=by
 unfold bf2 at h
 by_cases e:x= "min"
 ·rw[if_pos e]at h;cases h;subst e;have hm:=ok.mg "min" (by decide+kernel)
  exact QkA (Qs0 ok.calm) Qwx g1 hm PyProof.Rows.boot_min sa (by decide) (by decide) st pl
 rw[if_neg e]at h;clear e
 by_cases e:x= "max"
 ·rw[if_pos e]at h;cases h;subst e;have hm:=ok.mg "max" (by decide+kernel)
  exact QkA (Qs4 ok.calm) QwR g1 hm PyProof.Rows.boot_max sa (by decide) (by decide) st pl
 rw[if_neg e]at h;clear e
 cases h
theorem QAQ{n:Nat}(ih:Qlc n):∀X Θ x args f p pos,QaG X Θ->Θ.gl x=true->QkZ (n+1) Θ x args=some f->SE X (.Call (.Name x p) args [] pos) f:=by
 intro X Θ x args f p pos ok hg h
 obtain⟨g1,g2,g3⟩:=QhZ ok.toCtxB hg
 match args,h with
 | [],h=>exact nomatch (show(none:Option DE)=some _ from h)
 | [a],h=>
  change(match QjQ Θ x a with | some b=>(Qs n Θ b).map QrM | none=>(Qs n Θ a).bind λfa=>bf1 x fa)=some f at h
  split at h
  ·rename_i b hr
   obtain⟨fb,h1,rfl⟩:=Zf.mp h
   unfold QjQ at hr
   split at hr
   ·rename_i y p' b' pos'
    split at hr
    ·rename_i hc
     cases hr
     obtain⟨c1,c2,c3,_⟩:=hc
     subst c1
     subst c2
     obtain⟨y1,y2,y3⟩:=QhZ ok.toCtxB c3
     exact Qwg g1 (ok.mg _ (by decide+kernel)) y1 (ok.mg _ (by decide+kernel)) ok.calm (ih.E X Θ b fb ok h1) (Qa2 h1 [] X.env)
    ·cases hr
   ·cases hr
  obtain⟨fa,h1,h⟩:=bind1 h
  have ha:=ih.E X Θ a fa ok h1
  have st:=Qa2 h1 [] X.env
  exact QzE ok g1 (Qhu ha QkX st) st h
 | [a,b],h=>
  change(if x= "isinstance" then(Qs n Θ a).bind λfa=>(match b with | .Name y _=>if Θ.gl y then(QuH y).map λT=>Qj3 T fa else none | _=>none)else(Qs n Θ a).bind λfa=>(Qs n Θ b).bind λfb=>bf2 x fa fb)=some f at h
  split at h
  ·rename_i e
   obtain⟨fa,h1,h⟩:=bind1 h
   have ha:=ih.E X Θ a fa ok h1
   split at h
   ·rename_i y p2
    split at h
    ·rename_i hy
     obtain⟨T,hT,rfl⟩:=Zf.mp h
     obtain⟨y1,y2,y3⟩:=QhZ ok.toCtxB hy
     clear h
     subst e
     refine Qzi g1 (ok.mg _ (by decide+kernel)) ha ?_ (Qa2 h1 _ X.env)
     unfold QuH at hT
     split at hT
     ·rename_i e;cases hT;subst e
      exact Qhb y1 (ok.mg _ (by decide+kernel)) PyProof.Rows.boot_int rfl
     ·split at hT
      ·rename_i e;cases hT;subst e
       exact Qhb y1 (ok.mg _ (by decide+kernel)) PyProof.Rows.boot_bool rfl
      ·split at hT
       ·rename_i e;cases hT;subst e
        exact Qhb y1 (ok.mg _ (by decide+kernel)) Zbt rfl
       ·split at hT
        ·rename_i e;cases hT;subst e
         exact Qhb y1 (ok.mg _ (by decide+kernel)) ZbU rfl
        ·split at hT
         ·rename_i e;cases hT;subst e
          exact Qhb y1 (ok.mg _ (by decide+kernel)) PyProof.Rows.boot_str rfl
         ·cases hT
    ·cases h
   ·cases h
  ·obtain⟨fa,h1,h⟩:=bind1 h
   obtain⟨fb,h2,h⟩:=bind1 h
   have ha:=ih.E X Θ a fa ok h1
   have hb:=ih.E X Θ b fb ok h2
   have sb:SA X [b] (Qc fb Qg):=Qhu hb QkX (Qa2 h2 [] X.env)
   have sa:SA X [a,b] (Qc fa (Qc fb Qg)):=Qhu ha sb (Qa2 h1 [b] X.env)
   have pl:(backTo pos (starEach [b] X.env)).any (·.1)=false:=by rw[Qa2 h2 [] X.env];rfl
   exact Qys ok g1 sa (Qa2 h1 [b] X.env) pl h
 | _::_::_::_,h=>exact nomatch (show(none:Option DE)=some _ from h)
theorem QAM{n:Nat}(ih:Qlc n):∀X Θ e f,QaG X Θ->Qba (n+1) Θ e=some f->ST X e f:=by
 intro X Θ e f ok h
 have dflt:(Qs n Θ e).map QO=some f->(∀whole,isTrue e X.env whole=(do let v ← whole;standAt e.pos;holding [v] (truthy v)))->ST X e f:=λh he=>by
  obtain⟨fa,h1,rfl⟩:=Zf.mp h
  exact QzK (ih.E X Θ e fa ok h1) he
 cases e with
 | UnaryOp op a pos=>
  cases op with
  | Not=>
   change(Qba n Θ a).map Qck=some f at h
   obtain⟨fa,h1,rfl⟩:=Zf.mp h
   exact QyQ (ih.T X Θ a fa ok h1)
  | _=>exact dflt h λ_=>rfl
 | BoolOp op es pos=>
  cases op with
  | And=>
   match es,h with
   | [],h=>exact nomatch (show(none:Option DT)=some _ from h)
   | [a],h=>exact(Qww (ih.T X Θ a f ok h)).st
   | a::b::r,h=>
    change((Qba n Θ a).bind λfa=>(Qba n Θ (.BoolOp .And (b::r) pos)).map λfb=>QhK fa fb)=some f at h
    obtain⟨fa,fb,h1,h2,rfl⟩:=Qau h
    have hb:=ih.T X Θ _ fb ok h2
    exact(Qza (ih.T X Θ a fa ok h1) (λH0 A0 wh pins s σ H Q I q=>by have:=hb H0 A0 pins s σ H Q I q;exact this)).st
  | Or=>
   match es,h with
   | [],h=>exact nomatch (show(none:Option DT)=some _ from h)
   | [a],h=>exact(Qyg (ih.T X Θ a f ok h)).st
   | a::b::r,h=>
    change((Qba n Θ a).bind λfa=>(Qba n Θ (.BoolOp .Or (b::r) pos)).map λfb=>bOr fa fb)=some f at h
    obtain⟨fa,fb,h1,h2,rfl⟩:=Qau h
    have hb:=ih.T X Θ _ fb ok h2
    exact(QAk (ih.T X Θ a fa ok h1) (λH0 A0 wh pins s σ H Q I q=>by have:=hb H0 A0 pins s σ H Q I q;exact this)).st
 | Compare a ops bs pos=>
  match ops,bs,h with
  | [op],[b],h=>
   change((Qs n Θ a).bind λfa=>(Qs n Θ b).bind λfb=>(Qrq op).map λg=>QO (dOp g fa fb))=some f at h
   obtain⟨fa,h1,h⟩:=bind1 h
   obtain⟨fb,g,h2,h3,rfl⟩:=Qau h
   obtain⟨r,o1,o2,o3⟩:=Qsh ok h3
   exact QyG o1 o2 o3 (ih.E X Θ a fa ok h1) (ih.E X Θ b fb ok h2) (QtK h2 op)
  | [],_,h=>exact nomatch (show(none:Option DT)=some _ from h)
  | [_],[],h=>exact nomatch (show(none:Option DT)=some _ from h)
  | [_],_::_::_,h=>exact nomatch (show(none:Option DT)=some _ from h)
  | _::_::_,_,h=>exact nomatch (show(none:Option DT)=some _ from h)
 | IfExp c a b pos=>exact nomatch (show(none:Option DT)=some _ from h)
 | _=>exact dflt h λ_=>rfl
theorem QAq{n:Nat}(ih:Qlc n):∀X Θ tg e f,QaG X Θ->Qfo (n+1) Θ tg e=some f->SI X tg e f/\∀x,foldedSetIterable e X.env x=pure x:=by
 intro X Θ tg e f ok h
 have dflt:(Qs n Θ e).map QY=some f->SI X tg e f/\∀x,foldedSetIterable e X.env x=pure x:=λh=>by
  obtain⟨fa,h1,rfl⟩:=Zf.mp h
  exact⟨QzG (ih.E X Θ e fa ok h1),Qzw h1 X.env⟩
 cases e with
 | Call fn args kws pos=>
  cases fn with
  | Name x p=>
   cases kws with
   | cons k ks=>exact dflt h
   | nil=>
    simp only[Qfo]at h
    split at h
    ·rename_i hg
     simp only[Zj]at hg
     obtain⟨g1,g2,g3⟩:=QhZ ok.toCtxB hg.1
     match args,h with
     | [],h=>exact dflt h
     | [a],h=>
      dsimp only at h
      by_cases er:x= "range"
      ·rw[if_pos er]at h
       obtain⟨fa,h1,rfl⟩:=Zf.mp h
       subst er
       exact⟨Qtx g1 (ok.mg _ (by decide+kernel)) (ih.E X Θ a fa ok h1) (Qa2 h1 [] X.env),λ_=>rfl⟩
      rw[if_neg er]at h
      by_cases ez:x= "enumerate"
      ·rw[if_pos ez]at h
       split at h
       ·rename_i ht
        obtain⟨fa,h1,rfl⟩:=Zf.mp h
        subst ez
        cases tg with
        | Tuple es k tp=>exact⟨QwE g1 (ok.mg _ (by decide+kernel)) (ih.E X Θ a fa ok h1) (Qa2 h1 [] X.env),λ_=>rfl⟩
        | _=>exact nomatch (show false=true from ht)
       ·cases h
      rw[if_neg ez]at h
      exact dflt h
     | [a,b],h=>
      dsimp only at h
      by_cases er:x= "range"
      ·rw[if_pos er]at h
       obtain⟨fa,fb,h1,h2,rfl⟩:=Qau h
       subst er
       exact⟨QtG g1 (ok.mg _ (by decide+kernel)) (ih.E X Θ a fa ok h1) (ih.E X Θ b fb ok h2) (by rw[Qa2 h1 [b] X.env,Qa2 h2 [] X.env];rfl) (Qa2 h2 [] X.env),λ_=>rfl⟩
      rw[if_neg er]at h
      by_cases ez:x= "zip"
      ·rw[if_pos ez]at h
       split at h
       ·rename_i ht
        obtain⟨fa,fb,h1,h2,rfl⟩:=Qau h
        subst ez
        cases tg with
        | Tuple es k tp=>exact⟨Qy0 g1 (ok.mg _ (by decide+kernel)) (ih.E X Θ a fa ok h1) (ih.E X Θ b fb ok h2) (by rw[Qa2 h1 [b] X.env,Qa2 h2 [] X.env];rfl) (Qa2 h2 [] X.env),λ_=>rfl⟩
        | _=>exact nomatch (show false=true from ht)
       ·cases h
      rw[if_neg ez]at h
      exact dflt h
     | [a,b,c],h=>
      dsimp only at h
      by_cases er:x= "range"
      ·rw[if_pos er]at h
       obtain⟨fa,h1,h⟩:=bind1 h
       obtain⟨fb,fc,h2,h3,rfl⟩:=Qau h
       subst er
       exact⟨QtB g1 (ok.mg _ (by decide+kernel)) (ih.E X Θ a fa ok h1) (ih.E X Θ b fb ok h2) (ih.E X Θ c fc ok h3) (Qa2 h1 [b,c] X.env) (Qa2 h2 [c] X.env) (Qa2 h3 [] X.env),λ_=>rfl⟩
      rw[if_neg er]at h
      exact dflt h
     | _::_::_::_::_,h=>exact dflt h
    ·exact dflt h
  | _=>exact dflt h
 | _=>exact dflt h
theorem Qdu:∀n,Qlc n
 | 0=>⟨λ_ _ _ _ _ h=>(nomatch (show(none:Option DE)=some _ from h)),λ_ _ _ _ _ _ _ _ _ h=>by simp[QkZ]at h,λ_ _ _ _ _ h=>by simp[Qba]at h,λ_ _ _ _ _ h=>by simp[QfO]at h,λ_ _ _ _ _ h=>by simp[QbE]at h,λ_ _ _ _ _ h=>by simp[QiR]at h,λ_ _ _ _ _ _ h=>by simp[Qfo]at h⟩
 | n+1=>by
  have ih:=Qdu n
  refine⟨QAT ih,QAQ ih,QAM ih,λX Θ e f ok h=>?_,λX Θ e f ok h=>?_,λX Θ e f ok h=>?_,QAq ih⟩
  ·match e,h with
   | [],h=>simp only[QfO]at h;cases h;exact Qvi
   | [c],h=>simp only[QfO]at h;exact QtR (ih.T X Θ c f ok h)
   | _::_::_,h=>simp only[QfO]at h;cases h
  ·match e,h with
   | [],h=>simp only[QbE]at h;cases h;exact QkX
   | e::es,h=>
    simp only[QbE]at h
    obtain⟨fa,fs,h1,h2,rfl⟩:=Qau h
    exact Qhu (ih.E X Θ e fa ok h1) (ih.A X Θ es fs ok h2) (Qa2 h1 es X.env)
  ·match e,h with
   | none,h=>simp only[QiR]at h;cases h;exact QxF
   | some e,h=>
    simp only[QiR]at h
    obtain⟨fa,h1,rfl⟩:=Zf.mp h
    exact QwZ (ih.E X Θ e fa ok h1)
section
variable {X:Cx}{st:Stmt}{sts:List Stmt}{e:Expr}{fa:DE}{f g:DS}{gc:DT}{pos:Pos}
noncomputable def QE:DS:=λ_=>none
theorem Qup:S1 X st QE:=λH0 A0=>Qu6.mono λE σ H ⟨ρ,hs,F,o,rel,e,q⟩=>by cases e
theorem QhL{g:DT}{fb:DS}:∀{n:Nat}{ρ:En}{o:Out},Qbq g fb n ρ=some o->Qbq g fb (n+1) ρ=some o
 | 0,_,_,h=>by cases h
 | n+1,ρ,o,h=>by
  unfold Qbq at h ⊢
  obtain⟨b,hb,h⟩:=bind1 h
  rw[hb]
  cases b with
  | false=>exact h
  | true=>
   rw[if_pos rfl]at h
   obtain⟨o1,ho,h⟩:=bind1 h
   rw[Za,if_pos rfl,ho]
   cases o1 with
   | nx ρ2=>exact QhL h
   | ct ρ2=>exact QhL h
   | bk ρ2=>exact h
   | rt d fr=>exact h
theorem QnC{g:DT}{fb:DS}{ρ:En}{o:Out}{n m:Nat}(h:Qbq g fb n ρ=some o)(hm:n<=m):Qbq g fb m ρ=some o:=by
 induction hm with
 | refl=>exact h
 | step _ ih=>exact QhL ih
open Classical in
noncomputable def Qcv(g:DT)(fb:DS):DS:=λρ=>if h:∃n,(Qbq g fb n ρ).isSome=true then Qbq g fb h.choose ρ else none
theorem QdF{g:DT}{fb:DS}{ρ:En}{o:Out}:Qcv g fb ρ=some o↔∃n,Qbq g fb n ρ=some o:=by
 unfold Qcv
 constructor
 ·intro h
  split at h
  ·exact⟨_,h⟩
  ·cases h
 ·rintro⟨n,h⟩
  have hx:∃n,(Qbq g fb n ρ).isSome=true:=⟨n,by rw[h];rfl⟩
  rw[dif_pos hx]
  obtain⟨o',ho'⟩:=ZbP.mp hx.choose_spec
  have h1:=QnC h (Nat.le_max_left n hx.choose)
  have h2:=QnC ho' (Nat.le_max_right n hx.choose)
  rw[h1]at h2
  rw[ho',← h2]
theorem Qsx{c:Expr}{body:List Stmt}(hp:PassesOwn (model X.prog X.w) X.A X.env X.xe)(hc:ST X c gc)(hb:SS X body f):S1 X (.While c body [] pos) (Qcv gc f):=λH0 A0 pins s σ H D I h=>by
 obtain⟨ρ,hs,F,o,rel,e,q⟩:=h
 obtain⟨n,hn⟩:=QdF.mp e
 exact QtW (n:=n) hp hc hb H0 A0 pins s σ H D I ⟨ρ,hs,F,o,rel,hn,q⟩
theorem Qr6(g:DT)(fb:DS)(ρ:En):Qcv g fb ρ=(g ρ).bind λb=>if b=true then(fb ρ).bind λo=>match o with
  | .nx ρ2=>Qcv g fb ρ2
  | .ct ρ2=>Qcv g fb ρ2
  | .bk ρ2=>some (.nx ρ2)
  | .rt d fr=>some (.rt d fr)
  else some (.nx ρ):=by
 apply Option.ext
 intro o
 rw[QdF]
 constructor
 ·rintro⟨n,h⟩
  cases n with
  | zero=>cases h
  | succ n=>
   unfold Qbq at h
   obtain⟨b,hb,h⟩:=bind1 h
   rw[hb]
   cases b with
   | false=>exact h
   | true=>
    rw[if_pos rfl]at h
    obtain⟨o1,ho,h⟩:=bind1 h
    rw[Za,if_pos rfl,ho]
    cases o1 with
    | nx ρ2=>exact QdF.mpr ⟨n,h⟩
    | ct ρ2=>exact QdF.mpr ⟨n,h⟩
    | bk ρ2=>exact h
    | rt d fr=>exact h
 ·intro h
  obtain⟨b,hb,h⟩:=bind1 h
  cases b with
  | false=>exact⟨1,by unfold Qbq;rw[hb];exact h⟩
  | true=>
   rw[if_pos rfl]at h
   obtain⟨o1,ho,h⟩:=bind1 h
   cases o1 with
   | nx ρ2=>
    obtain⟨n,hn⟩:=QdF.mp h
    exact⟨n+1,by unfold Qbq;rw[hb];rw[Za,if_pos rfl,ho];exact hn⟩
   | ct ρ2=>
    obtain⟨n,hn⟩:=QdF.mp h
    exact⟨n+1,by unfold Qbq;rw[hb];rw[Za,if_pos rfl,ho];exact hn⟩
   | bk ρ2=>exact⟨1,by unfold Qbq;rw[hb];rw[Za,if_pos rfl,ho];exact h⟩
   | rt d fr=>exact⟨1,by unfold Qbq;rw[hb];rw[Za,if_pos rfl,ho];exact h⟩
noncomputable def Qrz(t:Tg)(fa:DE):DS:=λρ=>(fa ρ).bind λr=>(Qcf t r.d (Qbc r.norm.M ρ)).map .nx
theorem Qwm{tg:Expr}{t:Tg}(he:SE X e fa)(hg:SG X tg t)(hs:swapsWithSole [tg] e pos.line X.env=pure false)(hw:swappedStores [tg] e X.env=pure none)(h1:(assignEach [tg] X.env).map (·.2)=[assign tg X.env]):
  S1 X (.Assign [tg] e pos) (Qrz t fa):=λH0 A0=>(Qfa (he H0 A0) (hg H0 A0) hs hw h1).mono λE σ H ⟨ρ,hs,F,o,rel,e,q⟩=>by
 obtain⟨r,e1,e⟩:=bind1 e
 obtain⟨ρ',e2,rfl⟩:=Zf.mp e
 refine⟨ρ,hs,F,r,rel,e1,λv H' G p=>?_⟩
 have p':=p.norm
 have rp:=p'.rp
 rw[r.QcX]at rp
 exact⟨Qbc r.norm.M ρ,hs,F,r.d,G,ρ',(rel.ext p'.same).weak (Qbp _ _),rp,Shr.of rel p'.src,e2,λσ' F' rel' _ _=>q _ _ F' rel'⟩
theorem QwI{tg iter elt:Expr}{ifs:List Expr}{scope:Scope}{N':List Str}{fi:DI}{t:Tg}{cap:List (Option Nat)}{ft:DT}{fe:DE}{i:Nat}{x:Str}{pos' spos:Pos}(hN:X.N.Nodup)(hx1:X.N[i]? =some x)(hx:Loc X.env.scope x)(hf:X.fn x=true∨X.env.scope.names.lookup x=some .local)
  (hcalm:X.calm=true) (S:Qfd X N' scope) (hi:SI X tg iter fi) (hcap:Qnm X N' scope cap t.slots)
  (hin:∀cl C fp s3 H3,SG (cxc X N' scope cl C fp s3 H3) tg t/\QoB (cxc X N' scope cl C fp s3 H3) ifs ft/\SE (cxc X N' scope cl C fp s3 H3) elt fe) (hs:∀x,foldedSetIterable iter X.env x=pure x):
  S1 X (.Assign [.Name x pos'] (.ListComp elt [⟨tg,iter,ifs,0⟩] scope pos) spos) (Qo i (QM fi t cap ft fe)):=
 QnG λH0 A0=>(Qxw hN hx1 hx hf hcalm S (hi H0 A0) (λcl C fp s3 H3=>⟨(hin cl C fp s3 H3).1 _ _,(hin cl C fp s3 H3).2.1 _ _,(hin cl C fp s3 H3).2.2 _ _⟩) hs).mono λE σ H h=>QmC hcap h
end
end HS
namespace HS
open PySem PySem.Spec L2 PyProof.Rows
section
variable {X:Cx}{a b e:Expr}{fa fb:DE}{pf:DP}{x:Nat}{pos apos:Pos}
theorem Qxp{X:Cx}{H:Hp}{ds:List D}{w:V}{Gm:List Addr}(h:Rp X.K H (.lst ds) w Gm):tyV X.K "list" w H:=by
 obtain⟨l,ws,L,rfl,hl,_⟩:=h.lst_inv
 exact .inl ⟨rfl,ws,Qap hl⟩
theorem Qag.unit{K:PySem.W.Frag}{ρ:En}{F:Nat->List Addr}{H:Hp}:Qag K ρ F H H ⟨.non,true,[]⟩ .non []:= .flat (QU.refl _) .QkB
noncomputable def QrQ(x:Nat)(pf:DP):DS:=λρ=>match ρ[x]? with
 | some (some (d,true))=>(pf ρ).bind λis=>match Qa9 d is with
  | some (.lst _)=>some (.nx (ρ.set x (some (Qbt is d (.lst []),true))))
  | _=>none
 | _=>none
theorem Quv{H0:Hp}{A0:List Addr}{E:Ends}{σ:L2.St}{H:Hp}:tS X.K H0 A0 (QrQ x pf) E σ H->Qnv (QyK X.K "list" Qtb (tP X.K H0 A0 x pf)) E σ H:=λ⟨ρ,hs,F,o,rel,e,q⟩=>by
 unfold QrQ at e
 split at e
 ·rename_i d hx
  obtain⟨is,e2,e⟩:=bind1 e
  split at e
  ·rename_i ds hp
   cases e
   refine⟨ρ,hs,F,d,true,is,.lst ds,rel,hx,e2,hp,λv0 w H2 Gm s2 hv0 fo=>⟨Qxp fo.rp,?_⟩⟩
   obtain⟨l,vsm,Gp,rfl,g1,g2,g3,g4,g5,g6,g7⟩:=(rel.ext s2).write .unit rfl ZaL hx (by simp) hv0 fo
   refine⟨l,vsm,rfl,rfl,g1,?_⟩
   obtain⟨F',rel'⟩:=g7 [] [] [] (by simp[Rps]) (Zac _) rfl (λa=>by simp)
   exact q _ _ F' rel'
  ·cases e
 ·cases e
end
noncomputable def Qg7:Expr->Bool
 | .ListComp .. =>false
 | .SetComp .. =>false
 | .DictComp .. =>false
 | _=>true
theorem Qe5{e:Expr}{t:Option Expr}{l:Nat}{env:Env}(h:Qg7 e=true):swapsWith e t l env=pure false:=by
 cases e<;>first | rfl | cases h
noncomputable def QsL:Expr->Bool
 | .Tuple .. =>true
 | _=>false
noncomputable def Qdp(n:Nat)(Θ:Th)(e:Expr):Option (Nat×DP):=match n with
 | 0=>none
 | n+1=>match e with
  | .Name x _=>(Θ.slot x).map λi=>(i,Qal)
  | .Subscript a b _=>(Qdp n Θ a).bind λq=>(Qs n Θ b).map λfb=>(q.1,Qcm q.2 fb)
  | _=>none
theorem QhH:∀(n:Nat) (X:Cx) (Θ:Th) (e:Expr) (q:Nat×DP),QaG X Θ->Qdp n Θ e=some q->SPa X e q.1 q.2/\attributeBase e=λ_ env w=>w
 | 0,_,_,_,_,_,h=>by simp[Qdp]at h
 | n+1,X,Θ,e,q,ok,h=>by
  cases e with
  | Name x pos=>
   simp only[Qdp]at h
   obtain⟨i,hi,rfl⟩:=Zf.mp h
   exact⟨QfW (QaE ok.toCtxB hi),by funext a b c;rfl⟩
  | Subscript a b pos=>
   simp only[Qdp]at h
   obtain⟨q',fb,h1,h2,rfl⟩:=Qau h
   exact⟨Qg1 (QhH n X Θ a q' ok h1).1 ((Qdu n).E X Θ b fb ok h2) (Qqw h2),by funext a b c;rfl⟩
  | _=>simp[Qdp]at h
noncomputable def QlE:Expr->Bool
 | .Name .. =>true
 | .Subscript _ (.Slice ..) _=>false
 | .Subscript (.Call ..) _ _=>false
 | .Subscript .. =>true
 | _=>false
noncomputable def Qvh:Operator->Option (D->D->Option D)
 | .Add=>some (gI λi j=>some (.int (i+j)))
 | .Sub=>some Qa6
 | _=>none
theorem Qyh{X:Cx}{op:Operator}{g:D->D->Option D}(h:Qvh op=some g):∃r,OpR X (inplaceOp op) r/\Qco X.K g r:=by
 cases op<;>cases h
 ·exact⟨_,Qw5,QfM (λi j d e=>by cases e;rfl) λi j d e H Q q=>by cases e;exact⟨i,j,rfl,rfl,q _ λ_=> .int_mk⟩⟩
 ·exact⟨_,Qxz,QsW⟩
noncomputable def Qw2:Expr->Bool
 | .Slice .. =>true
 | _=>false
noncomputable def Qkz(n:Nat)(Θ:Th)(o:Expr)(m:Str)(args:List Expr):Option DS:=match args with
  | []=>(Qdp n Θ o).bind λq=>if m= "clear" then some (QrQ q.1 q.2)else
    none
  | [e]=>if m= "append" then
     ((Qdp n Θ o).bind λq=>(Qs n Θ e).map λfa=>QdS q.1 q.2 fa)
    else
    none
  | _=>none
theorem Qut{n:Nat}{X:Cx}{Θ:Th}{o:Expr}{m:Str}{args:List Expr}{f:DS}{apos cpos pos:Pos}(ok:QaG X Θ)(h:Qkz n Θ o m args=some f)(hl:(apos.endLine == cpos.line)=true):
  S1 X (.Expr (.Call (.Attribute o m apos) args [] cpos) pos) f:=by
 have base:∀{q:Nat×DP},Qdp n Θ o=some q->SPa X o q.1 q.2/\attributeBase o m X.env (eval o X.env)=eval o X.env:=λ{q} h1=>by
  obtain⟨sp,ab⟩:=QhH n X Θ o _ ok h1
  exact⟨sp,by rw[ab]⟩
 have app:∀{e:Expr}{f:DS},m= "append" ->((Qdp n Θ o).bind λq=>(Qs n Θ e).map λfa=>QdS q.1 q.2 fa)=some f->S1 X (.Expr (.Call (.Attribute o m apos) [e] [] cpos) pos) f:=λ{e f} em h=>by
  obtain⟨q,fa,h1,h2,rfl⟩:=Qau h
  obtain⟨sp,hb⟩:=base h1
  subst em
  have he:=(Qdu n).E X Θ e fa ok h2
  have st:=Qa2 h2 [] X.env
  have sa:∀H0 A0,PA X [e] (QhP (tV X.K H0 A0 fa) QnO):=λH0 A0=>QaP (he H0 A0) QdV st
  exact λH0 A0=>(Qmi (QAU ZbV PySem.F.slot_list_append PySem.F.type_list_append QmY (sp H0 A0) (sa H0 A0) hb (by rw[st];rfl) hl st rfl) rfl).mono λE σ H q=>Qu3 q
 match args,h with
 | [],h=>
  unfold Qkz at h
  dsimp only at h
  obtain⟨⟨x,pf⟩,h1,h⟩:=bind1 h
  obtain⟨sp,hb⟩:=base h1
  by_cases e:m= "clear"
  ·rw[if_pos e]at h;cases h;subst e
   exact λH0 A0=>(Qmi (Qzx ZbV PySem.F.slot_list_clear PySem.F.type_list_clear Qt4 (sp H0 A0) hb hl) rfl).mono λE σ H q=>Quv q
  rw[if_neg e]at h
  cases h
 | [e],h=>
  unfold Qkz at h
  dsimp only at h
  by_cases em:m= "append"
  ·rw[if_pos em]at h
   exact app em h
  rw[if_neg em]at h
  clear em
  clear app
  cases h
 | _::_::_,h=>exact nomatch (show(none:Option DS)=some _ from h)
end HS
namespace HS
open PySem PySem.Spec L2 PyProof.Rows
noncomputable def QqQ(x:Nat)(fy f1 g1 f2 g2:DE)(ρ:En):Option Out:=if x<ρ.length then(fy ρ).bind λry=>match ry.d with
 | .lst ds=>(g1 ρ).bind λr1=>(f1 ρ).bind λk1=>(g2 ρ).bind λr2=>(f2 ρ).bind λk2=>match k1.d,k2.d with
  | .int i1,.int i2=>(ixN ds.length i1).bind λj1=>(ixN ds.length i2).bind λj2=>some (.nx ((Qbc (ry.M++(r1.M++r2.M)) ρ).set x (some (.lst ((ds.set j1 r1.d).set j2 r2.d),false))))
  | _,_=>none
 | _=>none else none
noncomputable def QjK(x:Nat)(fy f1 g1 f2 g2:DE):DS:=λρ=>QqQ x fy f1 g1 f2 g2 (ρ.set x none)
section
variable {K:PySem.W.Frag}{H0 H H':Hp}{A0:List Addr}{hs:List (V×D×List Addr)}{ρ:En}{F:Nat->List Addr}{σ:L2.St}
theorem Rel.Qi1(rel:Rel K H0 A0 hs ρ F σ H){a:Addr}{zs ys:List V}(ha:H a=some (.lst zs))(h0:H0 a=none)(hn:∀(i:Nat) d b,ρ[i]? =some (some (d,b))->a∉F i)(hh:∀t∈hs,a∉t.2.2):Rel K H0 A0 hs ρ F σ (upd H a (.lst ys)) where
 len:=rel.len
 val:=λi d b e=>by
  obtain⟨v,h1,h2⟩:=rel.val i d b e
  exact⟨v,h1,h2.upd ha (hn i d b e)⟩
 own:=rel.own
 src:=rel.src
 held:=λt ht=>⟨(rel.held t ht).1.upd ha (hh t ht),(rel.held t ht).2⟩
 same:=λb o hb=>by
  have:b≠a:=λz=>by rw[z,h0]at hb;cases hb
  rw[QZ this]
  exact rel.same b o hb
theorem Rel.put(rel:Rel K H0 A0 hs ρ F σ H){i:Nat}{v:V}(hi:∀d b,ρ[i]? ≠some (some (d,b))):Rel K H0 A0 hs ρ F (σ.set i (some v)) H:=
 ⟨by simpa using rel.len,λj d b e=>by
  obtain⟨w,h1,h2⟩:=rel.val j d b e
  have hj:i≠j:=λz=>hi d b (z▸e)
  exact⟨w,by rw[Zc hj];exact h1,h2⟩,rel.own,rel.src,rel.held,rel.same⟩
theorem Src.more{M M':List Nat}{G:List Addr}(s:Src ρ F H M G)(h:∀i∈M,i∈M'):Src ρ F H M' G:=λa ha=>by
 rcases s a ha with z | ⟨i,d,b,e,m,w⟩
 ·exact .inl z
 ·exact .inr ⟨i,d,b,e,m,λhb=>h i (w hb)⟩
end
section
variable {X:Cx}{st1 st2 st3:Stmt}{sts:List Stmt}{x:Nat}{fy f1 g1 f2 g2:DE}{g:DS}
theorem QyW(p1:∀H0 A0,PS X st1 (QeG (λσ H Q=>tVA X.K H0 A0 (Qc fy Qg) σ H λxs H1=>∃p ys,xs=[.ref p]/\(SqL X.K H1 p ys∨SqT X.K H1 p ys)/\∀l,H1 l=none->Q (.ref l) (upd H1 l (.lst ys))) (Qgf x)))
  (p2:∀H0 A0,PS X st2 (QeG (tV X.K H0 A0 g1) (L2.Qa6 (Qf1 x) (tV X.K H0 A0 f1) Qgh))) (p3:∀H0 A0,PS X st3 (QeG (tV X.K H0 A0 g2) (L2.Qa6 (Qf1 x) (tV X.K H0 A0 f2) Qgh))) (h:SS X sts g):
  SS X (st1::st2::st3::sts) (Qe (QjK x fy f1 g1 f2 g2) g):=λH0 A0=>
 (QcV (p1 H0 A0) (QcV (p2 H0 A0) (QcV (p3 H0 A0) (h H0 A0)))).mono λE σ H ⟨ρ,hs,F,o,rel,e,q⟩=>by
 obtain⟨o1,e1,e⟩:=bind1 e
 unfold QjK QqQ at e1
 split at e1
 case isFalse=>cases e1
 rename_i hx
 have hr0:∀d b,(ρ.set x none)[x]? ≠some (some (d,b)):=λd b z=>by
  rw[Zl (by simpa using hx)]at z
  cases z
 have rel0:=rel.weak (Qel (ρ:=ρ) x)
 generalize ρ.set x none=ρ0 at *
 obtain⟨ry,ey,e1⟩:=bind1 e1
 split at e1
 case h_2=>cases e1
 rename_i ds hds
 obtain⟨r1,eg1,e1⟩:=bind1 e1
 obtain⟨k1,ef1,e1⟩:=bind1 e1
 obtain⟨r2,eg2,e1⟩:=bind1 e1
 obtain⟨k2,ef2,e1⟩:=bind1 e1
 split at e1
 case h_2=>cases e1
 rename_i i1 i2 hk1 hk2
 obtain⟨j1,ej1,e1⟩:=bind1 e1
 obtain⟨j2,ej2,e1⟩:=bind1 e1
 cases e1
 refine⟨ρ0,hs,F,⟨[ry.d],ry.fr && true,ry.M++[]⟩,rel0,by simp[Qc,Qg,ey],λvs H1 G q1=>?_⟩
 have rp:=q1.rp
 dsimp only at rp
 rw[hds]at rp
 obtain⟨v,rfl,rq⟩:=rp.one
 obtain⟨l,ws,L,rfl,hl,rl,zl,el⟩:=rq.lst_inv
 have memL:∀a∈L,a∈G:=λa ha=>by
  rcases el with rfl | rfl
  ·exact Ze _ ha
  ·exact ha
 refine⟨l,ws,rfl,.inl (Qap hl),λc hc=>?_⟩
 have relx:=rel0.ext q1.same
 have nfr:∀(i:Nat) d b,ρ0[i]? =some (some (d,b))->c∉F i:=λi d b ei hci=>by
  obtain⟨zs,z⟩:=relx.mem ei hci
  rw[hc]at z;cases z
 have nhs:∀t∈hs,c∉t.2.2:=λt ht hct=>by
  obtain⟨zs,z⟩:=(relx.held t ht).1.mem c hct
  rw[hc]at z;cases z
 have h0c:H0 c=none:=relx.same.free hc
 have nL:c∉L:=λz=>by
  obtain⟨zs,y⟩:=rl.mem c z
  rw[hc]at y;cases y
 have sU:QU H1 (upd H1 c (.lst ws)):=λb o eb=>by
  have:b≠c:=λz=>by rw[z,hc]at eb;cases eb
  rw[QZ this];exact eb
 have relA:=(relx.ext sU).put (i:=x) (v:= .ref c) hr0
 have hσ:(σ.set x (some (.ref c)))[x]? =some (some (.ref c)):=Zl (by rw[← rel0.len];exact hx)
 generalize hσ':σ.set x (some (V.ref c))=σ1 at relA hσ
 show Qu1 _ _ E (σ.set x (some (.ref c))) _
 rw[hσ']
 have hc2:upd H1 c (.lst ws) c=some (.lst ws):=Qaw
 have rl2:=rl.same sU
 generalize upd H1 c (.lst ws)=H2 at relA hc2 rl2
 refine⟨ρ0,hs,F,r1,relA,eg1,λv1 H3 G1 q2=>⟨.ref c,hσ,ρ0,hs,F,k1,relA.ext q2.same,ef1,λu1 H4 Gi q3=>?_⟩⟩
 have hc4:=q3.same _ _ (q2.same _ _ hc2)
 have ru:=q3.rp
 rw[hk1]at ru
 refine⟨c,ws,i1,j1,rfl,ru.int_inv,hc4,by rw[← rl.length];exact ej1,?_⟩
 have nG1:c∉G1:=λz=>by
  rcases q2.src c z with y | ⟨i,d,b,ei,m,_⟩
  ·rw[hc2]at y;cases y
  ·exact nfr i d b ei m
 have hj1:=(QcD ej1).2.1
 obtain⟨G',m1,m2⟩:=Qmm hc4 ((rl2.same q2.same).same q3.same) nL nG1 (q2.rp.same q3.same) hj1
 have relB:=((relA.ext q2.same).ext q3.same).Qi1 (ys:=ws.set j1 v1) hc4 h0c nfr nhs
 have hc5:upd H4 c (.lst (ws.set j1 v1)) c=some (.lst (ws.set j1 v1)):=Qaw
 generalize upd H4 c (.lst (ws.set j1 v1))=H5 at relB hc5 m1
 refine⟨ρ0,hs,F,r2,relB,eg2,λv2 H6 G2 q4=>⟨.ref c,hσ,ρ0,hs,F,k2,relB.ext q4.same,ef2,λu2 H7 Gj q5=>?_⟩⟩
 have hc7:=q5.same _ _ (q4.same _ _ hc5)
 have rw2:=q5.rp
 rw[hk2]at rw2
 refine⟨c,ws.set j1 v1,i2,j2,rfl,rw2.int_inv,hc7,by rw[ZY,← rl.length];exact ej2,?_⟩
 have nG2:c∉G2:=λz=>by
  rcases q4.src c z with y | ⟨i,d,b,ei,m,_⟩
  ·rw[hc5]at y;cases y
  ·exact nfr i d b ei m
 have nG':c∉G':=λz=>(m2 c z).elim nL nG1
 have hj2:=(QcD ej2).2.1
 obtain⟨G'',n1,n2⟩:=Qmm hc7 ((m1.same q4.same).same q5.same) nG' nG2 (q4.rp.same q5.same) (by rw[ZY];exact hj2)
 have relC:=((relB.ext q4.same).ext q5.same).Qi1 (ys:=(ws.set j1 v1).set j2 v2) hc7 h0c nfr nhs
 have hc8:upd H7 c (.lst ((ws.set j1 v1).set j2 v2)) c=some (.lst ((ws.set j1 v1).set j2 v2)):=Qaw
 generalize upd H7 c (.lst ((ws.set j1 v1).set j2 v2))=H8 at relC hc8 n1
 have sh0:=Shr.of rel0 (q1.src.more (M':=ry.M++(r1.M++r2.M)) λi hi=>by
  have hi:i∈ry.M++[]:=hi
  rw[ZaW]at hi
  exact Zd _ hi)
 have sh1:=Shr.of relA (q2.src.more (M':=ry.M++(r1.M++r2.M)) λi hi=>Zb _ (Zd _ hi))
 have sh2:=Shr.of relB (q4.src.more (M':=ry.M++(r1.M++r2.M)) λi hi=>Zb _ (Zb _ hi))
 have sh:Shr H0 A0 (Qbc (ry.M++(r1.M++r2.M)) ρ0) F (c::G''):=λa ha=>by
  rcases Zq.mp ha with rfl | ha
  ·refine⟨.inl h0c,λi d ei hm=>?_⟩
   obtain⟨b',e',_⟩:=(Qbp _ ρ0).2 i d true ei
   exact nfr i d b' e' hm
  ·rcases n2 a ha with z | z
   ·rcases m2 a z with y | y
    ·exact sh0 a (memL a y)
    ·exact sh1 a y
   ·exact sh2 a z
 have relD:=(relC.weak (Qbp (ry.M++(r1.M++r2.M)) ρ0)).QoT (i:=x) (d:= .lst ((ds.set j1 r1.d).set j2 r2.d)) (v:= .ref c) (Rp.Qes hc8 n1 (by rw[ZY,ZY];exact zl)) sh
 have hs1:σ1.set x (some (.ref c))=σ1:=by rw[← hσ',List.set_set]
 rw[hs1]at relD
 exact⟨_,hs,_,o,relD,e,q⟩
end
structure Swp where
 x:Str
 y:Expr
 i1:Expr
 e1:Expr
 i2:Expr
 e2:Expr
 r:List Stmt
noncomputable def aName:Stmt->Option (Str×Expr)
 | .Assign [.Name x _] e _=>some (x,e)
 | _=>none
noncomputable def QrT:Stmt->Option (Str×Expr×Expr)
 | .Assign [.Subscript (.Name x _) i _] e _=>some (x,i,e)
 | _=>none
noncomputable def Qrt:Expr->Option (Str×Expr)
 | .Call (.Name f _) [y] [] _=>some (f,y)
 | _=>none
theorem QmW{st:Stmt}{x:Str}{e:Expr}(h:aName st=some (x,e)):∃p q,st= .Assign [.Name x p] e q:=by
 unfold aName at h
 split at h
 ·cases h;exact⟨_,_,rfl⟩
 ·cases h
theorem QoZ{st:Stmt}{x:Str}{i e:Expr}(h:QrT st=some (x,i,e)):∃a b c,st= .Assign [.Subscript (.Name x a) i b] e c:=by
 unfold QrT at h
 split at h
 ·cases h;exact⟨_,_,_,rfl⟩
 ·cases h
theorem Qs8{e:Expr}{f:Str}{y:Expr}(h:Qrt e=some (f,y)):∃p q,e= .Call (.Name f p) [y] [] q:=by
 unfold Qrt at h
 split at h
 ·cases h;exact⟨_,_,rfl⟩
 ·cases h
noncomputable def Qrv:List Stmt->Option Swp
 | a::b::c::r=>(aName a).bind λz=>(Qrt z.2).bind λy=>(QrT b).bind λu=>(QrT c).bind λv=>if y.1= "list" /\u.1=z.1/\v.1=z.1 then some ⟨z.1,y.2,u.2.1,u.2.2,v.2.1,v.2.2,r⟩else none
 | _=>none
theorem QtU{sts:List Stmt}{q:Swp}(h:Qrv sts=some q):∃p1 p2 p3 p4 a1 a2 a3 b1 b2 b3,sts= .Assign [.Name q.x p1] (.Call (.Name "list" p2) [q.y] [] p3) p4:: .Assign [.Subscript (.Name q.x a1) q.i1 a2] q.e1 a3:: .Assign [.Subscript (.Name q.x b1) q.i2 b2] q.e2 b3::q.r:=by
 refine(λh:∀G:Prop,(_->G)->G=>h _ id) λGG kk=>?_
 unfold Qrv at h
 split at h
 ·rename_i a b c r
  obtain⟨z,h1,h⟩:=bind1 h
  obtain⟨y,h2,h⟩:=bind1 h
  obtain⟨u,h3,h⟩:=bind1 h
  obtain⟨v,h4,h⟩:=bind1 h
  split at h
  ·rename_i hc
   obtain⟨g1,g2,g3⟩:=hc
   obtain⟨p1,p4,e1⟩:=QmW h1
   obtain⟨p2,p3,e2⟩:=Qs8 h2
   obtain⟨a1,a2,a3,e3⟩:=QoZ h3
   obtain⟨b1,b2,b3,e4⟩:=QoZ h4
   have h:=Option.some.inj h
   subst h
   exact kk ⟨p1,p2,p3,p4,a1,a2,a3,b1,b2,b3,by rw[e1,e2,e3,e4,g1,g2,g3]⟩
  ·cases h
 ·cases h
end HS
namespace HS
open PySem PySem.Spec L2 PyProof.Rows
noncomputable def Qin(r:R):Bool:=r.norm.fr && r.norm.M.isEmpty
noncomputable def QnQ(t b ln:Nat)(ts bs:List D)(i k:Int)(j1 j2 l1 l2:Nat)(fi fk g1 g2 g3 g4:DE)(ρ ρ1:En):Option Out:=
 (fi ρ1).bind λri=>(fk ρ1).bind λrk=>(g1 ρ1).bind λr1=>(g2 ρ1).bind λr2=>(g3 ρ1).bind λr3=>(g4 ρ1).bind λr4=>match ri.d,rk.d with
  | .int i',.int k'=>if i'=i/\k'=k/\Qin r1=true/\Qin r2=true/\Qin r3=true/\Qin r4=true then
    some (.nx ((((ρ.set t none).set b none).set ln none).set t (some (.lst ((ts.set j1 r1.d).set j2 r2.d),true)) |>.set b (some (.lst ((bs.set l1 r3.d).set l2 r4.d),true))))else none
  | _,_=>none
noncomputable def Qj8(t b ln:Nat)(fi fk g1 g2 g3 g4:DE):DS:=λρ=>match ρ[t]?,ρ[b]? with
 | some (some (.lst ts,true)),some (some (.lst bs,true))=>if t≠b/\ln≠t/\ln≠b/\ln<ρ.length then
   (fi ρ).bind λri=>(fk ρ).bind λrk=>match ri.d,rk.d with
    | .int i,.int k=>(ixN ts.length i).bind λj1=>(ixN ts.length k).bind λj2=>(ixN bs.length i).bind λl1=>(ixN bs.length k).bind λl2=>
      (ts[j1]?).bind λt1=>(ts[j2]?).bind λt2=>(bs[l1]?).bind λb1=>(bs[l2]?).bind λb2=>
       QnQ t b ln ts bs i k j1 j2 l1 l2 fi fk g1 g2 g3 g4 ρ ((((ρ.set t none).set b none).set ln none).set ln (some (.tup [t1,t2,b1,b2],(D.tup [t1,t2,b1,b2]).flat)))
    | _,_=>none
   else none
 | _,_=>none
theorem QuY{r:R}(h:Qin r=true):r.norm.fr=true/\r.norm.M=[]:=by
 unfold Qin at h
 simp only[Zj,List.isEmpty_iff]at h
 exact h
structure Spn (K:PySem.W.Frag) (H0 H:Hp) (hs:List (V×D×List Addr)) (ρ:En) (F:Nat->List Addr) (a:Addr) (ds:List D) (ws:List V) (G:List Addr):Prop where
 at':H a=some (.lst ws)
 rp:Rps K H ds ws G
 len:G.length=nls ds
 na:a∉G
 nd:G.Nodup
 h0:∀c,c=a∨c∈G->H0 c=none
 out:∀(i:Nat) d b,ρ[i]? =some (some (d,b))->∀c,c=a∨c∈G->c∉F i
 hld:∀t∈hs,∀c,c=a∨c∈G->c∉t.2.2
 sz:ds.length<=sizeLine
section
variable {K:PySem.W.Frag}{H0 H H':Hp}{A0:List Addr}{hs:List (V×D×List Addr)}{ρ:En}{F:Nat->List Addr}{σ:L2.St}{a:Addr}{ds:List D}{ws:List V}{G:List Addr}
theorem Spn.mem(s:Spn K H0 H hs ρ F a ds ws G){c:Addr}(h:c=a∨c∈G):∃vs,H c=some (.lst vs):=by
 rcases h with rfl | h
 ·exact⟨ws,s.at'⟩
 ·exact s.rp.mem c h
theorem Spn.same(s:Spn K H0 H hs ρ F a ds ws G)(e:QU H H'):Spn K H0 H' hs ρ F a ds ws G:=⟨e _ _ s.at',s.rp.same e,s.len,s.na,s.nd,s.h0,s.out,s.hld,s.sz⟩
theorem Spn.QqU(s:Spn K H0 H hs ρ F a ds ws G){p:Addr}{zs ys:List V}(hp:H p=some (.lst zs))(hn:¬(p=a∨p∈G)):Spn K H0 (upd H p (.lst ys)) hs ρ F a ds ws G:=
 ⟨by rw[QZ λz=>hn (.inl z.symm)];exact s.at',s.rp.upd hp λz=>hn (.inr z),s.len,s.na,s.nd,s.h0,s.out,s.hld,s.sz⟩
theorem Spn.put(s:Spn K H0 H hs ρ F a ds ws G){ρ1:En}{F1:Nat->List Addr}(rel0:Rel K H0 A0 hs ρ F σ H)(rel:Rel K H0 A0 hs ρ1 F1 σ H){r:R}{v:V}{Gn:List Addr}(p:Qag K ρ1 F1 H H' r v Gn)(ho:Qin r=true){j:Nat}(hj:j<ds.length)(h1:∀(i:Nat) d b,ρ1[i]? =some (some (d,b))->a∉F1 i):
  ∃G',Spn K H0 (upd H' a (.lst (ws.set j v))) hs ρ F a (ds.set j r.d) (ws.set j v) G'/\Rel K H0 A0 hs ρ1 F1 σ (upd H' a (.lst (ws.set j v)))/\Rel K H0 A0 hs ρ F σ (upd H' a (.lst (ws.set j v)))/\∀c∈G',c∈G∨H c=none:=by
 have p':=p.norm
 obtain⟨f1,f2⟩:=QuY ho
 have cn:=p'.cnt f1
 rw[f2]at cn
 have hnl:=cn.2
 rw[r.QcX]at hnl
 have hrp:=p'.rp
 rw[r.QcX]at hrp
 have hcn:∀c,Gn.count c<=nw H c:=λc=>by have:=cn.1 c;simpa using this
 have gN:∀c∈Gn,H c=none:=λc hc=>by
  have h2:=hcn c
  have h3:0<Gn.count c:=Zai.mpr hc
  cases q:H c with
  | none=>rfl
  | some o=>rw[QdR q]at h2;omega
 have aN:a∉Gn:=λz=>by have:=gN a z;rw[s.at']at this;cases this
 obtain⟨G',m1,m2,m3⟩:=set_mk (p'.same _ _ s.at') (s.rp.same p'.same) s.len s.na aN hrp hnl hj
 have mem:∀c∈G',c∈G∨c∈Gn:=λc hc=>by
  have h2:=m3 c
  have h3:0<G'.count c:=Zai.mpr hc
  by_cases z:c∈G
  ·exact .inl z
  ·rw[ZQ.mpr z]at h2
   exact .inr (Zai.mp (by omega))
 have relE:=rel.ext p'.same
 have relE0:=rel0.ext p'.same
 have a0:=s.h0 a (.inl rfl)
 have nfr:∀(i:Nat) d b,ρ[i]? =some (some (d,b))->a∉F i:=λi d b e=>s.out i d b e a (.inl rfl)
 refine⟨G',⟨Qaw,m1,m2,λz=>(mem a z).elim s.na aN,Zap.mpr λc=>?_,λc hc=>?_,λi d b e c hc=>?_,λt ht c hc=>?_,by rw[ZY];exact s.sz⟩,?_,?_,λc hc=>(mem c hc).imp_right (gN c)⟩
 ·have h2:=m3 c
  have h3:=Zap.mp s.nd c
  have h4:=hcn c
  by_cases z:c∈G
  ·obtain⟨vs,q⟩:=s.mem (.inr z)
   rw[QdR q]at h4;omega
  ·rw[ZQ.mpr z]at h2
   have:nw H c<=1:=by unfold nw;split<;>decide
   omega
 ·rcases hc with rfl | hc
  ·exact a0
  ·rcases mem c hc with z | z
   ·exact s.h0 c (.inr z)
   ·exact rel.same.free (gN c z)
 ·rcases hc with rfl | hc
  ·exact nfr i d b e
  ·rcases mem c hc with z | z
   ·exact s.out i d b e c (.inr z)
   ·intro hm
    obtain⟨vs,q⟩:=rel0.mem e hm
    rw[gN c z]at q;cases q
 ·rcases hc with rfl | hc
  ·exact s.hld t ht _ (.inl rfl)
  ·rcases mem c hc with z | z
   ·exact s.hld t ht c (.inr z)
   ·intro hm
    obtain⟨vs,q⟩:=(rel.held t ht).1.mem c hm
    rw[gN c z]at q;cases q
 ·exact relE.Qi1 (p'.same _ _ s.at') a0 h1 λt ht=>s.hld t ht a (.inl rfl)
 ·exact relE0.Qi1 (p'.same _ _ s.at') a0 nfr λt ht=>s.hld t ht a (.inl rfl)
theorem Spn.back(s:Spn K H0 H hs ρ F a ds ws G)(rel:Rel K H0 A0 hs ρ F σ H){x:Nat}(hx:σ[x]? =some (some (.ref a)))(hn:∀d b,ρ[x]? ≠some (some (d,b))):Rel K H0 A0 hs (ρ.set x (some (.lst ds,true))) (λj=>if j=x then a::G else F j) σ H:=by
 have lt:∀{z:Option (D×Bool)}{y:D×Bool},(ρ.set x z)[x]? =some (some y)->x<ρ.length:=λ{z y} e=>by
  by_cases hl:x<ρ.length
  ·exact hl
  ·rw[Zt (by simp;omega)]at e;cases e
 refine⟨by simp[rel.len],λj d b e=>?_,λj d e=>?_,λj d b e c hc=>?_,rel.held,rel.same⟩
 ·by_cases hj:j=x
  ·subst hj
   rw[Zl (lt e)]at e
   cases e
   exact⟨_,hx,by rw[if_pos rfl];exact Rp.Qes s.at' s.rp s.sz⟩
  ·rw[Zc (Ne.symm hj)]at e
   obtain⟨w,h1,h2⟩:=rel.val j d b e
   exact⟨w,h1,by rw[if_neg hj];exact h2⟩
 ·by_cases hj:j=x
  ·subst hj
   rw[Zl (lt e)]at e
   cases e
   rw[if_pos rfl]
   refine⟨by simp only[ZP,D.nl,s.len],ZaB.mpr ⟨s.na,s.nd⟩,λc hc=>s.h0 c (Zq.mp hc),λk d' b hk ek c hc=>?_,λt ht c hc=>s.hld t ht c (Zq.mp hc)⟩
   rw[Zc (Ne.symm hk)]at ek
   rw[if_neg hk]
   exact s.out k d' b ek c (Zq.mp hc)
  ·rw[Zc (Ne.symm hj)]at e
   obtain⟨h1,h2,h3,h4,h5⟩:=rel.own j d e
   rw[if_neg hj]
   refine⟨h1,h2,h3,λk d' b hk ek c hc=>?_,h5⟩
   by_cases hkx:k=x
   ·subst hkx
    rw[if_pos rfl]
    exact λhm=>s.out j d true e c (Zq.mp hm) hc
   ·rw[Zc (Ne.symm hkx)]at ek
    rw[if_neg hkx]
    exact h4 k d' b hk ek c hc
 ·by_cases hj:j=x
  ·subst hj
   rw[if_pos rfl]at hc
   exact .inl (s.h0 c (Zq.mp hc))
  ·rw[Zc (Ne.symm hj)]at e
   rw[if_neg hj]at hc
   exact rel.src j d b e c hc
theorem Spn.weak(s:Spn K H0 H hs ρ F a ds ws G){ρ':En}{F':Nat->List Addr}(h:∀(i:Nat) d b,ρ'[i]? =some (some (d,b))->∀c,c=a∨c∈G->c∉F' i):Spn K H0 H hs ρ' F' a ds ws G:=⟨s.at',s.rp,s.len,s.na,s.nd,s.h0,h,s.hld,s.sz⟩
theorem Spn.of(rel:Rel K H0 A0 hs ρ F σ H){x:Nat}(hx:ρ[x]? =some (some (.lst ds,true))):∃a ws G,σ[x]? =some (some (.ref a))/\F x=a::G/\Spn K H0 H hs (ρ.set x none) F a ds ws G:=by
 obtain⟨v,h1,h2⟩:=rel.val x _ _ hx
 obtain⟨ol,on,o0,oap,oh⟩:=rel.own x _ hx
 simp only[Rp]at h2
 obtain⟨hz,a,vs,rfl,⟨G,eF,q,r⟩ | ⟨q,r⟩⟩:=h2
 ·rw[eF]at ol on o0 oap oh
  obtain⟨n1,n2⟩:=ZaB.mp on
  refine⟨a,vs,G,h1,eF,q,r,by simp only[ZP,D.nl]at ol;omega,n1,n2,λc hc=>o0 c (Zq.mpr hc),λi d b e c hc=>?_,λt ht c hc=>oh t ht c (Zq.mpr hc),hz⟩
  obtain⟨b',e',_⟩:=(Qel (ρ:=ρ) x).2 i d b e
  have hi:i≠x:=λz=>by
   subst z
   by_cases hl:i<ρ.length
   ·rw[Zl hl]at e;cases e
   ·rw[Zt (by simp;omega)]at e;cases e
  exact oap i d b' hi e' c (Zq.mpr hc)
 ·have:=r.QaM
  simp only[D.nl]at ol
  omega
theorem Qfu{i:Int}{d':D}{v':V}{Gm:List Addr}(f:Focus K H [i] (.lst ds) (.ref a) (a::G) d' v' Gm)(hl:G.length=nls ds):(∀c∈Gm,c∈G)/\Rp K H d' v' Gm:=by
 obtain⟨es,a',vs,j',F1,G',F2,d2,v2,e1,h2,h3,h4,h5,h6,h7,h8,h9⟩:=f
 cases e1
 obtain⟨rfl,rfl,rfl,h9⟩:=h9
 refine⟨λc hc=>?_,h9⟩
 rcases h3 with⟨e,z,⟨eF,q⟩ | ⟨eF,q⟩⟩ | ⟨e,_⟩
 ·obtain⟨_,rfl⟩:=List.cons.inj eF
  exact Zb _ (Zd _ hc)
 ·exfalso
  have l1:=h4.QaM
  have l2:=h9.QaM
  have l3:=h5.QaM
  have ex:=congrArg List.length eF
  have e2:=congrArg nls (Zba j' es)
  have hj:j'<es.length:=(Zg.mp h6).1
  have hd:es[j']=d':=(Zg.mp h6).2
  rw[Qev,Zar hj,hd]at e2
  simp only[nls]at e2
  cases e
  simp only[ZP,Zr]at ex
  omega
 ·cases e
end
theorem get_none{ρ:En}{x:Nat}{p:D×Bool}(h:(ρ.set x none)[x]? =some (some p)):False:=by
 by_cases hl:x<ρ.length
 ·rw[Zl hl]at h;cases h
 ·rw[Zt (by rw[ZY];exact Nat.le_of_not_lt hl)]at h;cases h
theorem QgC{K:PySem.W.Frag}{H0 H:Hp}{A0:List Addr}{f:DE}{σ:L2.St}{Q:V->Hp->Prop}{ρ:En}{hs:List (V×D×List Addr)}{F:Nat->List Addr}{r:R}(rel:Rel K H0 A0 hs ρ F σ H)(e:f ρ=some r)(q:∀v H' G,Qag K ρ F H H' r v G->Q v H'):tV K H0 A0 f σ H Q:=⟨ρ,hs,F,r,rel,e,q⟩
theorem Qno{K:PySem.W.Frag}{H0 H:Hp}{A0:List Addr}{x:Nat}{pf:DP}{σ:L2.St}{Q:V->Hp->Prop}{ρ:En}{hs:List (V×D×List Addr)}{F:Nat->List Addr}{d:D}{b:Bool}{is:List Int}{dm:D}(rel:Rel K H0 A0 hs ρ F σ H)(hx:ρ[x]? =some (some (d,b)))(hp:pf ρ=some is)(hd:Qa9 d is=some dm)(q:∀v0 v H' Gm,QU H H'->σ[x]? =some (some v0)->Focus K H' is d v0 (F x) dm v Gm->Q v H'):tP K H0 A0 x pf σ H Q:=⟨ρ,hs,F,d,b,is,dm,rel,hx,hp,hd,q⟩
section
variable {X:Cx}{st0 st1 st2 st3 st4:Stmt}{sts:List Stmt}{t b ln:Nat}{fi fk g1 g2 g3 g4:DE}{g:DS}
theorem Qzu(p0:∀H0 A0,PS X st0 (QeG (Qzc (QhP (tP X.K H0 A0 t (Qcm Qal fi)) (QhP (tP X.K H0 A0 t (Qcm Qal fk)) (QhP (tP X.K H0 A0 b (Qcm Qal fi)) (QhP (tP X.K H0 A0 b (Qcm Qal fk)) QnO))))) (Qgf ln)))
  (p1:∀H0 A0,PS X st1 (QeG (tV X.K H0 A0 g1) (L2.Qa6 (Qf1 t) (tV X.K H0 A0 fi) Qgh))) (p2:∀H0 A0,PS X st2 (QeG (tV X.K H0 A0 g2) (L2.Qa6 (Qf1 t) (tV X.K H0 A0 fk) Qgh)))
  (p3:∀H0 A0,PS X st3 (QeG (tV X.K H0 A0 g3) (L2.Qa6 (Qf1 b) (tV X.K H0 A0 fi) Qgh))) (p4:∀H0 A0,PS X st4 (QeG (tV X.K H0 A0 g4) (L2.Qa6 (Qf1 b) (tV X.K H0 A0 fk) Qgh))) (h:SS X sts g):
  SS X (st0::st1::st2::st3::st4::sts) (Qe (Qj8 t b ln fi fk g1 g2 g3 g4) g):=λH0 A0=>
 (QcV (p0 H0 A0) (QcV (p1 H0 A0) (QcV (p2 H0 A0) (QcV (p3 H0 A0) (QcV (p4 H0 A0) (h H0 A0)))))).mono λE σ H ⟨ρ,hs,F,o,rel,e,q⟩=>by
 refine(λh:∀G:Prop,(_->G)->G=>h _ id) λGG kk=>?_
 obtain⟨o1,e1,e⟩:=bind1 e
 unfold Qj8 at e1
 split at e1
 case h_2=>cases e1
 rename_i ts bs ht hb
 split at e1
 case isFalse=>cases e1
 rename_i hc
 obtain⟨htb,hlt,hlb,hll⟩:=hc
 obtain⟨ri,ei,e1⟩:=bind1 e1
 obtain⟨rk,ek,e1⟩:=bind1 e1
 split at e1
 case h_2=>cases e1
 rename_i i k hi hk
 obtain⟨j1,x1,e1⟩:=bind1 e1
 obtain⟨j2,x2,e1⟩:=bind1 e1
 obtain⟨l1,x3,e1⟩:=bind1 e1
 obtain⟨l2,x4,e1⟩:=bind1 e1
 obtain⟨t1,y1,e1⟩:=bind1 e1
 obtain⟨t2,y2,e1⟩:=bind1 e1
 obtain⟨b1,y3,e1⟩:=bind1 e1
 obtain⟨b2,y4,e1⟩:=bind1 e1
 unfold QnQ at e1
 obtain⟨ri',ei',e1⟩:=bind1 e1
 obtain⟨rk',ek',e1⟩:=bind1 e1
 obtain⟨q1,c1,e1⟩:=bind1 e1
 obtain⟨q2,c2,e1⟩:=bind1 e1
 obtain⟨q3,c3,e1⟩:=bind1 e1
 obtain⟨q4,c4,eE⟩:=bind1 e1
 clear e1
 split at eE
 case h_2=>cases eE
 rename_i i' k' hi' hk'
 split at eE
 case isFalse=>cases eE
 rename_i hcc
 obtain⟨rfl,rfl,w1',w2',w3',w4'⟩:=hcc
 have eE:=Option.some.inj eE
 subst eE
 obtain⟨a,ws,Gt,st,Ft,sp⟩:=Spn.of rel ht
 obtain⟨a',ws',Gb,sb,Fb,sp'⟩:=Spn.of rel hb
 have pf:∀{f:DE}{r:HS.R}{z:Int},f ρ=some r->r.d= .int z->Qcm Qal f ρ=some [z]:=λ{f r z} h1 h2=>by
  unfold Qcm Qal
  rw[Za,h1,Za,h2];rfl
 have dp:∀{zs:List D}{z:Int}{j:Nat}{d:D},ixN zs.length z=some j->zs[j]? =some d->Qa9 (.lst zs) [z]=some d:=λ{zs z j d} h1 h2=>by
  unfold Qa9
  simp only[D.items,Za]
  unfold atI
  rw[h1,Za,h2];rfl
 refine kk ?_
 refine Qno (rel) ht (pf ei hi) (dp x1 y1) λv0 v1 H1 M1 s1 hv0 f1=>?_
 rw[Option.some.inj (Option.some.inj (hv0.symm.trans st))]at f1
 refine Qno (rel.ext s1) ht (pf ek hk) (dp x2 y2) λv0 v2 H2 M2 s2 hv0 f2=>?_
 rw[Option.some.inj (Option.some.inj (hv0.symm.trans st))]at f2
 refine Qno ((rel.ext s1).ext s2) hb (pf ei hi) (dp x3 y3) λv0 v3 H3 M3 s3 hv0 f3=>?_
 rw[Option.some.inj (Option.some.inj (hv0.symm.trans sb))]at f3
 refine Qno (((rel.ext s1).ext s2).ext s3) hb (pf ek hk) (dp x4 y4) λv0 v4 H4 M4 s4 hv0 f4=>?_
 rw[Option.some.inj (Option.some.inj (hv0.symm.trans sb))]at f4
 refine⟨Qfp (by simp),λc hcn=>?_⟩
 have sU:QU H4 (upd H4 c (.tup [v1,v2,v3,v4])):=QbZ hcn
 have hct:upd H4 c (.tup [v1,v2,v3,v4]) c=some (.tup [v1,v2,v3,v4]):=Qaw
 have s14:QU H H4:=((s1.trans s2).trans s3).trans s4
 have f1':=f1.same (((s2.trans s3).trans s4).trans sU)
 have f2':=f2.same ((s3.trans s4).trans sU)
 have f3':=f3.same (s4.trans sU)
 have f4':=f4.same sU
 have relx:=rel.ext (s14.trans sU)
 have sp:=sp.same (s14.trans sU)
 have sp':=sp'.same (s14.trans sU)
 generalize upd H4 c (.tup [v1,v2,v3,v4])=H5 at f1' f2' f3' f4' relx sp sp' hct
 rw[Ft]at f1' f2'
 rw[Fb]at f3' f4'
 refine(λh:∀G:Prop,(_->G)->G=>h _ id) λGG kk=>?_
 obtain⟨m1,r1⟩:=Qfu f1' sp.len
 obtain⟨m2,r2⟩:=Qfu f2' sp.len
 obtain⟨m3,r3⟩:=Qfu f3' sp'.len
 obtain⟨m4,r4⟩:=Qfu f4' sp'.len
 refine kk ?_
 have rT:Rp X.K H5 (.tup [t1,t2,b1,b2]) (.ref c) (M1++(M2++(M3++(M4++[])))):=by
  refine Rp.QiO hct ?_
  simp only[Rps]
  exact⟨v1,_,M1,_,rfl,rfl,r1,v2,_,M2,_,rfl,rfl,r2,v3,_,M3,_,rfl,rfl,r3,v4,_,M4,_,rfl,rfl,r4,rfl,rfl⟩
 have hM:∀z∈M1++(M2++(M3++(M4++[]))),z∈Gt∨z∈Gb:=λz hz=>by
  simp only[ZC,List.not_mem_nil,or_false]at hz
  rcases hz with h | h | h | h
  ·exact .inl (m1 z h)
  ·exact .inl (m2 z h)
  ·exact .inr (m3 z h)
  ·exact .inr (m4 z h)
 generalize M1++(M2++(M3++(M4++[])))=M at rT hM
 have w1:=Qel (ρ:=ρ) t
 have w2:=Qel (ρ:=ρ.set t none) b
 have w3:=Qel (ρ:=(ρ.set t none).set b none) ln
 have wA:=(w1.trans w2).trans w3
 have rel0:=relx.weak wA
 have apart:∀z,z=a∨z∈Gt->¬(z=a'∨z∈Gb):=λz hz hz'=>by
  have h1:=(rel.own t _ ht).2.2.2.1 b _ _ (λe=>htb e.symm) hb
  rw[Ft,Fb]at h1
  exact h1 z (Zq.mpr hz) (Zq.mpr hz')
 have not_in:∀{x:Nat}{d:D}{bb:Bool},(((ρ.set t none).set b none).set ln none)[x]? =some (some (d,bb))->x≠t/\x≠b/\x≠ln:=λ{x d bb} ex=>by
  refine⟨λz=>?_,λz=>?_,λz=>?_⟩
  ·subst z
   obtain⟨_,h1,_⟩:=(w2.trans w3).2 x d bb ex
   exact get_none h1
  ·subst z
   obtain⟨_,h1,_⟩:=w3.2 x d bb ex
   exact get_none h1
  ·subst z
   exact get_none ex
 have sh:Shr H0 A0 (((ρ.set t none).set b none).set ln none) F M:=λz hz=>by
  rcases hM z hz with h | h
  ·refine⟨.inl (sp.h0 z (.inr h)),λx d ex=>?_⟩
   obtain⟨bb,h1,_⟩:=(w2.trans w3).2 x d true ex
   exact sp.out x d bb h1 z (.inr h)
  ·refine⟨.inl (sp'.h0 z (.inr h)),λx d ex=>?_⟩
   obtain⟨bb,h1,_⟩:=wA.2 x d true ex
   refine sp'.out x d bb ?_ z (.inr h)
   rw[Zc (Ne.symm (not_in ex).2.1)];exact h1
 have relL:=rel0.QoT (i:=ln) rT sh
 have sp0:Spn X.K H0 H5 hs (((ρ.set t none).set b none).set ln none) F a ts ws Gt:=sp.weak λx d bb ex=>by
  obtain⟨b',h1,_⟩:=(w2.trans w3).2 x d bb ex
  exact sp.out x d b' h1
 have sp0':Spn X.K H0 H5 hs (((ρ.set t none).set b none).set ln none) F a' bs ws' Gb:=sp'.weak λx d bb ex=>by
  obtain⟨b',h1,_⟩:=wA.2 x d bb ex
  exact sp'.out x d b' (by rw[Zc (Ne.symm (not_in ex).2.1)];exact h1)
 have rel0:=rel0.put (i:=ln) (v:= .ref c) λd bb ex=>(not_in ex).2.2 rfl
 have st1':(σ.set ln (some (.ref c)))[t]? =some (some (.ref a)):=by rw[Zc hlt];exact st
 have sb1':(σ.set ln (some (.ref c)))[b]? =some (some (.ref a')):=by rw[Zc hlb];exact sb
 show Qu1 _ _ E (σ.set ln (some (.ref c))) _
 generalize hσ:σ.set ln (some (V.ref c))=σ1 at relL rel0 st1' sb1'
 generalize hρ0:((ρ.set t none).set b none).set ln none=ρ0 at *
 generalize hρ1:ρ0.set ln (some (D.tup [t1,t2,b1,b2],(D.tup [t1,t2,b1,b2]).flat))=ρ1 at relL ei' ek' c1 c2 c3 c4
 generalize hF1:(λj=>if j=ln then M else F j)=F1 at relL
 have out1:∀z,(z=a∨z=a')->∀(x:Nat) d bb,ρ1[x]? =some (some (d,bb))->z∉F1 x:=λz hz x d bb ex=>by
  subst hF1
  dsimp only
  by_cases hx:x=ln
  ·rw[if_pos hx]
   intro hm
   rcases hz with rfl | rfl
   ·rcases hM z hm with h | h
    ·exact sp.na h
    ·exact apart z (.inl rfl) (.inr h)
   ·rcases hM z hm with h | h
    ·exact apart z (.inr h) (.inl rfl)
    ·exact sp'.na h
  ·rw[if_neg hx]
   subst hρ1
   rw[Zc (Ne.symm hx)]at ex
   rcases hz with rfl | rfl
   ·exact sp0.out x d bb ex z (.inl rfl)
   ·exact sp0'.out x d bb ex z (.inl rfl)
 have jl1:=(QcD x1).2.1
 have jl2:=(QcD x2).2.1
 have ll1:=(QcD x3).2.1
 have ll2:=(QcD x4).2.1
 refine QgC relL c1 λu1 H6 N1 z1=>⟨.ref a,st1',QgC (relL.ext z1.same) ei' λy1' H7 N1' z1'=>?_⟩
 have ru:=z1'.rp
 rw[hi']at ru
 refine⟨a,ws,i',j1,rfl,ru.int_inv,z1'.same _ _ (z1.same _ _ sp0.at'),by rw[← sp0.rp.length];exact x1,?_⟩
 refine(λh:∀G:Prop,(_->G)->G=>h _ id) λGG kk=>?_
 obtain⟨G1,spA,relA,rel0A,mA⟩:=sp0.put rel0 relL (z1.Qgk z1'.same) w1' jl1 λx d bb ex=>out1 a (.inl rfl) x d bb ex
 refine kk ?_
 have apA:¬(a=a'∨a∈Gb):=apart a (.inl rfl)
 have spA':Spn X.K H0 (upd H7 a (.lst (ws.set j1 u1))) hs ρ0 F a' bs ws' Gb:=(sp0'.same (z1.same.trans z1'.same)).QqU (z1'.same _ _ (z1.same _ _ sp0.at')) apA
 generalize upd H7 a (.lst (ws.set j1 u1))=H8 at spA relA rel0A spA'
 have apartA:∀z,z∈G1->¬(z=a'∨z∈Gb):=λz hz hz'=>by
  rcases mA z hz with h | h
  ·exact apart z (.inr h) hz'
  ·obtain⟨vs,w⟩:=sp0'.mem hz'
   rw[h]at w;cases w
 refine QgC relA c2 λu2 H9 N2 z2=>⟨.ref a,st1',QgC (relA.ext z2.same) ek' λy2' H10 N2' z2'=>?_⟩
 have ru2:=z2'.rp
 rw[hk']at ru2
 refine⟨a,ws.set j1 u1,k',j2,rfl,ru2.int_inv,z2'.same _ _ (z2.same _ _ spA.at'),by rw[← spA.rp.length,ZY];exact x2,?_⟩
 refine(λh:∀G:Prop,(_->G)->G=>h _ id) λGG kk=>?_
 obtain⟨G2,spB,relB,rel0B,mB⟩:=spA.put rel0A relA (z2.Qgk z2'.same) w2' (by rw[ZY];exact jl2) λx d bb ex=>out1 a (.inl rfl) x d bb ex
 refine kk ?_
 have spB':Spn X.K H0 (upd H10 a (.lst ((ws.set j1 u1).set j2 u2))) hs ρ0 F a' bs ws' Gb:=(spA'.same (z2.same.trans z2'.same)).QqU (z2'.same _ _ (z2.same _ _ spA.at')) apA
 generalize upd H10 a (.lst ((ws.set j1 u1).set j2 u2))=H11 at spB relB rel0B spB'
 have apartB:∀z,z=a∨z∈G2->¬(z=a'∨z∈Gb):=λz hz hz'=>by
  rcases hz with rfl | hz
  ·exact apA hz'
  ·rcases mB z hz with h | h
   ·exact apartA z h hz'
   ·obtain⟨vs,w⟩:=spA'.mem hz'
    rw[h]at w;cases w
 refine QgC relB c3 λu3 H12 N3 z3=>⟨.ref a',sb1',QgC (relB.ext z3.same) ei' λy3' H13 N3' z3'=>?_⟩
 have ru3:=z3'.rp
 rw[hi']at ru3
 refine⟨a',ws',i',l1,rfl,ru3.int_inv,z3'.same _ _ (z3.same _ _ spB'.at'),by rw[← spB'.rp.length];exact x3,?_⟩
 refine(λh:∀G:Prop,(_->G)->G=>h _ id) λGG kk=>?_
 obtain⟨G3,spC',relC,rel0C,mC⟩:=spB'.put rel0B relB (z3.Qgk z3'.same) w3' ll1 λx d bb ex=>out1 a' (.inr rfl) x d bb ex
 refine kk ?_
 have apB:¬(a'=a∨a'∈G2):=λh=>apartB a' h (.inl rfl)
 have spC:Spn X.K H0 (upd H13 a' (.lst (ws'.set l1 u3))) hs ρ0 F a _ _ G2:=(spB.same (z3.same.trans z3'.same)).QqU (z3'.same _ _ (z3.same _ _ spB'.at')) apB
 generalize upd H13 a' (.lst (ws'.set l1 u3))=H14 at spC relC rel0C spC'
 have apartC:∀z,z∈G3->¬(z=a∨z∈G2):=λz hz hz'=>by
  rcases mC z hz with h | h
  ·exact apartB z hz' (.inr h)
  ·obtain⟨vs,w⟩:=spB.mem hz'
   rw[h]at w;cases w
 refine QgC relC c4 λu4 H15 N4 z4=>⟨.ref a',sb1',QgC (relC.ext z4.same) ek' λy4' H16 N4' z4'=>?_⟩
 have ru4:=z4'.rp
 rw[hk']at ru4
 refine⟨a',ws'.set l1 u3,k',l2,rfl,ru4.int_inv,z4'.same _ _ (z4.same _ _ spC'.at'),by rw[← spC'.rp.length,ZY];exact x4,?_⟩
 refine(λh:∀G:Prop,(_->G)->G=>h _ id) λGG kk=>?_
 obtain⟨G4,spD',relD,rel0D,mD⟩:=spC'.put rel0C relC (z4.Qgk z4'.same) w4' (by rw[ZY];exact ll2) λx d bb ex=>out1 a' (.inr rfl) x d bb ex
 refine kk ?_
 have spD:Spn X.K H0 (upd H16 a' (.lst ((ws'.set l1 u3).set l2 u4))) hs ρ0 F a _ _ G2:=(spC.same (z4.same.trans z4'.same)).QqU (z4'.same _ _ (z4.same _ _ spC'.at')) apB
 generalize upd H16 a' (.lst ((ws'.set l1 u3).set l2 u4))=H17 at spD relD rel0D spD'
 have apartD:∀z,z=a'∨z∈G4->¬(z=a∨z∈G2):=λz hz hz'=>by
  rcases hz with rfl | hz
  ·exact apB hz'
  ·rcases mD z hz with h | h
   ·exact apartC z h hz'
   ·obtain⟨vs,w⟩:=spC.mem hz'
    rw[h]at w;cases w
 have nt:∀d bb,ρ0[t]? ≠some (some (d,bb)):=λd bb ex=>(not_in ex).1 rfl
 have nb:∀d bb,ρ0[b]? ≠some (some (d,bb)):=λd bb ex=>(not_in ex).2.1 rfl
 have relE:=spD.back rel0D st1' nt
 have spE:=spD'.weak (ρ':=ρ0.set t (some (.lst ((ts.set j1 q1.d).set j2 q2.d),true))) (F':=λj=>if j=t then a::G2 else F j) λx d bb ex z hz=>by
  by_cases hx:x=t
  ·rw[if_pos hx]
   exact λhm=>apartD z hz (Zq.mp hm)
  ·rw[if_neg hx]
   rw[Zc (Ne.symm hx)]at ex
   exact spD'.out x d bb ex z hz
 have relF:=spE.back relE sb1' (by rw[Zc htb];exact nb)
 subst hρ0
 exact⟨_,hs,_,o,relF,e,q⟩
end
noncomputable def QbC:Expr->Option (Str×Str)
 | .Subscript (.Name x _) (.Name y _) _=>some (x,y)
 | _=>none
theorem Qds{e:Expr}{x y:Str}(h:QbC e=some (x,y)):∃p1 p2 p3,e= .Subscript (.Name x p1) (.Name y p2) p3:=by
 unfold QbC at h
 split at h
 ·cases h;exact⟨_,_,_,rfl⟩
 ·cases h
noncomputable def QtZ:Expr->Option (List Expr)
 | .Tuple l _ _=>some l
 | _=>none
theorem Quu{e:Expr}{l:List Expr}(h:QtZ e=some l):∃k p,e= .Tuple l k p:=by
 unfold QtZ at h
 split at h
 ·cases h;exact⟨_,_,rfl⟩
 ·cases h
noncomputable def four(l:List Expr):Option ((Str×Str)×(Str×Str)×(Str×Str)×(Str×Str)):=match l with
 | [a,b,c,d]=>(QbC a).bind λa=>(QbC b).bind λb=>(QbC c).bind λc=>(QbC d).map λd=>(a,b,c,d)
 | _=>none
theorem QtV{l:List Expr}{a b c d:Str×Str}(h:four l=some (a,b,c,d)):∃ea eb ec ed,l=[ea,eb,ec,ed]/\QbC ea=some a/\QbC eb=some b/\QbC ec=some c/\QbC ed=some d:=by
 unfold four at h
 split at h
 ·obtain⟨a',h1,h⟩:=bind1 h
  obtain⟨b',h2,h⟩:=bind1 h
  obtain⟨c',d',h3,h4,h5⟩:=Qau h
  cases h5
  exact⟨_,_,_,_,rfl,h1,h2,h3,h4⟩
 ·cases h
noncomputable def Qre(st:Stmt):Option (Str×(Str×Str)×(Str×Str)×(Str×Str)×(Str×Str)):=(aName st).bind λz=>(QtZ z.2).bind λl=>(four l).map λq=>(z.1,q)
theorem Qr4{st:Stmt}{x:Str}{a b c d:Str×Str}(h:Qre st=some (x,a,b,c,d)):∃p ea eb ec ed k p1 p2,st= .Assign [.Name x p] (.Tuple [ea,eb,ec,ed] k p1) p2/\QbC ea=some a/\QbC eb=some b/\QbC ec=some c/\QbC ed=some d:=by
 unfold Qre at h
 obtain⟨⟨x',e⟩,h1,h⟩:=bind1 h
 obtain⟨l,q,h2,h3,h⟩:=Qau h
 cases h
 obtain⟨p,p2,e1⟩:=QmW h1
 obtain⟨k,p1,e2⟩:=Quu h2
 have e2:e= .Tuple l k p1:=e2
 obtain⟨ea,eb,ec,ed,e3,n⟩:=QtV h3
 exact⟨p,ea,eb,ec,ed,k,p1,p2,by rw[e1,e2,e3],n⟩
noncomputable def Qhq:Stmt->Option ((Str×Str)×Expr)
 | .Assign [t] e _=>(QbC t).map λs=>(s,e)
 | _=>none
theorem Qfw{st:Stmt}{s:Str×Str}{e:Expr}(h:Qhq st=some (s,e)):∃t p,st= .Assign [t] e p/\QbC t=some s:=by
 unfold Qhq at h
 split at h
 ·obtain⟨s',h1,h2⟩:=Zf.mp h
  cases h2
  exact⟨_,_,rfl,h1⟩
 ·cases h
structure Col where
 ln:Str
 t:Str
 b:Str
 i:Str
 k:Str
 e1:Expr
 e2:Expr
 e3:Expr
 e4:Expr
 r:List Stmt
noncomputable def Qra:List Stmt->Option Col
 | s0::s1::s2::s3::s4::r=>(Qre s0).bind λz=>(Qhq s1).bind λz1=>(Qhq s2).bind λz2=>(Qhq s3).bind λz3=>(Qhq s4).bind λz4=>
  if z.2.2.1=(z.2.1.1,z.2.2.1.2)/\z.2.2.2.1=(z.2.2.2.1.1,z.2.1.2)/\z.2.2.2.2=(z.2.2.2.1.1,z.2.2.1.2)/\z1.1=z.2.1/\z2.1=z.2.2.1/\z3.1=z.2.2.2.1/\z4.1=z.2.2.2.2 then some ⟨z.1,z.2.1.1,z.2.2.2.1.1,z.2.1.2,z.2.2.1.2,z1.2,z2.2,z3.2,z4.2,r⟩else none
 | _=>none
theorem Qve{sts:List Stmt}{q:Col}(h:Qra sts=some q):∃p ea eb ec ed k p1 p2 t1 t2 t3 t4 p3 p4 p5 p6,sts= .Assign [.Name q.ln p] (.Tuple [ea,eb,ec,ed] k p1) p2:: .Assign [t1] q.e1 p3:: .Assign [t2] q.e2 p4:: .Assign [t3] q.e3 p5:: .Assign [t4] q.e4 p6::q.r∧
  QbC ea=some (q.t,q.i)/\QbC eb=some (q.t,q.k)/\QbC ec=some (q.b,q.i)/\QbC ed=some (q.b,q.k)/\QbC t1=some (q.t,q.i)/\QbC t2=some (q.t,q.k)/\QbC t3=some (q.b,q.i)/\QbC t4=some (q.b,q.k):=by
 refine(λh:∀G:Prop,(_->G)->G=>h _ id) λGG kk=>?_
 unfold Qra at h
 split at h
 ·rename_i s0 s1 s2 s3 s4 r
  obtain⟨z,h0,h⟩:=bind1 h
  obtain⟨z1,h1,h⟩:=bind1 h
  obtain⟨z2,h2,h⟩:=bind1 h
  obtain⟨z3,h3,h⟩:=bind1 h
  obtain⟨z4,h4,h⟩:=bind1 h
  split at h
  ·rename_i hc
   obtain⟨g1,g2,g3,g4,g5,g6,g7⟩:=hc
   obtain⟨p,ea,eb,ec,ed,k,p1,p2,e0,n1,n2,n3,n4⟩:=Qr4 h0
   obtain⟨t1,p3,e1,m1⟩:=Qfw h1
   obtain⟨t2,p4,e2,m2⟩:=Qfw h2
   obtain⟨t3,p5,e3,m3⟩:=Qfw h3
   obtain⟨t4,p6,e4,m4⟩:=Qfw h4
   have h:=Option.some.inj h
   subst h
   exact kk ⟨p,ea,eb,ec,ed,k,p1,p2,t1,t2,t3,t4,p3,p4,p5,p6,by rw[e0,e1,e2,e3,e4],n1,n2.trans (congrArg some g1),n3.trans (congrArg some g2),n4.trans (congrArg some g3),m1.trans (congrArg some g4),m2.trans (congrArg some (g5.trans g1)),m3.trans (congrArg some (g6.trans g2)),m4.trans (congrArg some (g7.trans g3))⟩
  ·cases h
 ·cases h
end HS
namespace HS
open PySem PySem.Spec L2 PyProof.Rows
section
variable {K:PySem.W.Frag}{H0 H H':Hp}{A0:List Addr}{hs:List (V×D×List Addr)}{ρ:En}{F:Nat->List Addr}{σ:L2.St}{x i j:Nat}{ds es:List D}{a:Addr}{vs:List V}{v vn:V}{dn:D}
end
end HS
namespace HS
open PySem PySem.Spec L2 PyProof.Rows
mutual
noncomputable def QkR(n:Nat)(Θ:Th)(st:Stmt):Option DS:=match n with
 | 0=>none
 | n+1=>match st with
  | .Pass _=>some Qp
  | .Break _=>some QrV
  | .Continue _=>some QqY
  | .Raise _ _ _=>some QE
  | .Return none _=>some QrJ
  | .Return (some e) _=>(Qs n Θ e).map QP
  | .Expr (.Constant (.str _) _ _) _=>some Qp
  | .Expr (.Call (.Attribute o m apos) args [] cpos) _=>if(apos.endLine == cpos.line)=true then Qkz n Θ o m args else none
  | .Expr (.Call (.Name x p) args [] cpos) _=>(Qs n Θ (.Call (.Name x p) args [] cpos)).map QqM
  | .Assign [.Name x _] e _=>(Θ.Qdo x).bind λi=>(Qs n Θ e).map λfa=>Qo i (if QlE e=true then Qaf fa else fa)
  | .Assign [.Tuple es k p] e _=>if Qg7 e=true/\QsL e=false then(Qga Θ (.Tuple es k p)).bind λt=>(Qs n Θ e).map λfa=>Qrz t fa else none
  | .Assign [.Subscript a i _] e _=>(Qdp n Θ a).bind λq=>(Qs n Θ i).bind λfi=>(Qs n Θ e).map λfa=>Qcj q.1 q.2 fi fa
  | .AugAssign (.Subscript a i _) op e _=>(Qdp n Θ a).bind λq=>(Qs n Θ i).bind λfi=>(Qvh op).bind λg=>(Qs n Θ e).map λfa=>Qgu g q.1 q.2 fi fa
  | .If c a b _=>(Qba n Θ c).bind λg=>(Qa1 n Θ a).bind λf1=>(Qa1 n Θ b).map λf2=>sIf g f1 f2
  | .For tg iter body [] _=>(Qga Θ tg).bind λt=>(Qfo n Θ tg iter).bind λfi=>(Qa1 n Θ body).map λfb=>Qbl fi t fb
  | .While c body [] _=>(Qba n Θ c).bind λg=>(Qa1 n Θ body).map λfb=>Qcv g fb
  | .Try a b c d p=>Θ.tr (.Try a b c d p)
  | _=>none
noncomputable def Qa1(n:Nat)(Θ:Th)(sts:List Stmt):Option DS:=match n with
  | 0=>none
  | n+1=>match sts with
    | []=>some Qp
    | st::r=>
     match Qra (st::r)with
     | some q=>(Θ.Qdo q.ln).bind λln=>(Θ.slot q.t).bind λt=>(Θ.slot q.b).bind λb=>(Θ.slot q.i).bind λi=>(Θ.slot q.k).bind λk=>(Qs n Θ q.e1).bind λg1=>(Qs n Θ q.e2).bind λg2=>(Qs n Θ q.e3).bind λg3=>(Qs n Θ q.e4).bind λg4=>(Qa1 n Θ q.r).map λg=>Qe (Qj8 t b ln (Qa i) (Qa k) g1 g2 g3 g4) g
     | none=>
      match Qrv (st::r)with
      | some q=>if Θ.gl "list" =true then(Θ.Qdo q.x).bind λx=>(Θ.slot q.x).bind λx'=>if x'=x then(Qs n Θ q.y).bind λfy=>(Qs n Θ q.i1).bind λf1=>(Qs n Θ q.e1).bind λg1=>(Qs n Θ q.i2).bind λf2=>(Qs n Θ q.e2).bind λg2=>(Qa1 n Θ q.r).map λg=>Qe (QjK x fy f1 g1 f2 g2) g else none else none
      | none=>(QkR n Θ st).bind λf=>(Qa1 n Θ r).map λg=>Qe f g
end
theorem Qi5{n:Nat}{Θ:Th}{e:Expr}{f:DE}(h:Qs n Θ e=some f):Qw2 e=false:=by
 cases n with
 | zero=>exact nomatch (show(none:Option DE)=some _ from h)
 | succ n=>cases e<;>first | rfl | (exact nomatch (show(none:Option DE)=some _ from h))
theorem QwP{n:Nat}{Θ:Th}{elt:Expr}{gens:List Comprehension}{scope:Scope}{pos:Pos}{f:DE}(h:Qs n Θ (.ListComp elt gens scope pos)=some f):∃m tg iter ifs t fi ft fe,n=m+1/\gens=[⟨tg,iter,ifs,0⟩]/\Qga (inner Θ scope) tg=some t/\QkW Θ scope t=true∧
  Qfo m Θ tg iter=some fi/\QfO m (inner Θ scope) ifs=some ft/\Qs m (inner Θ scope) elt=some fe/\f=QM fi t (Qi4 Θ scope) ft fe:=by
 cases n with
 | zero=>exact nomatch (show(none:Option DE)=some _ from h)
 | succ n=>
  match gens,h with
  | [⟨tg,iter,ifs,k⟩],h=>
   by_cases hk:k=0
   ·subst hk
    (conv at h=>lhs;whnf)
    obtain⟨t,ht,h⟩:=bind1 h
    split at h
    ·rename_i hc
     simp only[Zj]at hc
     obtain⟨fi,h1,h⟩:=bind1 h
     obtain⟨ft,fe,h2,h3,rfl⟩:=Qau h
     exact⟨n,tg,iter,ifs,t,fi,ft,fe,rfl,rfl,ht,hc.1,h1,h2,h3,rfl⟩
    ·cases h
   ·exfalso
    cases k with
    | ofNat k=>
     cases k with
     | zero=>exact hk rfl
     | succ k=>exact nomatch (show(none:Option DE)=some _ from h)
    | negSucc k=>exact nomatch (show(none:Option DE)=some _ from h)
  | [],h=>exact nomatch (show(none:Option DE)=some _ from h)
  | ⟨_,_,_,.ofNat 0⟩::_::_,h=>exact nomatch (show(none:Option DE)=some _ from h)
  | ⟨_,_,_,.ofNat (k+1)⟩::_::_,h=>exact nomatch (show(none:Option DE)=some _ from h)
  | ⟨_,_,_,.negSucc k⟩::_::_,h=>exact nomatch (show(none:Option DE)=some _ from h)
theorem QxI{n:Nat}{X:Cx}{Θ:Th}{x:Str}{p pos:Pos}{e:Expr}{fa:DE}{i:Nat}(ok:QaG X Θ)(hx:Θ.Qdo x=some i)(h:Qs n Θ e=some fa):S1 X (.Assign [.Name x p] e pos) (Qo i fa):=by
 have hN:X.N.Nodup:=by rw[ok.N];exact ok.nd
 obtain⟨h1,h2,h3⟩:=QeX ok.toCtxB hx
 by_cases hc:Qg7 e=true
 ·have he:=(Qdu n).E X Θ e fa ok h
  exact QnG λH0 A0=>Qic hN h1 h2 (he H0 A0) (Qe5 hc) h3
 ·cases e with
  | ListComp elt gens scope cpos=>
   obtain⟨m,tg,iter,ifs,t,fi,ft,fe,rfl,rfl,ht,hco,g1,g2,g3,rfl⟩:=QwP h
   obtain⟨S,cap,inn⟩:=Qob ok hco
   obtain⟨i1,i2⟩:=(Qdu m).I X Θ tg iter fi ok g1
   exact QwI hN h1 h2 h3 ok.calm S i1 cap (λcl C fp s3 H3=>⟨Qnr (inn cl C fp s3 H3) ht,(Qdu m).Ts _ _ ifs ft (inn cl C fp s3 H3) g2,(Qdu m).E _ _ elt fe (inn cl C fp s3 H3) g3⟩) i2
  | SetComp _ _ _ _=>cases n<;>exact nomatch (show(none:Option DE)=some _ from h)
  | DictComp _ _ _ _ _=>cases n<;>exact nomatch (show(none:Option DE)=some _ from h)
  | _=>exact absurd rfl hc
theorem QvL{X:Cx}{x:Str}{p pos:Pos}{e:Expr}{fa:DE}{i:Nat}{n:Nat}{Θ:Th}(ok:QaG X Θ)(hx:Θ.Qdo x=some i)(h:Qs n Θ e=some fa)(ha:QlE e=true):S1 X (.Assign [.Name x p] e pos) (Qo i (Qaf fa)):=by
 have hN:X.N.Nodup:=by rw[ok.N];exact ok.nd
 obtain⟨h1,h2,h3⟩:=QeX ok.toCtxB hx
 have hc:Qg7 e=true:=by cases e<;>first | rfl | cases ha
 have he:=QvO ((Qdu n).E X Θ e fa ok h)
 exact QnG λH0 A0=>Qic hN h1 h2 (he H0 A0) (Qe5 hc) h3
theorem Qdv{a i e:Expr}{p:Pos}{l:Nat}{env:Env}:swapsWithSole [.Subscript a i p] e l env=pure false:=by
 cases e<;>rfl
structure QzS (n:Nat):Prop where
 S:∀X Θ st f,QaG X Θ->QkR n Θ st=some f->S1 X st f
 Ss:∀X Θ sts f,QaG X Θ->Qa1 n Θ sts=some f->SS X sts f
theorem Qx2{n:Nat}(ih:QzS n):∀X Θ st f,QaG X Θ->QkR (n+1) Θ st=some f->S1 X st f:=by
 intro X Θ st f ok h
 have hN:X.N.Nodup:=by rw[ok.N];exact ok.nd
 have E:=Qdu n
 cases st with
 | Pass pos=>change some Qp=some f at h;cases h;exact Qwi
 | Break pos=>change some QrV=some f at h;cases h;exact QtO
 | Continue pos=>change some QqY=some f at h;cases h;exact Qw9
 | Raise a b pos=>change some QE=some f at h;cases h;exact Qup
 | Return e pos=>
  cases e with
  | none=>change some QrJ=some f at h;cases h;exact QxM
  | some e=>
   change(Qs n Θ e).map QP=some f at h
   obtain⟨fa,h1,rfl⟩:=Zf.mp h
   exact QyC (E.E X Θ e fa ok h1)
 | Expr e pos=>
  cases e with
  | Constant c k p=>
   cases c with
   | str x=>
    change some Qp=some f at h
    cases h
    exact λH0 A0=>Qzv.mono λE σ H ⟨ρ,hs,F,o,rel,e,q⟩=>by cases e;exact q σ H F rel
   | _=>exact nomatch (show(none:Option DS)=some _ from h)
  | Call fn args kws cpos=>
   cases fn with
   | Attribute o m apos=>
    cases kws with
    | nil=>
     change(if(apos.endLine == cpos.line)=true then Qkz n Θ o m args else none)=some f at h
     split at h
     ·rename_i hl
      exact Qut ok h hl
     ·cases h
    | cons _ _=>exact nomatch (show(none:Option DS)=some _ from h)
   | Name x p=>
    cases kws with
    | nil=>
     change(Qs n Θ (.Call (.Name x p) args [] cpos)).map QqM=some f at h
     obtain⟨fa,h1,rfl⟩:=Zf.mp h
     exact λH0 A0=>Qxs (Qmi (E.E X Θ _ fa ok h1 H0 A0) rfl)
    | cons _ _=>exact nomatch (show(none:Option DS)=some _ from h)
   | _=>exact nomatch (show(none:Option DS)=some _ from h)
  | _=>exact nomatch (show(none:Option DS)=some _ from h)
 | Assign ts e pos=>
  match ts,h with
  | [t],h=>
   cases t with
   | Name x p=>
    change((Θ.Qdo x).bind λi=>(Qs n Θ e).map λfa=>Qo i (if QlE e=true then Qaf fa else fa))=some f at h
    obtain⟨i,fa,h1,h2,rfl⟩:=Qau h
    split
    ·rename_i ha;exact QvL ok h1 h2 ha
    ·exact QxI ok h1 h2
   | Tuple es k p=>
    change(if Qg7 e=true/\QsL e=false then(Qga Θ (.Tuple es k p)).bind λt=>(Qs n Θ e).map λfa=>Qrz t fa else none)=some f at h
    split at h
    ·rename_i hc
     obtain⟨t,fa,h1,h2,rfl⟩:=Qau h
     refine Qwm (E.E X Θ e fa ok h2) (Qnr ok h1) (by show swapsWith e (some (.Tuple es k p)) pos.line X.env=pure false;exact Qe5 hc.1) ?_ rfl
     cases e<;>first | rfl | (cases hc.2)
    ·cases h
   | Subscript a i p=>
    change((Qdp n Θ a).bind λq=>(Qs n Θ i).bind λfi=>(Qs n Θ e).map λfa=>Qcj q.1 q.2 fi fa)=some f at h
    obtain⟨q,h1,h⟩:=bind1 h
    obtain⟨fi,fa,h2,h3,rfl⟩:=Qau h
    obtain⟨sp,_⟩:=QhH n X Θ a q ok h1
    have ns:=Qi5 h2
    refine QzC (E.E X Θ e fa ok h3) sp (E.E X Θ i fi ok h2) λte to ti he ho hi=>Qfa he (Qge ho hi set_list ?_) Qdv ?_ rfl
    ·intro v;cases i<;>first | rfl | (cases ns)
    ·cases e<;>rfl
   | _=>exact nomatch (show(none:Option DS)=some _ from h)
  | [],h=>exact nomatch (show(none:Option DS)=some _ from h)
  | t::_::_,h=>cases t<;>exact nomatch (show(none:Option DS)=some _ from h)
 | AugAssign t op e pos=>
  cases t with
  | Subscript a i p=>
   change((Qdp n Θ a).bind λq=>(Qs n Θ i).bind λfi=>(Qvh op).bind λg=>(Qs n Θ e).map λfa=>Qgu g q.1 q.2 fi fa)=some f at h
   obtain⟨q,h1,h⟩:=bind1 h
   obtain⟨fi,h2,h⟩:=bind1 h
   obtain⟨g,fa,h3,h4,rfl⟩:=Qau h
   obtain⟨r,o1,o2⟩:=Qyh (X:=X) h3
   obtain⟨sp,_⟩:=QhH n X Θ a q ok h1
   have ns:=Qi5 h2
   exact Qwu o1 o2 (E.E X Θ e fa ok h4) sp (E.E X Θ i fi ok h2) λov iv new=>by cases i<;>first | rfl | (cases ns)
  | _=>exact nomatch (show(none:Option DS)=some _ from h)
 | If c a b pos=>
  change((Qba n Θ c).bind λg=>(Qa1 n Θ a).bind λf1=>(Qa1 n Θ b).map λf2=>sIf g f1 f2)=some f at h
  obtain⟨g,h1,h⟩:=bind1 h
  obtain⟨f1,f2,h2,h3,rfl⟩:=Qau h
  exact QAC (E.T X Θ c g ok h1) (ih.Ss X Θ a f1 ok h2) (ih.Ss X Θ b f2 ok h3)
 | For tg iter body els pos=>
  cases els with
  | nil=>
   change((Qga Θ tg).bind λt=>(Qfo n Θ tg iter).bind λfi=>(Qa1 n Θ body).map λfb=>Qbl fi t fb)=some f at h
   obtain⟨t,h1,h⟩:=bind1 h
   obtain⟨fi,fb,h2,h3,rfl⟩:=Qau h
   obtain⟨i1,i2⟩:=E.I X Θ tg iter fi ok h2
   exact Qx4 ok.pass ok.calm i1 (Qnr ok h1) (ih.Ss X Θ body fb ok h3) i2
  | cons _ _=>exact nomatch (show(none:Option DS)=some _ from h)
 | While c body els pos=>
  cases els with
  | nil=>
   change((Qba n Θ c).bind λg=>(Qa1 n Θ body).map λfb=>Qcv g fb)=some f at h
   obtain⟨g,fb,h1,h2,rfl⟩:=Qau h
   exact Qsx ok.pass (E.T X Θ c g ok h1) (ih.Ss X Θ body fb ok h2)
  | cons _ _=>exact nomatch (show(none:Option DS)=some _ from h)
 | Try a b c d pos=>exact ok.tr _ _ h
 | _=>exact nomatch (show(none:Option DS)=some _ from h)
theorem Qwe:∀n,QzS n
 | 0=>⟨λ_ _ _ _ _ h=>(nomatch (show(none:Option DS)=some _ from h)),λ_ _ _ _ _ h=>(nomatch (show(none:Option DS)=some _ from h))⟩
 | n+1=>by
  have ih:=Qwe n
  refine⟨Qx2 ih,λX Θ sts f ok h=>?_⟩
  match sts,h with
  | [],h=>change some Qp=some f at h;cases h;exact Qyd
  | st::r,h=>
   change(match Qra (st::r)with
    | some q=>(Θ.Qdo q.ln).bind λln=>(Θ.slot q.t).bind λt=>(Θ.slot q.b).bind λb=>(Θ.slot q.i).bind λi=>(Θ.slot q.k).bind λk=>(Qs n Θ q.e1).bind λg1=>(Qs n Θ q.e2).bind λg2=>(Qs n Θ q.e3).bind λg3=>(Qs n Θ q.e4).bind λg4=>(Qa1 n Θ q.r).map λg=>Qe (Qj8 t b ln (Qa i) (Qa k) g1 g2 g3 g4) g
    | none=>_)=some f at h
   split at h
   ·rename_i q hq
    obtain⟨ln,hln,h⟩:=bind1 h
    obtain⟨t,ht,h⟩:=bind1 h
    obtain⟨b,hb,h⟩:=bind1 h
    obtain⟨i,hi,h⟩:=bind1 h
    obtain⟨k,hk,h⟩:=bind1 h
    obtain⟨g1,h1,h⟩:=bind1 h
    obtain⟨g2,h2,h⟩:=bind1 h
    obtain⟨g3,h3,h⟩:=bind1 h
    obtain⟨g4,g,h4,h5,rfl⟩:=Qau h
    obtain⟨p,ea,eb,ec,ed,kk,p1,p2,t1,t2,t3,t4,p3,p4,p5,p6,hs,n1,n2,n3,n4,m1,m2,m3,m4⟩:=Qve hq
    rw[hs]
    obtain⟨_,_,_,rfl⟩:=Qds n1
    obtain⟨_,_,_,rfl⟩:=Qds n2
    obtain⟨_,_,_,rfl⟩:=Qds n3
    obtain⟨_,_,_,rfl⟩:=Qds n4
    obtain⟨_,_,_,rfl⟩:=Qds m1
    obtain⟨_,_,_,rfl⟩:=Qds m2
    obtain⟨_,_,_,rfl⟩:=Qds m3
    obtain⟨_,_,_,rfl⟩:=Qds m4
    have E:=Qdu n
    have hN:X.N.Nodup:=by rw[ok.N];exact ok.nd
    obtain⟨l1,l2,l3⟩:=QeX ok.toCtxB hln
    have B:=ok.toCtxB
    refine Qzu (λH0 A0=>Qic hN l1 l2 (QtH (QaP (Qg1 (QfW (QaE B ht)) (Qep (QaE B hi)) (λ_ _=>rfl) H0 A0) (QaP (Qg1 (QfW (QaE B ht)) (Qep (QaE B hk)) (λ_ _=>rfl) H0 A0) (QaP (Qg1 (QfW (QaE B hb)) (Qep (QaE B hi)) (λ_ _=>rfl) H0 A0) (QaP (Qg1 (QfW (QaE B hb)) (Qep (QaE B hk)) (λ_ _=>rfl) H0 A0) QdV))))) (Qe5 rfl) l3) (λH0 A0=>Qfa (E.E X Θ q.e1 g1 ok h1 H0 A0) (Qge (QaE B ht) (Qep (QaE B hi) H0 A0) set_list λv=>rfl) Qdv ?_ rfl) (λH0 A0=>Qfa (E.E X Θ q.e2 g2 ok h2 H0 A0) (Qge (QaE B ht) (Qep (QaE B hk) H0 A0) set_list λv=>rfl) Qdv ?_ rfl) (λH0 A0=>Qfa (E.E X Θ q.e3 g3 ok h3 H0 A0) (Qge (QaE B hb) (Qep (QaE B hi) H0 A0) set_list λv=>rfl) Qdv ?_ rfl) (λH0 A0=>Qfa (E.E X Θ q.e4 g4 ok h4 H0 A0) (Qge (QaE B hb) (Qep (QaE B hk) H0 A0) set_list λv=>rfl) Qdv ?_ rfl) (ih.Ss X Θ q.r g ok h5)
    ·cases q.e1<;>rfl
    ·cases q.e2<;>rfl
    ·cases q.e3<;>rfl
    ·cases q.e4<;>rfl
   change(match Qrv (st::r)with
    | some q=>if Θ.gl "list" =true then(Θ.Qdo q.x).bind λx=>(Θ.slot q.x).bind λx'=>if x'=x then(Qs n Θ q.y).bind λfy=>(Qs n Θ q.i1).bind λf1=>(Qs n Θ q.e1).bind λg1=>(Qs n Θ q.i2).bind λf2=>(Qs n Θ q.e2).bind λg2=>(Qa1 n Θ q.r).map λg=>Qe (QjK x fy f1 g1 f2 g2) g else none else none
    | none=>(QkR n Θ st).bind λf=>(Qa1 n Θ r).map λg=>Qe f g)=some f at h
   split at h
   ·rename_i q hq
    split at h
    case isFalse=>cases h
    rename_i hg
    obtain⟨x,hx,h⟩:=bind1 h
    obtain⟨x',hx',h⟩:=bind1 h
    split at h
    case isFalse=>cases h
    rename_i hxx
    subst hxx
    obtain⟨fy,h1,h⟩:=bind1 h
    obtain⟨f1,h2,h⟩:=bind1 h
    obtain⟨g1,h3,h⟩:=bind1 h
    obtain⟨f2,h4,h⟩:=bind1 h
    obtain⟨g2,g,h5,h6,rfl⟩:=Qau h
    obtain⟨p1,p2,p3,p4,a1,a2,a3,b1,b2,b3,hs⟩:=QtU hq
    rw[hs]
    have E:=Qdu n
    have hN:X.N.Nodup:=by rw[ok.N];exact ok.nd
    obtain⟨g1',g2',g3'⟩:=QhZ ok.toCtxB hg
    obtain⟨l1,l2,l3⟩:=QeX ok.toCtxB hx
    have n1:=Qi5 h2
    have n2:=Qi5 h4
    refine QyW (λH0 A0=>Qic hN l1 l2 (QiC QiB g1' (ok.mg _ (by decide+kernel)) Zbt (Qhu (E.E X Θ q.y fy ok h1) QkX (Qa2 h1 _ _) H0 A0) (by decide) (by decide) (Qa2 h1 _ _) rfl) (Qe5 rfl) l3) (λH0 A0=>Qfa (E.E X Θ q.e1 g1 ok h3 H0 A0) (Qge (QaE ok.toCtxB hx') (E.E X Θ q.i1 f1 ok h2 H0 A0) set_list ?_) Qdv ?_ rfl) (λH0 A0=>Qfa (E.E X Θ q.e2 g2 ok h5 H0 A0) (Qge (QaE ok.toCtxB hx') (E.E X Θ q.i2 f2 ok h4 H0 A0) set_list ?_) Qdv ?_ rfl) (ih.Ss X Θ q.r g ok h6)
    ·intro v;cases hi:q.i1<;>first | rfl | (rw[hi]at n1;cases n1)
    ·cases q.e1<;>rfl
    ·intro v;cases hi:q.i2<;>first | rfl | (rw[hi]at n2;cases n2)
    ·cases q.e2<;>rfl
   ·obtain⟨fs,fr,h1,h2,rfl⟩:=Qau h
    exact QwG (ih.S X Θ st fs ok h1) (ih.Ss X Θ r fr ok h2)
noncomputable def Qdf(k:Nat)(ds:List D):En:=ds.map (λd=>some (d,d.flat))++List.replicate (k-ds.length) none
noncomputable def outD:Out->Option (D×Bool)
 | .rt d fr=>some (d,fr)
 | .nx _=>some (.non,true)
 | _=>none
noncomputable def Qn(k:Nat)(f:DS):Den:=λds=>(f (Qdf k ds)).bind outD
theorem Rps.parts{K:PySem.W.Frag}{H:Hp}:∀{ds:List D}{vs:List V}{F:List Addr},Rps K H ds vs F→
  ∃Fs:List (List Addr),(∀L∈Fs,∀a∈L,a∈F)/\∀(i:Nat) (d:D),ds[i]? =some d->∃v,vs[i]? =some v/\Rp K H d v (Fs.getD i [])
 | [],_,_,h=>⟨[],λL hL=>by simp at hL,λi d e=>by simp at e⟩
 | d::ds,_,_,h=>by
  simp only[Rps]at h
  obtain⟨v,ws,F1,F2,rfl,rfl,r,q⟩:=h
  obtain⟨Fs,h1,h2⟩:=Rps.parts q
  refine⟨F1::Fs,λL hL a ha=>?_,λi d' e=>?_⟩
  ·rcases Zq.mp hL with rfl | hL
   ·exact Zd _ ha
   ·exact Zb _ (h1 L hL a ha)
  ·cases i with
   | zero=>simp at e;subst e;exact⟨v,by simp,by simpa using r⟩
   | succ i=>obtain⟨w,hw,hr⟩:=h2 i d' (by simpa using e);exact⟨w,by simpa using hw,by simpa using hr⟩
theorem Qjs{k:Nat}{ds:List D}{i:Nat}{d:D}{b:Bool}(h:(Qdf k ds)[i]? =some (some (d,b))):ds[i]? =some d/\b=d.flat:=by
 unfold Qdf at h
 by_cases hi:i<ds.length
 ·rw[Zag (by simpa using hi),Zm]at h
  cases e:ds[i]? with
  | none=>rw[e]at h;cases h
  | some a=>rw[e]at h;cases h;exact⟨rfl,rfl⟩
 ·rw[ZaK (by simpa using hi),ZbR]at h
  split at h<;>cases h
theorem Qs5{K:PySem.W.Frag}{H:Hp}{ds:List D}{vs:List V}{F:List Addr}{N:List Str}(r:Rps K H ds vs F):∃F0,Rel K H F [] (Qdf N.length ds) F0 (start N vs) H:=by
 obtain⟨Fs,h1,h2⟩:=r.parts
 have hl:=r.length
 have src:∀i a,a∈Fs.getD i []->a∈F:=λi a ha=>by
  by_cases hi:i<Fs.length
  ·have:Fs.getD i []∈Fs:=by rw[Zv,ZT hi];exact ZbW hi
   exact h1 _ this a ha
  ·rw[Zv,Zt (by omega)]at ha;simp at ha
 refine⟨λi=>Fs.getD i [],?_,λi d b e=>?_,λi d e=>?_,λi d b e a ha=> .inr (src i a ha),λt ht=>absurd ht (by simp),QU.refl _⟩
 ·unfold Qdf L2.start;simp[hl]
 ·obtain⟨e1,_⟩:=Qjs e
  obtain⟨v,hv,hr⟩:=h2 i d e1
  refine⟨v,?_,hr⟩
  have hi:i<vs.length:=(Zg.mp hv).1
  unfold L2.start
  rw[Zag (by simpa using hi),Zm,hv];rfl
 ·obtain⟨e1,e2⟩:=Qjs e
  obtain⟨v,hv,hr⟩:=h2 i d e1
  have z:Fs.getD i []=[]:=hr.QcJ e2.symm
  simp only[z]
  exact⟨(Qe0 d e2.symm).symm,ZaL,λa ha=>by simp at ha,λ_ _ _ _ _ a ha=>by simp at ha,λ_ _ a ha=>by simp at ha⟩
section
variable (P:Program) (w:World) (K:PySem.W.Frag) (mg:Str->Option Value) (base:Heap)
def Known(k:Nat)(x:Str)(r:FnR):Prop:=∃f fd ps,Qb2 P w K mg base CX0 k f fd ps (spV K r.n r.den)/\mg x=some (.ref f)/\PySem.W.keepIn K (.ref f)=true∧
 ∀m,m<=r.dfl.length->∃ds dvs,Binds K fd ps ds/\QF dvs ds/\∀H,Rps K H (r.dfl.drop (r.dfl.length-m)) dvs []
def QcS(k:Nat)(Γ:List (Str×FnR)):Prop:=∀x r,look x Γ=some r->Known P w K mg base k x r
structure QhG (cs:List (Str×Int)):Prop where
 bn:∀x∈QnB,mg x=none
 cs:∀x i,look x cs=some i->∃t,mg x=some (.int i t)
end
section
variable {P:Program}{w:World}{K:PySem.W.Frag}{mg:Str->Option Value}{base:Heap}
theorem QcS.nil{k:Nat}:QcS P w K mg base k []:=λx r h=>by cases h
theorem Known.mono{j k:Nat}{x:Str}{r:FnR}(h:Known P w K mg base j x r)(hk:j<=k):Known P w K mg base k x r:=by
 obtain⟨f,fd,ps,h1,h2⟩:=h
 exact⟨f,fd,ps,h1.mono hk,h2⟩
theorem QcS.cons{k:Nat}{Γ:List (Str×FnR)}{x:Str}{r:FnR}(t:QcS P w K mg base k Γ)(h:Known P w K mg base (k+1) x r):QcS P w K mg base (k+1) ((x,r)::Γ):=λy q e=>by
 unfold look at e
 split at e
 ·rename_i z;cases e;subst z;exact h
 ·exact(t y q e).mono (Zbo _)
noncomputable def namesOf(sc:Scope):List Str:=(sc.names.filter λy=>Qv1 y.2).map (·.1)
noncomputable def QlW(st:Stmt)(Γ:List (Str×FnR))(cs:List (Str×Int)):Th:=⟨namesOf (QD st),(QD st).names,Γ,cs,λ_=>none⟩
theorem QxS{CX:CXT}{xe:Value->Shared->Prop}{st:Stmt}{ps:List Str}{qual:Str}{f:Addr}{cdv:Value}{A:Around}{outer:List Env}{s:Shared}{H:Hp}{E:XK}{k:Nat}{Γ:List (Str×FnR)}{cs:List (Str×Int)}(S:QdJ (namesOf (QD st)) ps (QD st))(M:QhG mg cs)(tab:QcS P w K mg base k Γ)
  (hr:QaT k (A.deeper (envOfC qual (QD st) s.heap.objs.size f cdv))) (hp:PassesOwn (model P w) (A.deeper (envOfC qual (QD st) s.heap.objs.size f cdv)) (envOfC qual (QD st) s.heap.objs.size f cdv) xe):
  QaG ((QiK CX P w K mg base (namesOf (QD st)) qual (QD st) f cdv A outer s H E).Qe1 xe) (QlW st Γ cs) where
 N:=rfl
 nd:=S.nd
 lc:=λx h=>by rw[Qb7]at h;exact h
 ce:=λx h=>by rw[Qb7]at h;exact⟨h,rfl⟩
 fe:=λx h=>by rw[Qb7]at h;exact absurd rfl (S.nofree _ (Zal h))
 gl:=λx h=>by rw[Qb7]at h;exact h
 calm:=decide_eq_true hr.hd
 pass:=hp
 tr:=λ_ _ h=>by cases h
 units:=hr.units
 mg:=M.bn
 fns:=λx r h=>by
  obtain⟨f',fd,ps',h1,h2,h3,h4⟩:=tab x r h
  exact⟨k,f',fd,ps',h1,hr,h2,h3,h4⟩
 cs:=M.cs
theorem Qyt{st:Stmt}{ps:List Str}{qual:Str}{f:Addr}{cdv:Value}{A:Around}{outer:List Env}{s:Shared}{H:Hp}{E:XK}{k:Nat}{Γ:List (Str×FnR)}{cs:List (Str×Int)}(S:QdJ (namesOf (QD st)) ps (QD st))(M:QhG mg cs)(tab:QcS P w K mg base k Γ)
  (hr:QaT k (A.deeper (envOfC qual (QD st) s.heap.objs.size f cdv))):QaG (QiK CX0 P w K mg base (namesOf (QD st)) qual (QD st) f cdv A outer s H E).nox (QlW st Γ cs):=QxS S M tab hr PassesOwn.never
theorem QsM{x qual:Str}{st:Stmt}{f:Addr}{fd:FuncData}{ps:List Str}{k n:Nat}{Γ:List (Str×FnR)}{cs:List (Str×Int)}{g:DS}(F:Fun K x qual st f fd)(S:QdJ (namesOf (QD st)) ps (QD st))(M:QhG mg cs)(tab:QcS P w K mg base k Γ)
  (hc:Qa1 n (QlW st Γ cs) (QcG st)=some g):Qb2 P w K mg base CX0 (k+1) f fd ps (spV K ps.length (Qn (namesOf (QD st)).length g)):=by
 refine F.ok S (QxY rfl) λcdv A outer s H vs Q E hr h=>?_
 obtain⟨ds,L,d,fr,rps,hl,hd,q⟩:=h
 refine⟨_,(Qwe n).Ss _ _ _ g (Qyt S M tab hr) hc H L,?_⟩
 obtain⟨F0,rel⟩:=Qs5 (N:=namesOf (QD st)) rps
 unfold Qn at hd
 obtain⟨o,ho,hd⟩:=bind1 hd
 refine⟨_,[],F0,o,rel,ho,?_⟩
 cases o with
 | nx ρ=>
  cases hd
  exact λσ H' F' rel'=>q .non H' [] ⟨rel'.same,.QkB,λa ha=>by simp at ha,λ_=>⟨ZaL,rfl,λa ha=>by simp at ha⟩⟩
 | bk ρ=>cases hd
 | ct ρ=>cases hd
 | rt d' fr'=>
  cases hd
  exact λv H' G r=>q v H' G r
structure Fact (K:PySem.W.Frag) (x:Str) (st:Stmt):Prop where
 ex:∃f fd,Fun K x x st f fd/\PySem.W.nsIn K mainGlobals x=some (some (.ref f))
theorem fact_mk{x:Str}{st:Stmt}{f:Addr}{oc:Value}{od an:Option Addr}{osl:Array (Option Value)}{kV doc pm cdv ct:Value}(a:PySem.W.nsIn K mainGlobals x=some (some (.ref f)))(l:K.lookup f=some ⟨oc,od,.func (PySem.W.fnOf x x (Qfx st) (QcG st) (QD st) .none kV doc pm an cdv ct),osl⟩)
  (c:PySem.W.codeIn K cdv x=true) (k:PySem.W.keepIn K (.ref f)=true):Fact K x st:=⟨f,_,Qzl l c k,a⟩
theorem l0{α:Type}{P:List α->Prop}(h:P []):∀l:List α,l.length=0->P l:=λl e=>(List.length_eq_zero_iff.mp e).symm▸h
theorem lc{α:Type}{n:Nat}{P:List α->Prop}(h:∀a,∀l:List α,l.length=n->P (a::l)):∀l:List α,l.length=n+1->P l
 | a::l,e=>h a l (Nat.succ.inj e)
def Qx(x:Str)(st:Stmt)(ps:List Str):Prop:=∀(kV doc pm:Value) (an:Option Addr) (cdv ct:Value) (us:List Value),us.length=ps.length->bindArgs (PySem.W.fnOf x x (Qfx st) (QcG st) (QD st) .none kV doc pm an cdv ct) ⟨us,[]⟩=pure (ps.zip us)
theorem Qy{h:Heap}{x:Str}{st:Stmt}{ps:List Str}{k n:Nat}{Γ:List (Str×FnR)}{cs:List (Str×Int)}{g:DS}(X:K.In h)(G:h.Ns mainGlobals mg)(F:Fact K x st)(S:QdJ (namesOf (QD st)) ps (QD st))(B:Qx x st ps)(M:QhG mg cs)(tab:QcS P w K mg base k Γ)
  (hc:Qa1 n (QlW st Γ cs) (QcG st)=some g):Known P w K mg base (k+1) x ⟨ps.length,[],Qn (namesOf (QD st)).length g⟩:=by
 obtain⟨f,fd,Fn,a⟩:=F.ex
 refine⟨f,fd,ps,QsM Fn S M tab hc,Zcl X G a,Fn.kp,λm hm=>⟨[],[],Fn.binds (B ·),.nil,λH=>by simp[Rps]⟩⟩
end
end HS
namespace HS
open PySem PySem.Spec L2 PyProof.Rows
theorem Qlh:∀(ns:List Int) (n:Int),n∈ns->Builtin.Int.intBits n<=PySem.W.WData.weightAll (ns.map PySem.W.WData.int)
 | a::r,n,h=>by
  have e:PySem.W.WData.weight (.int a)=Builtin.Int.intBits a:=by simp only[PySem.W.WData.weight,Builtin.Int.intBits]
  simp only[ZJ,PySem.W.WData.weightAll,e]
  rcases Zq.mp h with rfl | h
  ·omega
  ·have:=Qlh r n h
   omega
theorem Qtv{ns:List Int}(h:PySem.W.WData.layableAll [.list (ns.map .int)]=true)(k:Nat):Builtin.Int.intBits (ns.getD k 0)<=2^20:=by
 have h1:=(PySem.W.layW_cons h).1
 simp only[PySem.W.WData.layable,Zj,decide_eq_true_eq,PySem.W.WData.weight]at h1
 rw[Zv]
 cases e:ns[k]? with
 | none=>show Builtin.Int.intBits 0<=2^20;decide
 | some n=>exact Zi (Qlh ns n (Zao e)) (of_decide_eq_true h1.2)
open PySem.W Att PySem.Calls in
theorem Qpj{l:OpenLaw}{n:Nat}{q:Program}{loose:List Str}{XP:(Str->Option Value)->Heap->Prop}{YP:World->Heap->Prop}{d:DefRec}
  (hn:l.most=some n) (hdf:d.params.defaults=[])
  (call:∀(w:World) (s₀ s₁:Shared) (mg mb:Str->Option Value) (fa:Addr) (o:Obj) (pm cd doc:Value) (a:Addr) (vs:List Value) (ns:List Int),
   Ground q loose [] XP w s₀ mg mb s₁.heap->YP w s₁.heap→
   s₁.heap.get? fa=some o->o.data= .func (docDef d.name d.params d.body d.scope pm cd doc)->s₁.heap.CodeRec cd d.name->mg d.name=some (.ref fa)→
   s₁.heap.get? a=some {cls:= .type "list",data:= .seq vs.toArray}->IntsAre vs ns->ns.length<=n->WData.layableAll [.list (ns.map .int)]=true->s₁.gens= #[]→
   codeAny (model l.prog w) callerA (.call (.ref fa) ⟨[.ref a],[]⟩) (λr s'=>r= .ok (.ret (.bool true))/\OldK s₁.heap s'.heap/\s'.os=s₁.os/\AllBare s'.gens) s₁):
  WalkO q loose XP YP l.row.toRowW d [] (λf vs=>PySem.call f vs):=by
 intro w s₀ s₁ mg mb G Y fa o pm cd doc dV kV ho hd hcd hD hmg hg args vals as hpre hlay hrd hwl hlo
 obtain rfl:dV= .none:=Dflts.none hD hdf
 obtain rfl:kV= .none:=Dflts.noKw hD
 obtain⟨a,vs,ns,rfl,rfl,hobj,hints,hlen⟩:=QmJ hn hpre hwl
 refine enter_call (codeAny_mono (call w s₀ s₁ mg mb fa o pm cd doc a vs ns G Y ho (fd_plain hd) hcd hmg hobj hints hlen hlay hg) λr s' hq=>?_)
 obtain⟨rfl,h2,h3,h4⟩:=hq
 exact⟨.inl ⟨.bool true,.bool true,[],rfl,λ_=>rfl,.bool true,QmD l _,λ_=>⟨List.Pairwise.nil,λ_ hm=>(nomatch hm)⟩⟩,h2,h3,h4⟩
theorem QsJ{l:PySem.W.OpenLaw}{k:Nat}{q:Program}{loose:List Str}{XP:(Str->Option Value)->Heap->Prop}{YP:World->Heap->Prop}{d:DefRec}{K:Params->PySem.W.Frag}{den:Den}{x:Str}
  (hn:l.most=some 63) (hdf:d.params.defaults=[]) (hr:QaT k callerA) (hY:∀(w:World) (h:Heap),YP w h->(K w.params).In h)
  (hden:∀ns:List Int,ns.length<=63->(∀k:Nat,Builtin.Int.intBits (ns.getD k 0)<=2^20)->∃fr,den [.lst (ns.map .int)]=some (.bl true,fr))
  (F:∀(w:World) (mg:Str->Option Value) (fa:Addr) (h:Heap),(K w.params).In h->h.Ns mainGlobals mg->mg d.name=some (.ref fa)→
   ∃fd:FuncData,(∀(s:Shared) (u:Value),BindsTo s fd ⟨[u],[]⟩ [(x,u)])∧
    ∀base:Heap,(K w.params).In base->base.Ns mainGlobals mg->Qb2 l.prog w (K w.params) mg base CX0 k fa fd [x] (spV (K w.params) 1 den)):
  PySem.W.WalkO q loose XP YP l.row.toRowW d [] (λf vs=>PySem.call f vs):=by
 refine Qpj hn hdf λw s₀ s₁ mg mb fa o pm cd doc a vs ns G Y ho hd hcd hmg hobj hints hlen hlay hg=>?_
 have KX:=hY w _ Y
 obtain⟨fd,hb,hF⟩:=F w mg fa _ KX G.T.g hmg
 have h63:(63:Nat)<=sizeLine:=by decide
 refine Qpi KX G.T.g G.T.b G.T.builtins G.T.nolimit hg hobj hints (Zi hlen h63) hr hF hb (λH hO hS=>?_) λH e s' z=>z
 have fx:Fix (K w.params) H a (ns.map V.int):=by
  rcases hS with(h | ⟨o,h⟩) | ⟨o,its,n,hk,hc,hdn,hda,hz,rv⟩
  ·rcases hO a with z | ⟨o,xs,z⟩<;>rw[h]at z<;>cases z
  ·exact .inl ⟨o,h⟩
  ·have e:=KX a o hk
   rw[hobj]at e
   cases e
   cases hda
   exact .inr ⟨vs,_,hk,by rw[Zs];exact Zi hlen h63,by simpa using rv⟩
 obtain⟨fr,hfr⟩:=hden ns hlen (Qtv hlay)
 have rp:Rp (K w.params) H (.lst (ns.map .int)) (.ref a) []:=by
  simp only[Rp]
  refine⟨by rw[Zs];exact Zi hlen h63,a,_,rfl,.inr ⟨fx,?_⟩⟩
  have gen:∀ns:List Int,Rps (K w.params) H (ns.map .int) (ns.map .int) []:=by
   intro ns
   induction ns with
   | nil=>simp[Rps]
   | cons n ns ih=>simp only[ZJ,Rps];exact⟨_,_,[],[],rfl,rfl,.int_mk,ih⟩
  exact gen ns
 refine⟨[.lst (ns.map .int)],[],.bl true,fr,?_,rfl,hfr,λv H' G r=>r.rp.Qiy⟩
 simp only[Rps]
 exact⟨_,_,[],[],rfl,rfl,rp,rfl,rfl⟩
theorem QAs{P:Program}{w:World}{K:PySem.W.Frag}{mg:Str->Option Value}{h:Heap}{x y:Str}{st:Stmt}{fa:Addr}{k n:Nat}{Γ:List (Str×FnR)}{cs:List (Str×Int)}{g:DS}(X:K.In h)(G:h.Ns mainGlobals mg)(hmg:mg x=some (.ref fa))
  (F:Fact K x st) (S:QdJ (namesOf (QD st)) [y] (QD st)) (B:Qx x st [y]) (M:QhG mg cs) (tab:∀base:Heap,QcS P w K mg base k Γ) (hc:Qa1 n (QlW st Γ cs) (QcG st)=some g):
  ∃fd:FuncData,(∀(s:Shared) (u:Value),BindsTo s fd ⟨[u],[]⟩ [(y,u)])∧
    ∀base:Heap,K.In base->base.Ns mainGlobals mg->Qb2 P w K mg base CX0 (k+1) fa fd [y] (spV K 1 (Qn (namesOf (QD st)).length g)):=by
 obtain⟨f,fd,Fn,a⟩:=F.ex
 have e:=hmg.symm.trans (Zcl X G a)
 cases e
 refine⟨fd,λs u=>?_,λbase _ _=>QsM Fn S M (tab base) hc⟩
 obtain⟨oc,od,kV,doc,pm,an,cdv,ct,osl,rfl,lk,hcd⟩:=Fn.ex
 exact .of_eq (B kV doc pm an cdv ct [u] rfl)
end HS
namespace HS
open PySem PySem.Spec PyProof.Rows L2
section
variable {P:Program}{w:World}{K:PySem.W.Frag}{mg:Str->Option Value}{base:Heap}
theorem Qrw{h:Heap}{x:Str}{st:Stmt}{ps:List Str}{k:Nat}(X:K.In h)(G:h.Ns mainGlobals mg)(F:Fact K x st)(B:Qx x st ps):Known P w K mg base k x ⟨ps.length,[],λ_=>none⟩:=by
 obtain⟨f,fd,Fn,a⟩:=F.ex
 refine⟨f,fd,ps,⟨λvs H Q E h=>?_,λA outer s H args us vs Q E _ _ _ _ h=>?_⟩,Zcl X G a,Fn.kp,λm hm=>⟨[],[],Fn.binds (B ·),.nil,λH=>by simp[Rps]⟩⟩
 ·obtain⟨ds,L,d,fr,rps,hl,hd,q⟩:=h
  cases hd
 ·obtain⟨ds,L,d,fr,rps,hl,hd,q⟩:=h
  cases hd
end
end HS
namespace HS
open PySem PySem.Spec L2 PyProof.Rows
section
variable {P:Program}{w:World}{H H':Hp}{h0 h h' B:Heap}{fs:List Addr}
def Cov(H:Hp)(B:Heap):Prop:=∀b u,H b=some u->∃o,B.get? b=some o
end
noncomputable def CXR(P:Program)(w:World):CXT:=λouter H s E e s'=>∃ea C H' B a0,e=Value.ref ea/\s'.os=s.os/\AllBare s'.gens/\Un (frs outer) [] H H' s.heap s'.heap/\HOk P w H' s'.heap/\Heap.FlyingW B outer ea C a0 s'.heap∧
 Cov H' B/\(∀b o,s.heap.get? b=some o->b∉frs outer->∃o',B.get? b=some o')/\E C none H'
def Qk4(X:Cx)(H0:Hp)(A0:List Addr)(hs:List (V×D×List Addr))(ρ:En)(C:Value)(ea:Addr)(s':Shared):Prop:=∃pins σ H F,Rel X.K H0 A0 hs ρ F σ H∧
 ((∃sg args,Inv X pins σ H sg/\Heap.MadeExcOf sg.heap s'.heap ea C args/\s'.os=sg.os/\s'.gens=sg.gens)∨
  ∃B a0,Inv X pins σ H s'/\Heap.FlyingW B X.stack ea C a0 s'.heap/\Cov H B/\(∀b o,X.s₀.heap.get? b=some o->b∉X.fs->∃o',B.get? b=some o')/\∀p∈X.pn++pins,∃o,B.get? p.1=some o)
end HS
namespace HS
open PySem PySem.Spec L2 PyProof.Rows
noncomputable abbrev DX:=En->Option (Str×En)
def ClsAt(K:PySem.W.Frag)(x:Str)(C:Addr):Prop:=PySem.W.nsIn K mainGlobals x=some (some (.ref C))
def cRz(X:Cx)(H0:Hp)(A0:List Addr)(fx:DX)(σ:L2.St)(H:Hp):Prop:=∃ρ hs F x ρ',Rel X.K H0 A0 hs ρ F σ H/\fx ρ=some (x,ρ')/\∀C ea s',ClsAt X.K x C->Qk4 X H0 A0 hs ρ' (.ref C) ea s'->X.xe (.ref ea) s'
noncomputable def tRz(X:Cx)(H0:Hp)(A0:List Addr)(fx:DX):TS:=λ_ σ H=>cRz X H0 A0 fx σ H
def Rz(X:Cx)(st:Stmt)(fx:DX):Prop:=∀H0 A0,PS X st (tRz X H0 A0 fx)
def RzS(X:Cx)(sts:List Stmt)(fx:DX):Prop:=∀H0 A0,PSs X sts (tRz X H0 A0 fx)
noncomputable def xNo:DX:=λ_=>none
noncomputable def Qx7(x:Str)(fs:DA):DX:=λρ=>(fs ρ).bind λr=>if r.ds.length<=1 then some (x,ρ)else none
noncomputable def QAn(n:Nat)(xd:List D->Option Str)(fs:DA):DX:=λρ=>(fs ρ).bind λr=>if r.ds.length=n then(xd r.ds).map λc=>(c,ρ)else none
noncomputable def xIf(g:DT)(fa fb:DX):DX:=λρ=>(g ρ).bind λb=>if b=true then fa ρ else fb ρ
noncomputable def QBF(f:DS)(fx fr:DX):DX:=λρ=>match f ρ with
 | some (.nx ρ')=>fr ρ'
 | some _=>none
 | none=>fx ρ
noncomputable def Qrh(t:Tg)(fb:DS)(fx:DX):List D->DX
 | [],_=>none
 | d::ds,ρ=>(Qcf t d ρ).bind λρ1=>match fb ρ1 with
  | some (.nx ρ2)=>Qrh t fb fx ds ρ2
  | some (.ct ρ2)=>Qrh t fb fx ds ρ2
  | some _=>none
  | none=>fx ρ1
noncomputable def QA7(fi:DI)(t:Tg)(fb:DS)(fx:DX):DX:=λρ=>(fi ρ).bind λir=>Qrh t fb fx ir.items (Qbc ir.M ρ)
noncomputable def spX(K:PySem.W.Frag)(n:Nat)(xd:List D->Option Str):Sp:=λvs H _ E=>∃ds L x,Rps K H ds vs L/\ds.length=n/\xd ds=some x/\∀C H',ClsAt K x C->QU H H'->E (.ref C) none H'
section
variable {X:Cx}{st:Stmt}{sts:List Stmt}{e:Expr}{es:List Expr}{fs:DA}{f:DS}{fx fr fy:DX}{g:DT}{pos p np cpos:Pos}{x:Str}{k n:Nat}{fa:Addr}{fd:FuncData}{ps:List Str}{xd:List D->Option Str}
theorem Qk4.hold{H0:Hp}{A0:List Addr}{hs ts:List (V×D×List Addr)}{ρ:En}{C:Value}{ea:Addr}{s':Shared}(h:Qk4 X H0 A0 (ts++hs) ρ C ea s'):Qk4 X H0 A0 hs ρ C ea s':=by
 obtain⟨pins,σ,H,F,rel,q⟩:=h
 exact⟨pins,σ,H,F,rel.QnM,q⟩
end
noncomputable abbrev QBh:List Value:=[.type "ValueError",.type "Exception",.type "BaseException",.type "object"]
structure QA9 (K:PySem.W.Frag) (x:Str):Prop where
 ex:∃C,ClsAt K x C/\PySem.W.excIn K C QBh "ValueError.__new__" =true
section
variable {X:Cx}{e:Expr}{fs:DA}{x:Str}{np cpos pos:Pos}
end
end HS
namespace HS
open PySem PySem.Spec L2 PyProof.Rows
structure ThX where
 Γx:List (Str×(Nat×(List D->Option Str)))
 cls:List Str
structure XOk (X:Cx) (ΘX:ThX):Prop where
 ex:X.ex=[]
 stk:X.stack=X.env::X.outer
 fr:X.env.frame=some X.env.locals
 fx:∀x r,look x ΘX.Γx=some r->∃k f fd ps,Qb2 X.prog X.w X.K X.mg X.base (CXR X.prog X.w) k f fd ps (spX X.K r.1 r.2)/\QaT k X.A/\X.mg x=some (.ref f)/\PySem.W.keepIn X.K (.ref f)=true/\Binds X.K fd ps []/\ps.length=r.1
 cl:∀x∈ΘX.cls,QA9 X.K x
noncomputable def xcE(n:Nat)(Θ:Th)(ΘX:ThX)(e:Expr):DX:=match e with
 | .Call (.Name x _) (a::as) [] _=>if Θ.gl x then(match look x ΘX.Γx with
  | some r=>(match QbE n Θ (a::as)with | some fs=>QAn r.1 r.2 fs | none=>xNo)
  | none=>xNo)else xNo
 | _=>xNo
mutual
noncomputable def QvW(n:Nat)(Θ:Th)(ΘX:ThX)(st:Stmt):Option DX:=match n with
 | 0=>none
 | n+1=>match st with
  | .Raise (some (.Call (.Name x _) [a] [] _)) none _=>if Θ.gl x && ΘX.cls.contains x then(QbE n Θ [a]).map λfs=>Qx7 x fs else none
  | .Expr e _=>some (xcE n Θ ΘX e)
  | .Return (some e) _=>some (xcE n Θ ΘX e)
  | .Assign [.Name x _] e _=>(Θ.Qdo x).map λ_=>xcE n Θ ΘX e
  | .If c a b _=>(Qba n Θ c).bind λg=>(QiH n Θ ΘX a).bind λfa=>(QiH n Θ ΘX b).map λfb=>xIf g fa fb
  | .For tg iter body [] _=>(Qga Θ tg).bind λt=>(Qfo n Θ tg iter).bind λfi=>(Qa1 n Θ body).bind λfb=>(QiH n Θ ΘX body).map λfx=>QA7 fi t fb fx
  | _=>some xNo
noncomputable def QiH(n:Nat)(Θ:Th)(ΘX:ThX)(sts:List Stmt):Option DX:=match n with
 | 0=>none
 | n+1=>match sts with
  | []=>some xNo
  | st::r=>(QkR n Θ st).bind λf=>(QvW n Θ ΘX st).bind λfx=>(QiH n Θ ΘX r).map λfr=>QBF f fx fr
end
section
variable {X:Cx}{Θ:Th}{ΘX:ThX}
structure QBZ (n:Nat):Prop where
 X:∀X Θ ΘX st f,QaG X Θ->XOk X ΘX->QvW n Θ ΘX st=some f->Rz X st f
 Xs:∀X Θ ΘX sts f,QaG X Θ->XOk X ΘX->QiH n Θ ΘX sts=some f->RzS X sts f
end
section
variable (P:Program) (w:World) (K:PySem.W.Frag) (mg:Str->Option Value) (base:Heap)
def Qh6(k:Nat)(x:Str)(r:Nat×(List D->Option Str)):Prop:=∃f fd ps,Qb2 P w K mg base (CXR P w) k f fd ps (spX K r.1 r.2)/\mg x=some (.ref f)/\PySem.W.keepIn K (.ref f)=true/\Binds K fd ps []/\ps.length=r.1
def QiI(k:Nat)(Γx:List (Str×(Nat×(List D->Option Str)))):Prop:=∀x r,look x Γx=some r->Qh6 P w K mg base k x r
end
section
variable {P:Program}{w:World}{K:PySem.W.Frag}{mg:Str->Option Value}{base:Heap}
theorem QiI.nil{k:Nat}:QiI P w K mg base k []:=λx r h=>by cases h
theorem Qh6.mono{j k:Nat}{x:Str}{r:Nat×(List D->Option Str)}(h:Qh6 P w K mg base j x r)(hk:j<=k):Qh6 P w K mg base k x r:=by
 obtain⟨f,fd,ps,h1,h2⟩:=h
 exact⟨f,fd,ps,h1.mono hk,h2⟩
theorem QiI.mono{j k:Nat}{Γ:List (Str×(Nat×(List D->Option Str)))}(t:QiI P w K mg base j Γ)(hk:j<=k):QiI P w K mg base k Γ:=λx r e=>(t x r e).mono hk
theorem QiI.cons{k:Nat}{Γ:List (Str×(Nat×(List D->Option Str)))}{x:Str}{r:Nat×(List D->Option Str)}(t:QiI P w K mg base k Γ)(h:Qh6 P w K mg base (k+1) x r):QiI P w K mg base (k+1) ((x,r)::Γ):=λy q e=>by
 unfold look at e
 split at e
 ·rename_i z;cases e;subst z;exact h
 ·exact(t y q e).mono (Zbo _)
theorem QcS.up{j k:Nat}{Γ:List (Str×FnR)}(t:QcS P w K mg base j Γ)(hk:j<=k):QcS P w K mg base k Γ:=λx r e=>(t x r e).mono hk
end
end HS
namespace HS
open PySem PySem.Spec L2 PyProof.Rows
section
variable {X:Cx}{pins:List (Addr×Obj)}{σ:L2.St}{H:Hp}{s s':Shared}{B:Heap}
end
end HS
namespace HS
open PySem PySem.Spec L2 PyProof.Rows
noncomputable abbrev inH(X:Cx)(ea:Addr):Cx:={X with A:=X.A.mark (some (.ref ea)),calm:=false,xe:=λ_ _=>False}
section
variable {X:Cx}{pins:List (Addr×Obj)}{σ:L2.St}{H:Hp}{s s':Shared}{B:Heap}{ea C:Addr}
theorem _root_.L2.Inv.inH(I:Inv X pins σ H s):Inv (HS.inH X ea) pins σ H s:=
 ⟨⟨I.ok.mod,I.ok.kind,I.ok.glob,I.ok.blt,I.ok.above,I.ok.inj,I.ok.has,I.ok.cab,λz=>(by cases z),I.ok.frames,I.ok.stk,I.ok.exf,I.ok.bs,I.ok.bsz,I.ok.noex,I.ok.exfs,I.ok.Qd7,I.ok.frf⟩,I.os,I.bare,I.base,I.loc,I.cell,I.free,I.freeC,I.pin,I.hok,I.len⟩
theorem _root_.L2.Inv.Qo6(ok:X.Ok)(I:Inv (HS.inH X ea) pins σ H s):Inv X pins σ H s:=⟨ok,I.os,I.bare,I.base,I.loc,I.cell,I.free,I.freeC,I.pin,I.hok,I.len⟩
def QAr(K:PySem.W.Frag)(sub:Str->Str->Option Bool):Prop:=∀x y b,sub x y=some b->∃C c,ClsAt K x C/\PySem.W.KtsName K y c/\PySem.W.exmOne K (.ref C) c=some b
noncomputable abbrev Hd:=Str×Option Nat×DS
theorem _root_.L2.SP.Qo6{Dd:Ends}{f:Flow}(ok:X.Ok)(h:SP (HS.inH X ea) pins Dd f s):SP X pins Dd f s:=by
 cases f with
 | next=>obtain⟨σ',H',I,q⟩:=h;exact⟨σ',H',I.Qo6 ok,q⟩
 | brk=>obtain⟨σ',H',I,q⟩:=h;exact⟨σ',H',I.Qo6 ok,q⟩
 | cont=>obtain⟨σ',H',I,q⟩:=h;exact⟨σ',H',I.Qo6 ok,q⟩
 | ret u=>obtain⟨v,σ',H',I,r,q⟩:=h;exact⟨v,σ',H',I.Qo6 ok,r,q⟩
noncomputable abbrev Cx.chg(X:Cx)(xe:Value->Shared->Prop)(pn:List (Addr×Obj)):Cx:={X with xe:=xe,pn:=pn}
theorem _root_.L2.Inv.chg{xe:Value->Shared->Prop}(I:Inv X pins σ H s):Inv (Cx.chg X xe (X.pn++pins)) [] σ H s:=
 ⟨⟨I.ok.mod,I.ok.kind,I.ok.glob,I.ok.blt,I.ok.above,I.ok.inj,I.ok.has,I.ok.cab,I.ok.hd,I.ok.frames,I.ok.stk,I.ok.exf,I.ok.bs,I.ok.bsz,I.ok.noex,I.ok.exfs,I.ok.Qd7,I.ok.frf⟩,I.os,I.bare,I.base,I.loc,I.cell,I.free,I.freeC,λp hp=>I.pin p (by simpa using hp),I.hok,I.len⟩
theorem _root_.L2.Inv.QBW{xe:Value->Shared->Prop}{pins':List (Addr×Obj)}(ok:X.Ok)(I:Inv (Cx.chg X xe (X.pn++pins)) pins' σ H s):Inv X pins σ H s:=
 ⟨ok,I.os,I.bare,I.base,I.loc,I.cell,I.free,I.freeC,λp hp=>I.pin p (Zd _ hp),I.hok,I.len⟩
end
end HS
namespace HS
open PySem PySem.Spec L2 PyProof.Rows PySem.W
structure Qzm (K:Frag) (C:Addr):Prop where
 cl:(clsIn K C).isSome=true
 ga:findIn K (.ref C) "__getattribute__" =some (some (.builtin "BaseException.__getattribute__"))
 hk:findIn K (.ref C) "__getattr__" =some none
 ca:findIn K (.ref C) "__class__" =some (some (.builtin "object.__class__"))
 mo:mroIn K C (.type "object")=some true
 be:subIn K (.ref C) (.type "BaseException")=some true
section
variable {prog:Program}{w:World}{A:Around}{E:Value->Shared->Prop}{s:Shared}{K:Frag}{a C:Addr}
end
end HS
namespace HS
open PySem PySem.Spec L2 PyProof.Rows
def QxD(K:PySem.W.Frag)(x y:Str)(b:Bool):Prop:=∃C c,ClsAt K x C/\PySem.W.KtsName K y c/\PySem.W.exmOne K (.ref C) c=some b/\PySem.W.kitOne K (.ref C) c=some b/\Qzm K C
def Qk8(K:PySem.W.Frag)(sub:Str->Str->Option Bool):Prop:=∀x y b,sub x y=some b->QxD K x y b
theorem Qk8.ok{K:PySem.W.Frag}{sub:Str->Str->Option Bool}(h:Qk8 K sub):QAr K sub:=λx y b e=>by
 obtain⟨C,c,h1,h2,h3,_⟩:=h x y b e
 exact⟨C,c,h1,h2,h3⟩
noncomputable def anyS(sub:Str->Str->Option Bool)(x:Str):List Str->Option Bool
 | []=>some false
 | y::r=>(sub x y).bind λb=>(anyS sub x r).map λd=>b || d
noncomputable def Qy2(sub:Str->Str->Option Bool)(ys:List Str)(fa:DE):DE:=λρ=>(fa ρ).bind λr=>match r.d with
 | .exc x=>(anyS sub x ys).map λb=>⟨.bl b,true,[]⟩
 | _=>none
section
variable {X:Cx}{a:Expr}{fa:DE}{p p2 pos:Pos}{sub:Str->Str->Option Bool}
end
end HS
namespace HS
open PySem PySem.Spec L2 PyProof.Rows
structure QdM (k:Nat) (A:Around):Prop where
 dp:A.depth+3*k+5<recursionLimit
 un:A.units+16*k+200<cLine
theorem QdM.mono{j k:Nat}{A:Around}(r:QdM k A)(h:j<=k):QdM j A:=⟨by have:=r.dp;omega,by have:=r.un;omega⟩
theorem QdM.deeper{k:Nat}{A:Around}(r:QdM (k+1) A)(env:Env):QdM k (A.deeper env):=
 ⟨by have:=r.dp;show A.depth+1+3*k+5<_;omega,by have:=r.un;show A.units+3+16*k+200<_;omega⟩
theorem QdM.units{k:Nat}{A:Around}(r:QdM k A):A.units+64<cLine:=by have:=r.un;omega
theorem QdM.mark{k:Nat}{A:Around}{v:Option Value}(r:QdM k A):QdM k (A.mark v):=⟨r.dp,r.un⟩
structure FnH (P:Program) (w:World) (K:PySem.W.Frag) (mg:Str->Option Value) (base:Heap) (k:Nat) (f:Addr) (fd:FuncData) (ps:List Str) (sp:Sp):Prop where
 len:∀vs H Q E,sp vs H Q E->vs.length=ps.length
 run:∀(A:Around) (outer:List Env) (s:Shared) (H:Hp) (args:Args) (us:List Value) (vs:List V) (Q:VK) (E:XK),QdM k A->Qf6 P w K mg base A outer s H->BindsTo s fd args (ps.zip us)->QF vs us->sp vs H Q E→
  codeAny (model P w) A (.call (.ref f) args) (CR CX0 outer P w H s Q E) s
section
variable {P:Program}{w:World}{K:PySem.W.Frag}{mg:Str->Option Value}{base:Heap}
theorem FnH.mono{j k:Nat}{f:Addr}{fd:FuncData}{ps:List Str}{sp:Sp}(F:FnH P w K mg base j f fd ps sp)(h:j<=k):FnH P w K mg base k f fd ps sp:=⟨F.len,λA outer s H args us vs Q E hr=>F.run A outer s H args us vs Q E (hr.mono h)⟩
end
section
variable {X:Cx}{e:Expr}{es:List Expr}{fs:DA}{pos p:Pos}{x:Str}{n k:Nat}{f:Addr}{fd:FuncData}{ps:List Str}{den:Den}
end
def Qoc(X:Cx)(hΓ:List (Str×FnR)):Prop:=∀x r,look x hΓ=some r->∃k f fd ps,FnH X.prog X.w X.K X.mg X.base k f fd ps (spV X.K r.n r.den)/\QdM k X.A/\X.mg x=some (.ref f)/\PySem.W.keepIn X.K (.ref f)=true/\Binds X.K fd ps []
theorem Qoc.inH{X:Cx}{hΓ:List (Str×FnR)}{ea:Addr}(h:Qoc X hΓ):Qoc (HS.inH X ea) hΓ:=λx r e=>by
 obtain⟨k,f,fd,ps,h1,h2,h3⟩:=h x r e
 exact⟨k,f,fd,ps,h1,h2.mark,h3⟩
section
variable (P:Program) (w:World) (K:PySem.W.Frag) (mg:Str->Option Value) (base:Heap)
def Qit(k:Nat)(x:Str)(r:FnR):Prop:=∃f fd ps,FnH P w K mg base k f fd ps (spV K r.n r.den)/\mg x=some (.ref f)/\PySem.W.keepIn K (.ref f)=true/\Binds K fd ps []
def QiA(k:Nat)(Γ:List (Str×FnR)):Prop:=∀x r,look x Γ=some r->Qit P w K mg base k x r
end
section
variable {P:Program}{w:World}{K:PySem.W.Frag}{mg:Str->Option Value}{base:Heap}
theorem QiA.nil{k:Nat}:QiA P w K mg base k []:=λx r h=>by cases h
theorem Qit.mono{j k:Nat}{x:Str}{r:FnR}(h:Qit P w K mg base j x r)(hk:j<=k):Qit P w K mg base k x r:=by
 obtain⟨f,fd,ps,h1,h2⟩:=h
 exact⟨f,fd,ps,h1.mono hk,h2⟩
theorem QiA.mono{j k:Nat}{Γ:List (Str×FnR)}(t:QiA P w K mg base j Γ)(hk:j<=k):QiA P w K mg base k Γ:=λx r e=>(t x r e).mono hk
theorem QiA.cons{k:Nat}{Γ:List (Str×FnR)}{x:Str}{r:FnR}(t:QiA P w K mg base k Γ)(h:Qit P w K mg base (k+1) x r):QiA P w K mg base (k+1) ((x,r)::Γ):=λy q e=>by
 unfold look at e
 split at e
 ·rename_i z;cases e;subst z;exact h
 ·exact(t y q e).mono (Zbo _)
end
end HS
namespace HS
open PySem PySem.Spec L2 PyProof.Rows
mutual
noncomputable def QcP(n:Nat)(Θ:Th)(sub:Str->Str->Option Bool)(hΓ:List (Str×FnR))(e:Expr):Option DE:=match n with
 | 0=>none
 | n+1=>match e with
  | .Name x _=>(Θ.slot x).map Qa
  | .Constant (.bool b) _ _=>some (dC (.bl b))
  | .Constant (.str x) _ _=>some (dC (.str x))
  | .UnaryOp .Not a _=>(QcP n Θ sub hΓ a).map QrG
  | .BoolOp .And [a] _=>QcP n Θ sub hΓ a
  | .BoolOp .And (a::b::r) p=>(QcP n Θ sub hΓ a).bind λfa=>(QcP n Θ sub hΓ (.BoolOp .And (b::r) p)).map λfb=>Qd3 fa fb
  | .BoolOp .Or [a] _=>QcP n Θ sub hΓ a
  | .BoolOp .Or (a::b::r) p=>(QcP n Θ sub hΓ a).bind λfa=>(QcP n Θ sub hΓ (.BoolOp .Or (b::r) p)).map λfb=>dOr fa fb
  | .Compare a [.Eq] [b] _=>(QcP n Θ sub hΓ a).bind λfa=>(QcP n Θ sub hΓ b).map λfb=>dOp gEq fa fb
  | .Compare a [.NotEq] [b] _=>(QcP n Θ sub hΓ a).bind λfa=>(QcP n Θ sub hΓ b).map λfb=>dOp gNe fa fb
  | .Call (.Name f _) [a,.Name y _] [] _=>if f= "isinstance" /\Θ.gl "isinstance" =true/\Θ.gl y=true then(QcP n Θ sub hΓ a).map λfa=>Qy2 sub [y] fa else none
  | .Call (.Name f _) [a,.Tuple es _ _] [] _=>if f= "isinstance" /\Θ.gl "isinstance" =true then(es.mapM QnV).bind λys=>if ys.all Θ.gl=true/\ys≠[]/\ys.length<=60 then(QcP n Θ sub hΓ a).map λfa=>Qy2 sub ys fa else none else none
  | .Call (.Name x _) (a::as) [] _=>if Θ.gl x=true then(look x hΓ).bind λr=>(QkD n Θ sub hΓ (a::as)).map λfs=>Qj r.n r.den [] fs else none
  | .List es _=>(QkD n Θ sub hΓ es).map QaC
  | _=>none
noncomputable def QkD(n:Nat)(Θ:Th)(sub:Str->Str->Option Bool)(hΓ:List (Str×FnR))(es:List Expr):Option DA:=match n with
 | 0=>none
 | n+1=>match es with
  | []=>some Qg
  | e::es=>(QcP n Θ sub hΓ e).bind λfa=>(QkD n Θ sub hΓ es).map λfs=>Qc fa fs
end
structure QBX (n:Nat):Prop where
 E:∀X Θ sub hΓ e f,CtxB X Θ->Qk8 X.K sub->Qoc X hΓ->QcP n Θ sub hΓ e=some f->SE X e f
 A:∀X Θ sub hΓ es f,CtxB X Θ->Qk8 X.K sub->Qoc X hΓ->QkD n Θ sub hΓ es=some f->SA X es f
section
variable {P:Program}{w:World}{K:PySem.W.Frag}{mg:Str->Option Value}{base:Heap}
end
end HS
namespace HS
open PySem PySem.Spec L2 PyProof.Rows
section
variable {K:PySem.W.Frag}{x y:Str}{C C':Addr}{v:Bool}
def XK1(K:PySem.W.Frag)(x:Str):Prop:=∃C,ClsAt K x C/\Qzm K C
def Qwa(K:PySem.W.Frag)(x y:Str)(b:Bool):Prop:=∃C c,ClsAt K x C/\PySem.W.KtsName K y c/\PySem.W.exmOne K (.ref C) c=some b/\PySem.W.kitOne K (.ref C) c=some b
noncomputable def Ql4(K:PySem.W.Frag)(x:Str):List (Str×Bool)->Prop
 | []=>True
 | q::r=>Qwa K x q.1 q.2/\Ql4 K x r
noncomputable def SubL(K:PySem.W.Frag):List (Str×List (Str×Bool))->Prop
 | []=>True
 | q::r=>(XK1 K q.1/\Ql4 K q.1 q.2)/\SubL K r
theorem Ql4.mem:∀{r:List (Str×Bool)},Ql4 K x r->∀q∈r,Qwa K x q.1 q.2
 | [],_,q,h=>by simp at h
 | p::r,h,q,hq=>by
  rcases Zq.mp hq with rfl | hq
  ·exact h.1
  ·exact Ql4.mem h.2 q hq
theorem SubL.mem:∀{t:List (Str×List (Str×Bool))},SubL K t->∀q∈t,XK1 K q.1/\Ql4 K q.1 q.2
 | [],_,q,h=>by simp at h
 | p::r,h,q,hq=>by
  rcases Zq.mp hq with rfl | hq
  ·exact h.1
  ·exact SubL.mem h.2 q hq
end
end HS
namespace HS
open PySem L2
noncomputable def pairD(p:Int×Int):D:= .tup [.int p.1,.int p.2]
noncomputable def QcH(p:Int×Int×Bool):D:= .tup [.int p.1,.int p.2.1,.bl p.2.2]
noncomputable def Qa5(ns:List Int):D:= .lst (ns.map .int)
noncomputable def QT(ps:List (Int×Int)):D:= .lst (ps.map pairD)
noncomputable def QR(m:Int)(R L:List (Int×Int)):D:= .tup [.int m,QT R,QT L]
theorem Qce{α:Type}{f:α->D}(h:∀a,(f a).flat=true):∀l:List α,Qak (l.map f)=true
 | []=>rfl
 | a::l=>by simp[Qak,h a,Qce h l]
@[simp] theorem QBL(i:Int):(D.int i).flat=true:=rfl
@[simp] theorem QBQ(i:Bool):(D.bl i).flat=true:=rfl
@[simp] theorem QBN:D.non.flat=true:=rfl
@[simp] theorem QBo(x:Str):(D.str x).flat=true:=rfl
@[simp] theorem QA8(xs:List D):(D.lst xs).flat=false:=rfl
@[simp] theorem QA5(xs:List D):(D.tup xs).flat=Qak xs:=rfl
@[simp] theorem QAX:Qak []=true:=rfl
@[simp] theorem QAK(d:D)(ds:List D):Qak (d::ds)=(d.flat && Qak ds):=rfl
@[simp] theorem QA1(p:Int×Int):(pairD p).flat=true:=rfl
@[simp] theorem QA4(p:Int×Int×Bool):(QcH p).flat=true:=rfl
@[simp] theorem QA0(ns:List Int):(Qa5 ns).flat=false:=rfl
@[simp] theorem Qz4(ns:List (Int×Int)):(QT ns).flat=false:=rfl
@[simp] theorem QzX(ps:List (Int×Int)):Qak (ps.map pairD)=true:=Qce (λ_=>rfl) _
@[simp] theorem Qq6(ps:List (Int×Int×Bool)):Qak (ps.map QcH)=true:=Qce (λ_=>rfl) _
@[simp] theorem Qry(ns:List Int):Qak (ns.map .int)=true:=Qce (λ_=>rfl) _
@[simp] theorem QAY(xs ys:List D):Qak (xs++ys)=(Qak xs && Qak ys):=Qdw xs ys
def Run(f:DS)(ρ:En)(Q:Out->Prop):Prop:=∃o,f ρ=some o/\Q o
noncomputable def Nx(Q:En->Prop):Out->Prop
 | .nx ρ=>Q ρ
 | _=>False
noncomputable def Rt(Q:D->Bool->Prop):Out->Prop
 | .rt d fr=>Q d fr
 | _=>False
theorem Run.mono{f:DS}{ρ:En}{Q Q':Out->Prop}(h:Run f ρ Q)(m:∀o,Q o->Q' o):Run f ρ Q':=let ⟨o,h1,h2⟩:=h;⟨o,h1,m o h2⟩
theorem Qt{ρ:En}{Q:Out->Prop}(h:Q (.nx ρ)):Run Qp ρ Q:=⟨_,rfl,h⟩
theorem run_seq{f g:DS}{ρ:En}{Q:Out->Prop}(h:Run f ρ (Nx λρ'=>Run g ρ' Q)):Run (Qe f g) ρ Q:=by
 obtain⟨o,h1,h2⟩:=h
 cases o with
 | nx ρ'=>
  obtain⟨o',h3,h4⟩:=h2
  exact⟨o',by simp[Qe,h1,h3],h4⟩
 | _=>exact False.elim h2
theorem QH{f g:DS}{ρ:En}{Q:Out->Prop}(h:Run f ρ λo=>match o with | .nx ρ'=>Run g ρ' Q | o=>Q o):Run (Qe f g) ρ Q:=by
 obtain⟨o,h1,h2⟩:=h
 cases o with
 | nx ρ'=>
  obtain⟨o',h3,h4⟩:=h2
  exact⟨o',by simp[Qe,h1,h3],h4⟩
 | bk ρ'=>exact⟨_,by simp[Qe,h1],h2⟩
 | ct ρ'=>exact⟨_,by simp[Qe,h1],h2⟩
 | rt d fr=>exact⟨_,by simp[Qe,h1],h2⟩
theorem Qh{i:Nat}{fa:DE}{r:R}{ρ:En}{Q:Out->Prop}(h:fa ρ=some r)(q:Q (.nx (asg i r ρ))):Run (Qo i fa) ρ Q:=⟨_,by simp[Qo,h],q⟩
theorem Qca{fa:DE}{r:R}{ρ:En}{Q:Out->Prop}(h:fa ρ=some r)(q:Q (.rt r.d (r.norm.fr && decide r.norm.M.Nodup))):Run (QP fa) ρ Q:=⟨_,by simp[QP,h],q⟩
theorem Qaa{g:DT}{f1 f2:DS}{b:Bool}{ρ:En}{Q:Out->Prop}(h:g ρ=some b)(q1:b=true->Run f1 ρ Q)(q2:b=false->Run f2 ρ Q):Run (sIf g f1 f2) ρ Q:=by
 cases b with
 | true=>obtain⟨o,h1,h2⟩:=q1 rfl;exact⟨o,by simp[sIf,h,h1],h2⟩
 | false=>obtain⟨o,h1,h2⟩:=q2 rfl;exact⟨o,by simp[sIf,h,h1],h2⟩
theorem QX{k:Nat}{f:DS}{ds:List D}{d:D}{fr:Bool}(h:Run f (Qdf k ds) (Rt λd' fr'=>d'=d/\fr'=fr)):Qn k f ds=some (d,fr):=by
 obtain⟨o,h1,h2⟩:=h
 unfold Qn
 cases o with
 | rt d' fr'=>obtain⟨rfl,rfl⟩:=h2;rw[h1];rfl
 | _=>exact False.elim h2
theorem Qpf{α:Type}{t:Tg}{fb:DS}{toD:α->D}{Q:Out->Prop}(I:Nat->En->Prop):∀(xs ys:List α) (ρ:En),I ys.length ρ→
  (∀i x ρ,(ys++xs)[i]? =some x->ys.length<=i->I i ρ->∃ρ1,Qcf t (toD x) ρ=some ρ1/\Run fb ρ1 λo=>match o with | .nx ρ2=>I (i+1) ρ2 | .ct ρ2=>I (i+1) ρ2 | .bk ρ2=>Q (.nx ρ2) | .rt d fr=>Q (.rt d fr))→
  (∀ρ,I (ys++xs).length ρ->Q (.nx ρ))->Run (QdX t fb (xs.map toD)) ρ Q
 | [],ys,ρ,h0,_,fin=>⟨_,rfl,fin ρ (by simpa using h0)⟩
 | x::xs,ys,ρ,h0,turn,fin=>by
  obtain⟨ρ1,h1,o,h2,h3⟩:=turn ys.length x ρ (by simp) (Zh _) h0
  have next:∀ρ2,I (ys.length+1) ρ2->Run (QdX t fb (xs.map toD)) ρ2 Q:=λρ2 hi=>
   Qpf I xs (ys++[x]) ρ2 (by simpa using hi) (λi y ρ' e hl=>turn i y ρ' (by simpa using e) (by simp at hl;omega)) (λρ' h=>fin ρ' (by simpa using h))
  cases o with
  | nx ρ2=>obtain⟨o',e1,e2⟩:=next ρ2 h3;exact⟨o',by simp[QdX,h1,h2,e1],e2⟩
  | ct ρ2=>obtain⟨o',e1,e2⟩:=next ρ2 h3;exact⟨o',by simp[QdX,h1,h2,e1],e2⟩
  | bk ρ2=>exact⟨_,by simp[QdX,h1,h2],h3⟩
  | rt d fr=>exact⟨_,by simp[QdX,h1,h2],h3⟩
theorem QaF{α:Type}{fi:DI}{t:Tg}{fb:DS}{toD:α->D}{ρ:En}{ir:IR}{Q:Out->Prop}(xs:List α)(I:Nat->En->Prop)(h:fi ρ=some ir)(hx:ir.items=xs.map toD)(h0:I 0 (Qbc ir.M ρ))
  (turn:∀i x ρ,xs[i]? =some x->I i ρ->∃ρ1,Qcf t (toD x) ρ=some ρ1/\Run fb ρ1 λo=>match o with | .nx ρ2=>I (i+1) ρ2 | .ct ρ2=>I (i+1) ρ2 | .bk ρ2=>Q (.nx ρ2) | .rt d fr=>Q (.rt d fr))
  (fin:∀ρ,I xs.length ρ->Q (.nx ρ)):Run (Qbl fi t fb) ρ Q:=by
 obtain⟨o,h1,h2⟩:=Qpf (t:=t) (fb:=fb) (toD:=toD) (Q:=Q) I xs [] (Qbc ir.M ρ) h0 (λi x ρ e _=>turn i x ρ (by simpa using e)) (λρ h=>fin ρ (by simpa using h))
 exact⟨o,by simp[Qbl,h,hx,h1],h2⟩
theorem Qm1{α:Type}{t:Tg}{ft:DT}{fe:DE}{ρc:En}{toD:α->D}{keep:α->Bool}{out:α->D}:∀(xs:List α) (acc:List D),
  (∀x∈xs,∃ρ1,Qcf t (toD x) ρc=some ρ1/\ft ρ1=some (keep x)/\(keep x=true->∃r,fe ρ1=some r/\r.d=out x/\r.norm.fr=true))→
  (xs.map toD).foldlM (QgD t ft fe ρc) (acc,true)=some (acc++(xs.filter keep).map out,true)
 | [],acc,_=>by simp
 | x::xs,acc,h=>by
  obtain⟨ρ1,h1,h2,h3⟩:=h x Zp
  have ih:=λacc=>Qm1 xs acc (λy hy=>h y (Ze _ hy))
  cases hk:keep x with
  | false=>
   have e:QgD t ft fe ρc (acc,true) (toD x)=some (acc,true):=by simp[QgD,h1,h2,hk]
   simp[ZbT,e,ih,hk]
  | true=>
   obtain⟨r,h4,h5,h6⟩:=h3 hk
   have e:QgD t ft fe ρc (acc,true) (toD x)=some (acc++[out x],true):=by simp[QgD,h1,h2,hk,h4,h5,h6]
   simp[ZbT,e,ih,hk]
theorem QeL{α:Type}{fi:DI}{t:Tg}{cap:List (Option Nat)}{ft:DT}{fe:DE}{ρ:En}{ir:IR}{toD:α->D}{keep:α->Bool}{out:α->D}(xs:List α)(h:fi ρ=some ir)(hx:ir.items=xs.map toD)
  (turn:∀x∈xs,∃ρ1,Qcf t (toD x) (Qfv cap ρ)=some ρ1/\ft ρ1=some (keep x)/\(keep x=true->∃r,fe ρ1=some r/\r.d=out x/\r.norm.fr=true)):
  QM fi t cap ft fe ρ=some ⟨.lst ((xs.filter keep).map out),true,[]⟩:=by
 unfold QM
 rw[h,Za,hx,Qm1 xs [] turn]
 simp
theorem QN{α:Type}{fi:DI}{t:Tg}{cap:List (Option Nat)}{fe:DE}{ρ:En}{ir:IR}{toD:α->D}{out:α->D}(xs:List α)(h:fi ρ=some ir)(hx:ir.items=xs.map toD)
  (turn:∀x∈xs,∃ρ1,Qcf t (toD x) (Qfv cap ρ)=some ρ1/\∃r,fe ρ1=some r/\r.d=out x/\r.norm.fr=true):
  QM fi t cap QW fe ρ=some ⟨.lst (xs.map out),true,[]⟩:=by
 have:=QeL (keep:=λ_=>true) (ft:=QW) xs h hx (cap:=cap) (t:=t) (fe:=fe) (out:=out) λx hx=>by
  obtain⟨ρ1,h1,h2⟩:=turn x hx
  exact⟨ρ1,h1,rfl,λ_=>h2⟩
 rw[this,Zbj.mpr λ_ _=>rfl]
@[simp] theorem QBs(d:D):R.norm ⟨d,true,[]⟩=⟨d,true,[]⟩:=by unfold R.norm;split<;>rfl
@[simp] theorem Qi(i:Nat)(d:D)(ρ:En):asg i ⟨d,true,[]⟩ ρ=ρ.set i (some (d,true)):=by unfold asg;simp[kill]
theorem Qa7{i:Nat}{d:D}{fr:Bool}{M:List Nat}{ρ:En}(h:d.flat=true):asg i ⟨d,fr,M⟩ ρ=ρ.set i (some (d,true)):=by
 unfold asg R.norm;simp[h,kill]
theorem QaX{i:Nat}{ρ:En}{d:D}{b:Bool}(h:ρ[i]? =some (some (d,b))):Qa i ρ=some (if d.flat then⟨d,true,[]⟩else if b then⟨d,true,[i]⟩else⟨d,false,[]⟩):=by
 unfold Qa
 rw[h]
 dsimp only
 split
 ·simp_all
 ·split<;>simp_all
theorem Qpp{i:Nat}{ρ:En}{n:Int}{b:Bool}(h:ρ[i]? =some (some (.int n,b))):Qa i ρ=some ⟨.int n,true,[]⟩:=by rw[QaX h];rfl
@[simp] theorem QaL(d:D)(ρ:En):dC d ρ=some ⟨d,true,[]⟩:=rfl
theorem Qbb{g:D->D->Option D}{fa fb:DE}{ρ:En}{ra rb:R}{d:D}(ha:fa ρ=some ra)(hb:fb ρ=some rb)(h:g ra.d rb.d=some d):dOp g fa fb ρ=some ⟨d,true,[]⟩:=by simp[dOp,ha,hb,h]
theorem Qq{fa:DE}{fs:DA}{ρ:En}{r:R}{rs:RA}(ha:fa ρ=some r)(hs:fs ρ=some rs):Qc fa fs ρ=some ⟨r.d::rs.ds,r.fr && rs.fr,r.M++rs.M⟩:=by simp[Qc,ha,hs]
@[simp] theorem QS(ρ:En):Qg ρ=some ⟨[],true,[]⟩:=rfl
noncomputable def vf(d:D)(b:Bool)(i:Nat):R:=if d.flat then⟨d,true,[]⟩else if b then⟨d,true,[i]⟩else⟨d,false,[]⟩
@[simp] theorem QB0(d:D)(b:Bool)(i:Nat):(vf d b i).d=d:=by unfold vf;split;rfl;split<;>rfl
@[simp] theorem QuT(i j:Int)(h:0<=j):Qd6 i j=i % j:=by unfold Qd6;rw[if_pos h]
@[simp] theorem QoX(i j:Int)(h:0<=j):QeU i j=i / j:=by unfold QeU;rw[if_pos h]
theorem Qe2{i j:Int}(h:i.natAbs<2^64):Qet i j=true:=by unfold Qet;simp[h]
theorem QfB{i j:Int}(h:j.natAbs<2^64):Qet i j=true:=by unfold Qet;simp[h]
theorem Qc9{i j:Int}(h1:Builtin.Int.intBits i<=2^20)(h2:Builtin.Int.intBits j<=2^20):Qet i j=true:=by
 unfold Qet
 rw[decide_eq_true h1,decide_eq_true h2,Bool.and_self,Bool.or_true]
theorem Qgo:(sizeLine:Nat)=16777216:=sizeLine_eq
noncomputable def Qf(m:Nat)(f:Nat->Int):D:= .lst ((List.range m).map λi=> .int (f i))
noncomputable def Qd(m n:Nat)(f:Nat->Nat->Int):D:= .lst ((List.range m).map λi=>Qf n (f i))
@[simp] theorem QBG(m:Nat)(f:Nat->Int):(Qf m f).flat=false:=rfl
@[simp] theorem QBI(m n:Nat)(f:Nat->Nat->Int):(Qd m n f).flat=false:=rfl
@[simp] theorem QtJ(m:Nat)(f:Nat->Int):Qak ((List.range m).map λi=>D.int (f i))=true:=Qce (f:=λi=>D.int (f i)) (λ_=>rfl) _
noncomputable def up(f:Nat->Int)(i:Nat)(v:Int):Nat->Int:=λj=>if j=i then v else f j
noncomputable def up2(f:Nat->Nat->Int)(i j:Nat)(v:Int):Nat->Nat->Int:=λk=>if k=i then up (f k) j v else f k
theorem Qb5{n:Nat}{i:Int}(h0:0<=i)(h:i<n):ixN n i=some i.toNat:=by
 unfold ixN;rw[if_pos (by omega),if_pos (by omega)]
theorem Qi9{α:Type}{xs:List α}{i:Int}(h0:0<=i)(h:i<xs.length):atI xs i=xs[i.toNat]? :=by
 unfold atI;rw[Qb5 h0 h];rfl
theorem Qfm{α:Type}{m:Nat}{f:Nat->α}{i:Nat}{v:α}:((List.range m).map f).set i v=(List.range m).map λj=>if j=i then v else f j:=by
 apply Zbc
 intro k
 rw[ZbO]
 simp only[Zs,Zo,Zm]
 by_cases hk:k<m
 ·rw[ZH hk]
  by_cases e:i=k
  ·subst e;simp[hk]
  ·simp[e,Ne.symm e]
 ·rw[Zt (by simp;omega)]
  by_cases e:i=k
  ·subst e;simp[hk]
  ·simp[e]
theorem QlO{m:Nat}{f:Nat->Int}{i:Nat}{v:Int}:((List.range m).map λj=>D.int (f j)).set i (.int v)=(List.range m).map λj=>D.int (up f i v j):=by
 rw[Qfm]
 congr 1;funext j;unfold up;split<;>rfl
theorem Qxa{m:Nat}{f:Nat->Int}{i:Int}(h0:0<=i)(h:i<m):atI ((List.range m).map λj=>D.int (f j)) i=some (.int (f i.toNat)):=by
 rw[Qi9 h0 (by simpa using h),Zm,ZH (by omega)];rfl
theorem QlP{m n:Nat}{f:Nat->Nat->Int}{i:Int}(h0:0<=i)(h:i<m):atI ((List.range m).map λj=>Qf n (f j)) i=some (Qf n (f i.toNat)):=by
 rw[Qi9 h0 (by simpa using h),Zm,ZH (by omega)];rfl
theorem Qoi{x m:Nat}{f:Nat->Int}{fi fa:DE}{ρ:En}{i:Int}{v:Int}{ri ra:R}{Q:Out->Prop}(hx:ρ[x]? =some (some (Qf m f,true)))(hi:fi ρ=some ri)(ei:ri.d= .int i)(ha:fa ρ=some ra)(ea:ra.d= .int v)(h0:0<=i)(h:i<m)
  (q:Q (.nx (ρ.set x (some (Qf m (up f i.toNat v),true))))):Run (Qcj x Qal fi fa) ρ Q:=by
 refine⟨_,?_,q⟩
 have hn:ra.norm=⟨.int v,true,[]⟩:=by unfold R.norm;rw[ea];rfl
 unfold Qcj
 rw[ha,Za,hx]
 simp only[Qal,Za,hi,ei,Qa9,Qf,Zs,Zo,Qb5 h0 h,hn,ea,Qbt,QlO]
 simp[kill]
theorem QoF{g:D->D->Option D}{x m n:Nat}{f:Nat->Nat->Int}{fp fi fa:DE}{ρ:En}{i j w:Int}{rp ri ra:R}{Q:Out->Prop}(hx:ρ[x]? =some (some (Qd m n f,true)))(hp:fp ρ=some rp)(ep:rp.d= .int i)(hi:fi ρ=some ri)(ei:ri.d= .int j)(ha:fa ρ=some ra)
  (h0:0<=i) (h:i<m) (k0:0<=j) (k:j<n) (hg:g (.int (f i.toNat j.toNat)) ra.d=some (.int w)) (q:Q (.nx (ρ.set x (some (Qd m n (up2 f i.toNat j.toNat w),true))))):Run (Qgu g x (Qcm Qal fp) fi fa) ρ Q:=by
 refine⟨_,?_,q⟩
 have hj:((List.range n).map λk=>D.int (f i.toNat k))[j.toNat]? =some (.int (f i.toNat j.toNat)):=by rw[Zm,ZH (by omega)];rfl
 have hd:Qa9 (Qd m n f) [i]=some (Qf n (f i.toNat)):=by
  simp only[Qa9,Qd,D.items,Za,QlP h0 h]
 have hu:Qbt [i] (Qd m n f) (.lst (((List.range n).map λk=>D.int (f i.toNat k)).set j.toNat (.int w)))=Qd m n (up2 f i.toNat j.toNat w):=by
  simp only[Qbt,Qd,Zs,Zo,Qb5 h0 h,QlO]
  rw[Qfm]
  congr 2;funext k
  unfold up2
  split
  ·rename_i e;subst e;rfl
  ·rfl
 unfold Qgu
 rw[hx]
 simp only[Qcm,Qal,Za,hp,ep,Zbk,hi,ei,hd,Qf,Zs,Zo,Qb5 k0 k,hj,ha,hg,Zae]
 rw[hu]
theorem Qbm{fa:DE}{ρ:En}{r:R}{n:Nat}(h:fa ρ=some r)(e:r.d= .int n)(hn:n<=16777216):QaY fa ρ=some ⟨(List.range n).map λ(k:Nat)=> .int (k:Int),[]⟩:=by
 unfold QaY
 rw[h,Za,e]
 dsimp only
 rw[if_pos ⟨by omega,by omega⟩]
 simp[QiN]
theorem QlA{α:Type}(x:α):∀n:Nat,(List.replicate n [x]).flatten=(List.range n).map λ_=>x
 | 0=>rfl
 | n+1=>by
  rw[Zam,Zat,QlA x n,Zbv,ZJ,Zaj];rfl
theorem Qh7{fb:DE}{ρ:En}{r:R}{n:Nat}{z:Int}(h:fb ρ=some r)(e:r.d= .int n)(hn:n<=16777216):Qav (QaC (Qc (dC (.int z)) Qg)) fb ρ=some ⟨Qf n (λ_=>z),true,[]⟩:=by
 have h1:QaC (Qc (dC (.int z)) Qg) ρ=some ⟨.lst [.int z],true,[]⟩:=rfl
 unfold Qav
 rw[h1,Za,h,Za,e]
 dsimp only
 rw[if_pos ⟨by simp[Qgo];omega,by omega,by omega,rfl⟩]
 simp only[ZL,QlA]
 rfl
noncomputable def Ql6:DS:=(Qe (Qo 2 (QM (QY (Qa 0)) (.tp [1,2]) [none,none,none] QW (Qat (Qc (Qa 1) (Qc (Qa 2) Qg))))) (Qe (Qo 3 (QM (QY (Qa 0)) (.tp [1,2]) [none,none,none] QW (Qat (Qc (Qa 2) (Qc (Qa 1) Qg))))) (Qe (QP (QQ (QQ (Qa 2) (Qa 3)) (dList (Qc (Qa 1) Qg)))) Qp)))
theorem QfD{fa fb:DE}{ρ:En}{ra rb:R}{A B:List (Int×Int)}(ha:fa ρ=some ra)(ea:ra.d=QT A)(hb:fb ρ=some rb)(eb:rb.d=QT B)(hl:A.length+B.length<=16777216):QQ fa fb ρ=some ⟨QT (A++B),true,[]⟩:=by
 unfold QQ
 rw[ha,Za,hb,Za,ea,eb]
 simp only[QT,Zs,Qgo,if_pos hl,QaQ]
 simp
theorem QjC{ρ:En}{A:List (Int×Int)}{fs:DA}{rs:RA}(h:fs ρ=some rs)(e:rs.ds=[QT A])(_:True=True):dList fs ρ=some ⟨QT A,true,[]⟩:=by
 unfold dList
 rw[h,Za,e]
 simp[QT,QaQ]
theorem QC{fa:DE}{r:R}{g:DS}{ρ:En}{Q:D->Bool->Prop}(h:fa ρ=some r)(q:Q r.d (r.norm.fr && decide r.norm.M.Nodup)):Run (Qe (QP fa) g) ρ (Rt Q):=QH (Qca h q)
theorem QsO{R L:List (Int×Int)}(hl:R.length+R.length+L.length<=16777216):Qn 4 Ql6 [QT R,QT L]=some (QT (R++R.map Prod.swap++L),true):=by
 refine QX ?_
 refine run_seq (Qh (QN R rfl rfl λx _=>⟨[none,some (.int x.1,true),some (.int x.2,true)],rfl,⟨pairD x,true,[]⟩,rfl,rfl,rfl⟩) ?_)
 refine run_seq (Qh (QN R rfl rfl λx _=>⟨[none,some (.int x.1,true),some (.int x.2,true)],rfl,⟨pairD x.swap,true,[]⟩,rfl,rfl,rfl⟩) ?_)
 have e1:(R.map λx=>pairD x.swap)=(R.map Prod.swap).map pairD:=by simp[Zaj,Function.comp_def]
 rw[e1]
 exact QC (QfD (QfD rfl rfl rfl rfl (by simpa using(by omega:R.length+R.length<=16777216))) rfl (QjC rfl rfl rfl) rfl (by simpa using hl)) ⟨rfl,rfl⟩
theorem Ql{n:Nat}{den:Den}{dfl:List D}{fs:DA}{ρ:En}{r:RA}{d:D}(h:fs ρ=some r)(hd:den (r.ds++dfl)=some (d,true))(hl:r.ds.length+dfl.length=n):Qj n den dfl fs ρ=some ⟨d,true,[]⟩:=by
 unfold Qj
 rw[h,Za,if_pos hl,hd]
 simp
theorem Q0{fa:DE}{ρ:En}{r:R}{xs:List D}(h:fa ρ=some r)(e:r.d= .lst xs):QY fa ρ=some ⟨xs,r.M⟩:=by
 unfold QY
 rw[h,Za,e]
noncomputable def stepT(m:Nat)(f:Nat->Nat->Int)(s:Int×Int):Nat->Nat->Int:=
 let f1:=if s.1<m then up2 f s.1.toNat s.1.toNat (f s.1.toNat s.1.toNat-1)else f
 if s.1<m/\s.2<m then up2 f1 s.1.toNat s.2.toNat (f1 s.1.toNat s.2.toNat+1)else f1
noncomputable def Qz(m:Nat)(S:List (Int×Int)):Nat->Nat->Int:=S.foldl (stepT m) λ_ _=>0
noncomputable def QfV(Qem:Den):DS:=(Qe (Qo 1 (Qaf (Qr (Qa 0) (dC (.int 0))))) (Qe (Qo 2 (QM (QaY (Qa 1)) (.nm 1) [none,none,some 1] QW (Qav (QaC (Qc (dC (.int 0)) Qg)) (Qa 2)))) (Qe (Qbl (QY (Qj 2 Qem [] (Qc (Qr (Qa 0) (dC (.int 1))) (Qc (Qr (Qa 0) (dC (.int 2))) Qg)))) (.tp [3,4]) (Qe (sIf (QO (dOp gLt (Qa 3) (Qa 1))) (Qe (Qgu Qa6 2 (Qcm Qal (Qa 3)) (Qa 3) (dC (.int 1))) Qp) Qp) (Qe (sIf (QhK (QO (dOp gLt (Qa 3) (Qa 1))) (QO (dOp gLt (Qa 4) (Qa 1)))) (Qe (Qgu (gI λi j=>some (.int (i+j))) 2 (Qcm Qal (Qa 3)) (Qa 4) (dC (.int 1))) Qp) Qp) Qp))) (Qe (QP (Qa 2)) Qp))))
theorem Qu5{Qem:Den}{m:Nat}{R L S:List (Int×Int)}(hm:m<=16777216)(hs:Qem [QT R,QT L]=some (QT S,true))(hS:∀s∈S,0<=s.1/\0<=s.2):Qn 5 (QfV Qem) [QR m R L]=some (Qd m m (Qz m S),true):=by
 refine QX ?_
 refine run_seq (Qh rfl ?_)
 refine run_seq (Qh (QN (List.range m) (Qbm rfl rfl hm) rfl λx _=>⟨[none,some (.int x,true),some (.int m,true)],rfl,_,Qh7 rfl rfl hm,rfl,rfl⟩) ?_)
 refine run_seq (QaF S (λi ρ=>∃j1 j2,ρ=[some (QR m R L,false),some (.int m,true),some (Qd m m (Qz m (S.take i)),true),j1,j2]) (ir:=⟨S.map pairD,[]⟩) ?_ rfl ⟨none,none,rfl⟩ ?_ ?_)
 ·exact Q0 (Ql (r:=⟨[QT R,QT L],false,[]⟩) rfl hs rfl) rfl
 ·rintro i s ρ hi ⟨j1,j2,rfl⟩
  refine⟨_,rfl,?_⟩
  obtain⟨s1,s2⟩:=hS s (Zao hi)
  refine run_seq (Run.mono (Q:=Nx λρ=>ρ=[some (QR m R L,false),some (.int m,true),some (Qd m m (if s.1<m then up2 (Qz m (S.take i)) s.1.toNat s.1.toNat (Qz m (S.take i) s.1.toNat s.1.toNat-1)else Qz m (S.take i)),true),some (.int s.1,true),some (.int s.2,true)]) ?_ ?_)
  ·refine Qaa rfl (λh=>?_) (λh=>?_)
   ·have h:=of_decide_eq_true h
    rw[if_pos h]
    exact run_seq (QoF rfl rfl rfl rfl rfl rfl s1 h s1 h rfl (Qt rfl))
   ·have h:=of_decide_eq_false h
    rw[if_neg h]
    exact Qt rfl
  ·intro o ho
   cases o with
   | nx ρ=>
    subst ho
    have fin:Qz m (S.take (i+1))=stepT m (Qz m (S.take i)) s:=by
     unfold Qz
     rw[List.take_add_one,hi,List.foldl_append];rfl
    refine run_seq (Run.mono (Q:=Nx λρ=>ρ=[some (QR m R L,false),some (.int m,true),some (Qd m m (stepT m (Qz m (S.take i)) s),true),some (.int s.1,true),some (.int s.2,true)]) ?_ ?_)
    ·refine Qaa (b:=decide (s.1<m/\s.2<m)) ?_ (λh=>?_) (λh=>?_)
     ·by_cases h:s.1<(m:Int)
      ·simp[QhK,QO,dOp,Qa,gLt,gI,D.tru,h]
      ·simp[QhK,QO,dOp,Qa,gLt,gI,D.tru,h]
     ·have h:=of_decide_eq_true h
      refine run_seq (QoF rfl rfl rfl rfl rfl rfl s1 h.1 s2 h.2 rfl (Qt ?_))
      unfold stepT
      rw[if_pos h];rfl
     ·have h:=of_decide_eq_false h
      refine Qt ?_
      unfold stepT
      rw[if_neg h];rfl
    ·intro o ho
     cases o with
     | nx ρ=>
      subst ho
      exact Qt ⟨_,_,by rw[fin]⟩
     | _=>exact False.elim ho
   | _=>exact False.elim ho
 ·rintro ρ ⟨j1,j2,rfl⟩
  rw[Zbh]
  exact QC rfl ⟨rfl,rfl⟩
noncomputable def hit(i j:Nat)(s:Int×Int):Int:=(if s.1=i/\s.2=j then 1 else 0)-(if s.1=i/\i=j then 1 else 0)
theorem Qqt{f:Nat->Nat->Int}{a b:Nat}{v:Int}{i j:Nat}:up2 f a b v i j=if i=a/\j=b then v else f i j:=by
 unfold up2 up
 by_cases h1:i=a
 ·by_cases h2:j=b
  ·simp[h1,h2]
  ·simp[h1,h2]
 ·simp[h1]
theorem Qsl{m:Nat}{f:Nat->Nat->Int}{s:Int×Int}{i j:Nat}(hi:i<m)(hj:j<m)(h1:0<=s.1)(h2:0<=s.2):stepT m f s i j=f i j+hit i j s:=by
 unfold stepT hit
 have e1:(s.1=(i:Int))↔(i=s.1.toNat):=by omega
 have e2:(s.2=(j:Int))↔(j=s.2.toNat):=by omega
 simp only[e1,e2]
 by_cases c1:s.1<(m:Int)
 ·by_cases c2:s.2<(m:Int)
  ·simp only[c1,c2,and_self,if_true,Qqt]
   generalize s.1.toNat=a
   generalize s.2.toNat=b
   by_cases d1:i=a
   ·subst d1
    by_cases d2:j=b
    ·subst d2
     by_cases d3:i=j
     ·subst d3;simp
     ·have d4:¬j=i:=λz=>d3 z.symm
      simp[d3,d4]
    ·by_cases d3:i=j
     ·subst d3;simp[d2];omega
     ·have d4:¬j=i:=λz=>d3 z.symm
      simp[d2,d3,d4]
   ·simp[d1]
  ·have d2:¬(j=s.2.toNat):=by omega
   simp only[c1,c2,and_false,if_false,if_true,Qqt,d2]
   generalize s.1.toNat=a
   by_cases d1:i=a
   ·subst d1
    by_cases d3:i=j
    ·subst d3;simp;omega
    ·have d4:¬j=i:=λz=>d3 z.symm
     simp[d3,d4]
   ·simp[d1]
 ·have d1:¬(i=s.1.toNat):=by omega
  simp[c1,d1]
theorem QmG{m:Nat}{i j:Nat}(hi:i<m)(hj:j<m):∀(S:List (Int×Int)) (f:Nat->Nat->Int),(∀s∈S,0<=s.1/\0<=s.2)->S.foldl (stepT m) f i j=f i j+(S.map (hit i j)).sum
 | [],f,_=>by simp
 | s::S,f,h=>by
  obtain⟨h1,h2⟩:=h s Zp
  rw[List.foldl_cons,QmG hi hj S _ (λt ht=>h t (Ze _ ht)),Qsl hi hj h1 h2,ZJ,Zaz]
  omega
theorem Qdt{m:Nat}{S:List (Int×Int)}{i j:Nat}(hi:i<m)(hj:j<m)(h:∀s∈S,0<=s.1/\0<=s.2):Qz m S i j=(S.map (hit i j)).sum:=by
 unfold Qz
 rw[QmG hi hj S _ h];simp
noncomputable def isI(i:Nat)(a:Int):Int:=if a=i then 1 else 0
noncomputable def Qq5(R L:List (Int×Int))(i:Nat):Int:=(R.map λr=>isI i r.1+isI i r.2).sum+(L.map λl=>isI i l.1).sum
theorem sum_neg(S:List (Int×Int))(i:Nat)(h:∀s∈S,s.1≠s.2):(S.map (hit i i)).sum= -(S.map λs=>isI i s.1).sum:=by
 induction S with
 | nil=>rfl
 | cons s S ih=>
  rw[ZJ,Zaz,ih λt ht=>h t (Ze _ ht),ZJ,Zaz]
  have hn:=h s Zp
  unfold hit isI
  by_cases e:s.1=(i:Int)
  ·have:¬(s.2=(i:Int)):=λz=>hn (e.trans z.symm)
   simp[e,this];omega
  ·simp[e]
noncomputable def Qv(R L:List (Int×Int)):List (Int×Int):=R++R.map Prod.swap++L
theorem Qtf(R L:List (Int×Int))(i:Nat):((Qv R L).map λs=>isI i s.1).sum=Qq5 R L i:=by
 unfold Qv Qq5
 rw[ZZ,ZZ,ZbI,ZbI]
 have:(R.map λr=>isI i r.1+isI i r.2).sum=(R.map λs=>isI i s.1).sum+((R.map Prod.swap).map λs=>isI i s.1).sum:=by
  induction R with
  | nil=>rfl
  | cons r R ih=>simp only[ZJ,Zaz,ih,Prod.fst_swap];omega
 omega
def Good(m:Nat)(s:Int×Int):Prop:=0<=s.1/\0<=s.2/\s.1<=m/\s.2<=m/\s.1≠s.2
theorem QdI{m:Nat}{R L:List (Int×Int)}(hR:∀s∈R,Good m s)(hL:∀s∈L,Good m s):∀s∈Qv R L,Good m s:=λs hs=>by
 unfold Qv at hs
 rcases ZC.mp hs with hs | hs
 ·rcases ZC.mp hs with hs | hs
  ·exact hR s hs
  ·obtain⟨t,ht,rfl⟩:=ZS.mp hs
   obtain⟨h1,h2,h3,h4,h5⟩:=hR t ht
   exact⟨h2,h1,h4,h3,λz=>h5 z.symm⟩
 ·exact hL s hs
def Qod(d:Den):Prop:=∀(m:Nat) (R L:List (Int×Int)),m<=1000->R.length+R.length+L.length<=1000000->(∀s∈R,Good m s)->(∀s∈L,Good m s)->d [QR m R L]=some (Qd m m (Qz m (Qv R L)),true)
theorem Qxt:Qod (Qn 5 (QfV (Qn 4 Ql6))):=λm R L hm hl hR hL=>by
 refine Qu5 (by omega) (QsO (by omega)) λs hs=>?_
 obtain⟨h1,h2,_⟩:=QdI hR hL s hs
 exact⟨h1,h2⟩
theorem QqJ(a b:Int):deq (.int a) (.int b)=decide (a=b):=by
 show PyData.eqv (.int a) (.int b)=_
 unfold PyData.eqv
 exact Bool.beq_eq_decide_eq a b
theorem Qa0{fa fb:DE}{ρ:En}{ra rb:R}{a b:Int}(ha:fa ρ=some ra)(ea:ra.d= .int a)(hb:fb ρ=some rb)(eb:rb.d= .int b):dOp gEq fa fb ρ=some ⟨.bl (decide (a=b)),true,[]⟩:=by
 refine Qbb ha hb ?_
 rw[ea,eb]
 show some (D.bl (deq (.int a) (.int b)))=_
 rw[QqJ]
theorem QcY{fa fb:DE}{ρ:En}{ra rb:R}{a b:Int}(ha:fa ρ=some ra)(ea:ra.d= .int a)(hb:fb ρ=some rb)(eb:rb.d= .int b):dOp gNe fa fb ρ=some ⟨.bl (!decide (a=b)),true,[]⟩:=by
 refine Qbb ha hb ?_
 rw[ea,eb]
 show some (D.bl (!deq (.int a) (.int b)))=_
 rw[QqJ]
theorem Qv2{fa fb:DE}{ρ:En}{a b:Bool}(ha:fa ρ=some ⟨.bl a,true,[]⟩)(hb:fb ρ=some ⟨.bl b,true,[]⟩):dOr fa fb ρ=some ⟨.bl (a || b),true,[]⟩:=by
 unfold dOr
 rw[ha]
 cases a<;>simp[D.tru,hb]
theorem Qiv{fa fb:DE}{ρ:En}{a b:Bool}(ha:fa ρ=some ⟨.bl a,true,[]⟩)(hb:fb ρ=some ⟨.bl b,true,[]⟩):Qd3 fa fb ρ=some ⟨.bl (a && b),true,[]⟩:=by
 unfold Qd3
 rw[ha]
 cases a<;>simp[D.tru,hb]
theorem QL{fa:DE}{ρ:En}{r:R}{b:Bool}(ha:fa ρ=some r)(e:r.d= .bl b):QO fa ρ=some b:=by
 unfold QO
 rw[ha,Za,e];rfl
theorem QbB{g:DT}{ρ:En}{b:Bool}(h:g ρ=some b):Qck g ρ=some (!b):=by unfold Qck;rw[h];rfl
theorem Qcp{g1 g2:DT}{ρ:En}{a b:Bool}(ha:g1 ρ=some a)(hb:g2 ρ=some b):bOr g1 g2 ρ=some (a || b):=by
 unfold bOr;rw[ha];cases a<;>simp[hb]
theorem QxK{g1 g2:DT}{ρ:En}{a b:Bool}(ha:g1 ρ=some a)(hb:g2 ρ=some b):QhK g1 g2 ρ=some (a && b):=by
 unfold QhK;rw[ha];cases a<;>simp[hb]
theorem QaH{fa fb:DE}{ρ:En}{ra rb:R}{a b:Int}(ha:fa ρ=some ra)(ea:ra.d= .int a)(hb:fb ρ=some rb)(eb:rb.d= .int b)(h:Qet a b=true):Qav fa fb ρ=some ⟨.int (a*b),true,[]⟩:=by
 unfold Qav
 rw[ha,Za,hb,Za,ea,eb]
 simp[h]
theorem Qac{fa fb:DE}{ρ:En}{ra rb:R}{a b:Int}(ha:fa ρ=some ra)(ea:ra.d= .int a)(hb:fb ρ=some rb)(eb:rb.d= .int b):QQ fa fb ρ=some ⟨.int (a+b),true,[]⟩:=by
 unfold QQ
 rw[ha,Za,hb,Za,ea,eb]
theorem Qad{fa fb:DE}{ρ:En}{ra rb:R}{a b:Int}(ha:fa ρ=some ra)(ea:ra.d= .int a)(hb:fb ρ=some rb)(eb:rb.d= .int b)(h:0<b):dOp Qah fa fb ρ=some ⟨.int (a % b),true,[]⟩:=by
 refine Qbb ha hb ?_
 rw[ea,eb]
 show(if b≠0 then some (D.int (Qd6 a b))else none)=_
 rw[if_pos (by omega),QuT _ _ (by omega)]
theorem Qhj{fa fb:DE}{ρ:En}{ra rb:R}{a b:Int}(ha:fa ρ=some ra)(ea:ra.d= .int a)(hb:fb ρ=some rb)(eb:rb.d= .int b)(h:0<b)(h2:b<2^64):dOp QbF fa fb ρ=some ⟨.int (a / b),true,[]⟩:=by
 refine Qbb ha hb ?_
 rw[ea,eb]
 have:QdO b=true:=by
  unfold QdO
  have h3:b.natAbs<2^8000:=Zu (by omega:b.natAbs<2^64) (ZD (by decide) (by decide))
  simp only[Zj,decide_eq_true_eq]
  exact⟨by omega,h3⟩
 show(if QdO b=true then some (D.int (QeU a b))else none)=_
 rw[if_pos this,QoX _ _ (by omega)]
theorem QaA{fa:DE}{ρ:En}{r:R}(h:fa ρ=some r):Qaf fa ρ=some ⟨r.d,false,r.M⟩:=by unfold Qaf;rw[h];rfl
theorem Qmn{fa fb:DE}{ρ:En}{ra rb:R}{m:Nat}{f:Nat->Int}{i:Int}(ha:fa ρ=some ra)(ea:ra.d=Qf m f)(hb:fb ρ=some rb)(eb:rb.d= .int i)(h0:0<=i)(h:i<m):Qr fa fb ρ=some ⟨.int (f i.toNat),true,[]⟩:=by
 unfold Qr
 rw[ha,Za,hb,Za,ea,eb]
 simp only[Qf,D.items,Za,Qxa h0 h,Zae]
 rfl
theorem Qqu{fa fb:DE}{ρ:En}{ra rb:R}{ns:List Int}{i:Int}{v:Int}(ha:fa ρ=some ra)(ea:ra.d= .lst (ns.map .int))(hb:fb ρ=some rb)(eb:rb.d= .int i)(h0:0<=i)(h:ns[i.toNat]? =some v):Qr fa fb ρ=some ⟨.int v,true,[]⟩:=by
 have hl:i<ns.length:=by have:=(Zg.mp h).1;omega
 unfold Qr
 rw[ha,Za,hb,Za,ea,eb]
 simp only[D.items,Za]
 rw[Qi9 h0 (by simpa using hl),Zm,h]
 rfl
theorem Qs6{m n:Nat}{f:Nat->Int}(h:n<=m):cutD ((List.range m).map λi=>D.int (f i)) none (some (n:Int))=(List.range n).map λi=>D.int (f i):=by
 unfold cutD
 simp only[Zs,Zo,HT.QfR,HT.Qhr,Zci,Zbw,ZaO h]
 rw[← Zcm,List.take_range,ZaO h]
theorem Qqg{fa fb:DE}{ρ:En}{ra rb:R}{m n:Nat}{f:Nat->Int}(ha:fa ρ=some ra)(ea:ra.d=Qf m f)(hb:fb ρ=some rb)(eb:rb.d= .int n)(h:n<=m):QcI fa Qbv (Qbw fb) ρ=some ⟨Qf n f,true,[]⟩:=by
 unfold QcI Qbv Qbw
 rw[ha,Za,hb,ea]
 simp only[Za,eb,Qf,Qs6 h,QaQ,QtJ,if_true]
theorem QjG{n:Nat}{den:Den}{dfl:List D}{fs:DA}{ρ:En}{r:RA}{d:D}{fr:Bool}(h:fs ρ=some r)(hd:den (r.ds++dfl)=some (d,fr))(hl:r.ds.length+dfl.length=n):Qj n den dfl fs ρ=some (if fr=true then⟨d,true,[]⟩else HS.R.norm ⟨d,false,r.M⟩):=by
 unfold Qj
 rw[h,Za,if_pos hl,hd]
 rfl
noncomputable def Qiz:DS:=(Qe (QP (Qd3 (Qj3 "int" (Qa 0)) (QrG (Qj3 "bool" (Qa 0))))) Qp)
def Qg2(d:Den):Prop:=∀i:Int,d [.int i]=some (.bl true,true)
theorem Qvz:Qg2 (Qn 1 Qiz):=λi=>rfl
noncomputable def Qbs(t k:Int):Int:=(t+17)*(k*k+7*k+11)*69621 % 2147483647
noncomputable def Qfj(m t k:Int):Int:=if Qbs t k % (k+1)<k then(Qbs t k % (k+1)+t) % m else m
noncomputable def Qfg(m t kind:Int)(k:Int):Int×Int×Bool:=((k+t) % m,Qfj m t k,decide (kind=2) || (decide (kind=3) && decide (Qbs t k / 64 % 2=1)))
noncomputable def Qcn(m:Nat)(t kind:Int):List (Int×Int×Bool):=(List.range m).map λ(k:Nat)=>Qfg m t kind k
def GoodW(m:Nat)(w:Int×Int×Bool):Prop:=Good m (w.1,w.2.1)/\(w.2.2=true->w.1<m)
noncomputable def Qao(W:List (Int×Int×Bool)):D:= .lst (W.map QcH)
@[simp] theorem QAp(W:List (Int×Int×Bool)):(Qao W).flat=false:=rfl
theorem Qth{a x n:Int}(h1:0<x)(h2:x<n):(a+x) % n≠a % n:=λh=>by
 have h3:(a+x-a) % n=0:=Int.emod_eq_emod_iff_emod_sub_eq_zero.mp h
 rw[show a+x-a=x by omega,Zbx (by omega) h2]at h3
 omega
theorem QsA{m:Nat}{t kind:Int}{k:Nat}(hk:k<m):GoodW m (Qfg m t kind k):=by
 have hm:(0:Int)<m:=by omega
 have h1:=ZI ((k:Int)+t) (by omega:(m:Int)≠0)
 have h2:=ZE ((k:Int)+t) hm
 unfold Qfg Qfj
 split
 ·rename_i hlt
  have h3:=ZI (Qbs t k) (by omega:((k:Int)+1)≠0)
  have h4:=ZI (Qbs t k % (k+1)+t) (by omega:(m:Int)≠0)
  have h5:=ZE (Qbs t k % (k+1)+t) hm
  refine⟨⟨h1,h4,by dsimp only;omega,by dsimp only;omega,?_⟩,λ_=>by dsimp only;omega⟩
  dsimp only
  have h6:=Qth (a:=Qbs t k % (k+1)+t) (x:=k-Qbs t k % (k+1)) (n:=m) (by omega) (by omega)
  rw[show Qbs t k % (k+1)+t+(k-Qbs t k % (k+1))=k+t by omega]at h6
  exact h6
 ·exact⟨⟨h1,by dsimp only;omega,by dsimp only;omega,by dsimp only;omega,by dsimp only;omega⟩,λ_=>by dsimp only;omega⟩
noncomputable def Qjm:DS:=(Qe (Qo 3 (QaC Qg)) (Qe (Qbl (QaY (Qa 0)) (.nm 4) (Qe (Qo 5 (dOp Qah (Qav (Qav (QQ (Qa 1) (dC (.int 17))) (QQ (QQ (Qav (Qa 4) (Qa 4)) (Qav (dC (.int 7)) (Qa 4))) (dC (.int 11)))) (dC (.int 69621))) (dC (.int 2147483647)))) (Qe (Qo 6 (Qaf (Qa 0))) (Qe (sIf (QO (dOp gLt (dOp Qah (Qa 5) (QQ (Qa 4) (dC (.int 1)))) (Qa 4))) (Qe (Qo 6 (dOp Qah (QQ (dOp Qah (Qa 5) (QQ (Qa 4) (dC (.int 1)))) (Qa 1)) (Qa 0))) Qp) Qp) (Qe (QdS 3 Qal (Qat (Qc (dOp Qah (QQ (Qa 4) (Qa 1)) (Qa 0)) (Qc (Qa 6) (Qc (dOr (dOp gEq (Qa 2) (dC (.int 2))) (Qd3 (dOp gEq (Qa 2) (dC (.int 3))) (dOp gEq (dOp Qah (dOp QbF (Qa 5) (dC (.int 64))) (dC (.int 2))) (dC (.int 1))))) Qg))))) Qp))))) (Qe (QP (Qa 3)) Qp)))
theorem QiU{x:Nat}{fa:DE}{ρ:En}{r:R}{xs:List D}{Q:Out->Prop}(hx:ρ[x]? =some (some (.lst xs,true)))(ha:fa ρ=some r)(hf:r.d.flat=true)(hl:xs.length<16777216)(q:Q (.nx (ρ.set x (some (.lst (xs++[r.d]),true))))):Run (QdS x Qal fa) ρ Q:=by
 refine⟨_,?_,q⟩
 have hn:r.norm=⟨r.d,true,[]⟩:=by unfold HS.R.norm;rw[if_pos hf]
 unfold QdS
 rw[hx]
 simp only[Qal,Za,ha,Qa9,Qku,hn,Qbt,kill,Qgo]
 simp[hl]
def QoC(d:Den):Prop:=∀(m:Nat) (t kind:Int),0<m->m<=1000->0<=t->t<2000000->d [.int m,.int t,.int kind]=some (Qao (Qcn m t kind),true)
theorem QwN:QoC (Qn 7 Qjm):=λm t kind h0 hm ht ht2=>by
 refine QX ?_
 refine run_seq (Qh (r:=⟨.lst [],true,[]⟩) rfl ?_)
 rw[Qi]
 refine run_seq (QaF (List.range m) (λi ρ=>∃j4 j5 j6,ρ=[some (.int m,true),some (.int t,true),some (.int kind,true),some (.lst (((List.range i).map λ(k:Nat)=>Qfg m t kind k).map QcH),true),j4,j5,j6]) (Qbm (n:=m) (r:=⟨.int m,true,[]⟩) rfl rfl (by omega)) rfl ⟨none,none,none,rfl⟩ ?_ ?_)
 ·rintro i k ρ hi ⟨j4,j5,j6,rfl⟩
  have hk:i<m/\i=k:=by
   obtain⟨h1,h2⟩:=Zg.mp hi
   simp at h1 h2;exact⟨h1,h2⟩
  obtain⟨hk,rfl⟩:=hk
  refine⟨_,rfl,?_⟩
  have n1:(t+17).natAbs<2^64:=by omega
  have n2:(69621:Int).natAbs<2^64:=by decide
  refine run_seq (Qh (r:=⟨.int (Qbs t i),true,[]⟩) ?_ ?_)
  ·exact Qad (QaH (QaH (Qac (a:=t) (b:=17) rfl rfl rfl rfl) rfl (Qac (Qac (QaH (a:=(i:Int)) (b:=i) rfl rfl rfl rfl (Qe2 (by omega))) rfl (QaH (a:=7) (b:=(i:Int)) rfl rfl rfl rfl (Qe2 (by decide))) rfl) rfl (QaL (.int 11) _) rfl) rfl (Qe2 n1)) rfl (QaL (.int 69621) _) rfl (QfB n2)) rfl (QaL (.int 2147483647) _) rfl (by decide)
  ·rw[Qi]
   refine run_seq (Qh (r:=⟨.int m,false,[]⟩) rfl ?_)
   rw[Qa7 rfl]
   refine run_seq (f:=sIf _ _ _) (Run.mono (Q:=Nx λρ=>ρ=[some (.int m,true),some (.int t,true),some (.int kind,true),some (.lst (((List.range i).map λ(k:Nat)=>Qfg m t kind k).map QcH),true),some (.int i,true),some (.int (Qbs t i),true),some (.int (Qfj m t i),true)]) ?_ ?_)
   ·have e1:∀(ρ:En),ρ=[some (.int m,true),some (.int t,true),some (.int kind,true),some (.lst (((List.range i).map λ(k:Nat)=>Qfg m t kind k).map QcH),true),some (.int i,true),some (.int (Qbs t i),true),some (.int m,true)]->dOp Qah (Qa 5) (QQ (Qa 4) (dC (.int 1))) ρ=some ⟨.int (Qbs t i % (i+1)),true,[]⟩:=by
     rintro ρ rfl
     exact Qad (a:=Qbs t i) (b:=(i:Int)+1) rfl rfl (Qac (a:=(i:Int)) (b:=1) rfl rfl rfl rfl) rfl (by omega)
    refine Qaa (b:=decide (Qbs t i % (i+1)<i)) (QL (Qbb (e1 _ rfl) rfl rfl) rfl) (λh=>?_) (λh=>?_)
    ·have h:=of_decide_eq_true h
     refine run_seq (Qh (Qad (a:=Qbs t i % (i+1)+t) (b:=m) (Qac (a:=Qbs t i % (i+1)) (b:=t) (e1 _ rfl) rfl rfl rfl) rfl rfl rfl (by omega)) (Qt ?_))
     rw[Qi]
     unfold Qfj
     rw[if_pos h];rfl
    ·have h:=of_decide_eq_false h
     refine Qt ?_
     unfold Qfj
     rw[if_neg h];rfl
   ·intro o ho
    cases o with
    | nx ρ=>
     subst ho
     refine run_seq (QiU (r:=⟨QcH (Qfg m t kind i),true,[]⟩) rfl ?_ rfl (by simp;omega) ?_)
     ·have e:=Qv2 (Qa0 (a:=kind) (b:=2) (fa:=Qa 2) (fb:=dC (.int 2)) (ρ:=[some (.int m,true),some (.int t,true),some (.int kind,true),some (.lst (((List.range i).map λ(k:Nat)=>Qfg m t kind k).map QcH),true),some (.int i,true),some (.int (Qbs t i),true),some (.int (Qfj m t i),true)]) rfl rfl rfl rfl)
       (Qiv (Qa0 (a:=kind) (b:=3) (fa:=Qa 2) (fb:=dC (.int 3)) rfl rfl rfl rfl) (Qa0 (a:=Qbs t i / 64 % 2) (b:=1) (fb:=dC (.int 1)) (Qad (a:=Qbs t i / 64) (b:=2) (fb:=dC (.int 2)) (Qhj (a:=Qbs t i) (b:=64) (fa:=Qa 5) (fb:=dC (.int 64)) rfl rfl rfl rfl (by decide) (by decide)) rfl rfl rfl (by decide)) rfl rfl rfl))
      have e2:dOp Qah (QQ (Qa 4) (Qa 1)) (Qa 0) [some (.int m,true),some (.int t,true),some (.int kind,true),some (.lst (((List.range i).map λ(k:Nat)=>Qfg m t kind k).map QcH),true),some (.int i,true),some (.int (Qbs t i),true),some (.int (Qfj m t i),true)]=some ⟨.int ((i+t) % m),true,[]⟩:=
       Qad (a:=(i:Int)+t) (b:=m) (Qac (a:=(i:Int)) (b:=t) rfl rfl rfl rfl) rfl rfl rfl (by omega)
      unfold Qat
      rw[Qq e2 (Qq (r:=⟨.int (Qfj m t i),true,[]⟩) rfl (Qq e (QS _)))]
      rfl
     ·refine Qt ⟨some (.int i,true),some (.int (Qbs t i),true),some (.int (Qfj m t i),true),?_⟩
      show [some (D.int m,true),some (D.int t,true),some (D.int kind,true),some (D.lst (((List.range i).map λ(k:Nat)=>Qfg m t kind k).map QcH++[QcH (Qfg m t kind i)]),true),_,_,_]=_
      rw[ZaY,ZZ,ZZ];rfl
    | _=>exact False.elim ho
 ·rintro ρ ⟨j4,j5,j6,rfl⟩
  rw[Zo]
  exact QC rfl ⟨rfl,rfl⟩
noncomputable def QgK:DS:=(Qe (Qo 2 (Qav (QaC (Qc (dC (.int 0)) Qg)) (QQ (Qa 0) (dC (.int 1))))) (Qe (Qbl (QY (Qa 1)) (.tp [3,4,5]) (Qe (Qcj 2 Qal (Qa 3) (QQ (Qr (Qa 2) (Qa 3)) (dC (.int 1)))) (Qe (sIf (Qck (QO (Qa 5))) (Qe (Qcj 2 Qal (Qa 4) (QQ (Qr (Qa 2) (Qa 4)) (dC (.int 1)))) Qp) Qp) Qp))) (Qe (Qo 6 (dC (.int 1))) (Qe (Qbl (QY (QcI (Qa 2) Qbv (Qbw (Qa 0)))) (.nm 7) (Qe (Qo 6 (Qav (Qa 6) (Qa 7))) Qp)) (Qe (QP (dOp gLe (Qa 6) (dC (.int 300)))) Qp)))))
theorem QqF{x y m:Nat}{f:Nat->Int}{ρ:En}{i:Int}{b:Bool}{Q:Out->Prop}(hx:ρ[x]? =some (some (Qf m f,true)))(hy:ρ[y]? =some (some (.int i,b)))(h0:0<=i)(h:i<m)
  (q:Q (.nx (ρ.set x (some (Qf m (up f i.toNat (f i.toNat+1)),true))))):Run (Qcj x Qal (Qa y) (QQ (Qr (Qa x) (Qa y)) (dC (.int 1)))) ρ Q:=by
 have e1:Qa y ρ=some ⟨.int i,true,[]⟩:=Qpp hy
 have e2:=QaX hx
 exact Qoi hx e1 rfl (Qac (Qmn e2 (by simp) e1 rfl h0 h) rfl (QaL (.int 1) _) rfl) rfl h0 h q
def Qo4(d:Den):Prop:=∀(m:Nat) (W:List (Int×Int×Bool)),m<=1000->W.length<=100000->(∀w∈W,GoodW m w)->∃b,d [.int m,Qao W]=some (.bl b,true)
theorem Run.nx{f:DS}{ρ:En}{Q Q':En->Prop}(h:Run f ρ (Nx Q))(m:∀ρ,Q ρ->Q' ρ):Run f ρ (Nx Q'):=h.mono λo ho=>by
 cases o with
 | nx ρ=>exact m ρ ho
 | _=>exact ho.elim
theorem Qar{f g:DS}{ρ:En}{P:En->Prop}{Q:Out->Prop}(h:Run f ρ (Nx P))(k:∀ρ',P ρ'->Run g ρ' Q):Run (Qe f g) ρ Q:=run_seq (h.nx k)
theorem Qtp{m:Nat}{W:List (Int×Int×Bool)}{r1 r2:Option (D×Bool)}(hg:∀w∈W,GoodW m w):
  Run (Qbl (QY (Qa 1)) (.tp [3,4,5]) (Qe (Qcj 2 Qal (Qa 3) (QQ (Qr (Qa 2) (Qa 3)) (dC (.int 1)))) (Qe (sIf (Qck (QO (Qa 5))) (Qe (Qcj 2 Qal (Qa 4) (QQ (Qr (Qa 2) (Qa 4)) (dC (.int 1)))) Qp) Qp) Qp)))
   [some (.int m,true),some (Qao W,false),some (Qf (m+1) λ_=>0,true),none,none,none,r1,r2] (Nx λρ=>∃f j3 j4 j5,(∀k,0<=f k/\f k<=2*(W.length:Int))/\ρ=[some (.int m,true),some (Qao W,false),some (Qf (m+1) f,true),j3,j4,j5,r1,r2]):=by
 refine QaF (toD:=QcH) W (λi ρ=>∃f j3 j4 j5,(∀k,0<=f k/\f k<=2*(i:Int))/\ρ=[some (.int m,true),some (Qao W,false),some (Qf (m+1) f,true),j3,j4,j5,r1,r2]) (ir:=⟨W.map QcH,[]⟩) rfl rfl ⟨λ_=>0,none,none,none,λk=>⟨by simp,by simp⟩,rfl⟩ ?_ ?_
 ·rintro i w ρ hi ⟨f,j3,j4,j5,hf,rfl⟩
  obtain⟨⟨h1,h2,h3,h4,h5⟩,h6⟩:=hg w (Zao hi)
  refine⟨_,rfl,?_⟩
  refine run_seq (QqF (i:=w.1) rfl rfl h1 (by omega) ?_)
  have hf1:∀k,0<=up f w.1.toNat (f w.1.toNat+1) k/\up f w.1.toNat (f w.1.toNat+1) k<=2*(i:Int)+1:=λk=>by
   have a:=hf k
   have b:=hf w.1.toNat
   unfold up;split<;>omega
  refine run_seq (Qaa (b:= !w.2.2) (QbB (QL (b:=w.2.2) rfl rfl)) (λ_=>run_seq (QqF (i:=w.2.1) rfl rfl h2 (by omega) (Qt (Qt ⟨_,_,_,_,λk=>?_,rfl⟩)))) (λ_=>Qt (Qt ⟨_,_,_,_,λk=>?_,rfl⟩)))
  ·have a:=hf1 k
   have b:=hf1 w.2.1.toNat
   unfold up at a b ⊢
   split<;>omega
  ·have a:=hf1 k
   omega
 ·rintro ρ ⟨f,j3,j4,j5,hf,rfl⟩
  exact⟨f,j3,j4,j5,hf,rfl⟩
theorem Qsd{n:Nat}{f:Nat->Int}{a b c d e g:Option (D×Bool)}{fi:DI}(hi:fi [a,b,c,d,e,g,some (.int 1,true),none]=some ⟨(List.range n).map λ(k:Nat)=> .int (f k),[]⟩)(hf:∀k,0<=f k/\f k<2^64):
  Run (Qbl fi (.nm 7) (Qe (Qo 6 (Qav (Qa 6) (Qa 7))) Qp)) [a,b,c,d,e,g,some (.int 1,true),none] (Nx λρ=>∃(z:Int) (j:Option (D×Bool)),ρ=[a,b,c,d,e,g,some (.int z,true),j]):=by
 refine QaF (toD:=λ(k:Nat)=> .int (f k)) (List.range n) (λi ρ=>∃(z:Int) (j:Option (D×Bool)),ρ=[a,b,c,d,e,g,some (.int z,true),j]) hi rfl ⟨1,none,rfl⟩ ?_ ?_
 ·rintro i k ρ _ ⟨z,j,rfl⟩
  have:=hf k
  exact⟨_,rfl,run_seq (Qh (QaH (a:=z) (b:=f k) rfl rfl rfl rfl (QfB (by omega))) (Qt ⟨z*f k,_,rfl⟩))⟩
 ·rintro ρ ⟨z,j,rfl⟩
  exact⟨z,j,rfl⟩
theorem Qwt:Qo4 (Qn 8 QgK):=λm W hm hl hg=>by
 have key:Run QgK (Qdf 8 [.int m,Qao W]) (Rt λd fr=>∃b,d= .bl b/\fr=true):=by
  refine run_seq (Qh (Qh7 (n:=m+1) (Qac (a:=(m:Int)) (b:=1) rfl rfl rfl rfl) rfl (by omega)) ?_)
  rw[Qi]
  refine Qar (Qtp hg) ?_
  rintro ρ ⟨f,j3,j4,j5,hf,rfl⟩
  refine run_seq (Qh (r:=⟨.int 1,true,[]⟩) rfl ?_)
  rw[Qi]
  refine Qar (Qsd (n:=m) (f:=f) (Q0 (Qqg (m:=m+1) (n:=m) (f:=f) rfl rfl rfl rfl (by omega)) rfl) λk=>⟨(hf k).1,by have:=(hf k).2;omega⟩) ?_
  rintro ρ ⟨z,j,rfl⟩
  exact QC (Qbb (ra:=⟨.int z,true,[]⟩) (rb:=⟨.int 300,true,[]⟩) rfl rfl rfl) ⟨_,rfl,rfl⟩
 obtain⟨o,h1,h2⟩:=key
 cases o with
 | rt d fr=>
  obtain⟨b,rfl,rfl⟩:=h2
  exact⟨b,by unfold Qn;rw[h1];rfl⟩
 | _=>exact h2.elim
noncomputable def QgU(Qa4:Den):DS:=(Qe (Qbl (QY (Qa 1)) (.nm 4) (Qe (Qo 5 (dOp Qah (Qav (Qa 4) (dC (.int 48271))) (dC (.int 2147483647)))) (Qe (Qo 6 (dOp Qah (Qa 5) (QQ (Qa 2) (dC (.int 1))))) (Qe (Qo 7 (dOp Qah (QQ (QQ (Qa 6) (dC (.int 1))) (dOp Qah (dOp QbF (Qa 5) (dC (.int 9))) (Qa 2))) (QQ (Qa 2) (dC (.int 1))))) (Qe (Qo 8 (Qat (Qc (Qa 6) (Qc (Qa 7) (Qc (Qd3 (dOp gLt (Qa 6) (Qa 2)) (dOr (dOp gEq (Qa 3) (dC (.int 2))) (Qd3 (dOp gEq (Qa 3) (dC (.int 3))) (dOp gEq (dOp Qah (dOp QbF (Qa 5) (dC (.int 72))) (dC (.int 3))) (dC (.int 1)))))) Qg))))) (Qe (sIf (bOr (QhK (QO (dOp gNe (Qa 3) (dC (.int 2)))) (QO (dOp gNe (Qa 3) (dC (.int 3))))) (QO (Qj 2 Qa4 [] (Qc (Qa 2) (Qc (QQ (Qa 0) (QaC (Qc (Qa 8) Qg))) Qg))))) (Qe (Qo 0 (QQ (Qa 0) (QaC (Qc (Qa 8) Qg)))) Qp) Qp) Qp)))))) (Qe (QP (Qa 0)) Qp))
noncomputable def Qb1(c:Int):Int:=c*48271 % 2147483647
noncomputable def mStart(m c:Int):Int:=Qb1 c % (m+1)
noncomputable def Qix(m c:Int):Int:=(mStart m c+1+Qb1 c / 9 % m) % (m+1)
noncomputable def QeM(m kind c:Int):Int×Int×Bool:=(mStart m c,Qix m c,decide (mStart m c<m) && (decide (kind=2) || (decide (kind=3) && decide (Qb1 c / 72 % 3=1))))
theorem Qse{m:Nat}(hm:0<m)(kind c:Int):GoodW m (QeM m kind c):=by
 have h1:=ZI (Qb1 c) (by omega:(m:Int)+1≠0)
 have h2:=ZE (Qb1 c) (by omega:(0:Int)<m+1)
 have h3:=ZI (Qb1 c / 9) (by omega:(m:Int)≠0)
 have h4:=ZE (Qb1 c / 9) (by omega:(0:Int)<m)
 have h5:=ZI (mStart m c+1+Qb1 c / 9 % m) (by omega:(m:Int)+1≠0)
 have h6:=ZE (mStart m c+1+Qb1 c / 9 % m) (by omega:(0:Int)<m+1)
 have h7:=Qth (a:=mStart m c) (x:=1+Qb1 c / 9 % m) (n:=(m:Int)+1) (by omega) (by omega)
 rw[← Int.add_assoc,show mStart m c % ((m:Int)+1)=mStart m c from Zbx h1 h2]at h7
 refine⟨⟨h1,h5,?_,?_,λz=>h7 z.symm⟩,λh=>?_⟩
 ·show mStart m c<=m;unfold mStart;omega
 ·show Qix m c<=m;unfold Qix;omega
 ·have:(QeM m kind c).2.2=(decide (mStart m c<m) && (decide (kind=2) || (decide (kind=3) && decide (Qb1 c / 72 % 3=1)))):=rfl
  rw[this,Zj,decide_eq_true_eq]at h
  exact h.1
theorem QwO{fa fb:DE}{ρ:En}{ra rb:R}{A B:List (Int×Int×Bool)}(ha:fa ρ=some ra)(ea:ra.d=Qao A)(hb:fb ρ=some rb)(eb:rb.d=Qao B)(hl:A.length+B.length<=16777216):QQ fa fb ρ=some ⟨Qao (A++B),true,[]⟩:=by
 unfold QQ
 rw[ha,Za,hb,Za,ea,eb]
 simp only[Qao,Zs,Qgo,if_pos hl,QaQ]
 simp
theorem Qu9{m:Nat}{kind c:Int}{s0 s1 s5 s6 s7 s8:Option (D×Bool)}{g:DS}{Q:Out->Prop}(hm:0<m)
  (k:Run g [s0,s1,some (.int m,true),some (.int kind,true),some (.int c,true),some (.int (Qb1 c),true),some (.int (mStart m c),true),some (.int (Qix m c),true),some (QcH (QeM m kind c),true)] Q):
  Run (Qe (Qo 5 (dOp Qah (Qav (Qa 4) (dC (.int 48271))) (dC (.int 2147483647)))) (Qe (Qo 6 (dOp Qah (Qa 5) (QQ (Qa 2) (dC (.int 1))))) (Qe (Qo 7 (dOp Qah (QQ (QQ (Qa 6) (dC (.int 1))) (dOp Qah (dOp QbF (Qa 5) (dC (.int 9))) (Qa 2))) (QQ (Qa 2) (dC (.int 1))))) (Qe (Qo 8 (Qat (Qc (Qa 6) (Qc (Qa 7) (Qc (Qd3 (dOp gLt (Qa 6) (Qa 2)) (dOr (dOp gEq (Qa 3) (dC (.int 2))) (Qd3 (dOp gEq (Qa 3) (dC (.int 3))) (dOp gEq (dOp Qah (dOp QbF (Qa 5) (dC (.int 72))) (dC (.int 3))) (dC (.int 1)))))) Qg))))) g))))
   [s0,s1,some (.int m,true),some (.int kind,true),some (.int c,true),s5,s6,s7,s8] Q:=by
 refine run_seq (Qh (Qad (b:=2147483647) (QaH (a:=c) (b:=48271) rfl rfl rfl rfl (QfB (by decide))) rfl rfl rfl (by decide)) ?_)
 rw[Qi]
 refine run_seq (Qh (Qad (a:=Qb1 c) (b:=(m:Int)+1) rfl rfl (Qac (a:=(m:Int)) (b:=1) rfl rfl rfl rfl) rfl (by omega)) ?_)
 rw[Qi]
 refine run_seq (Qh (Qad (a:=mStart m c+1+Qb1 c / 9 % m) (b:=(m:Int)+1) (Qac (Qac (a:=mStart m c) (b:=1) rfl rfl rfl rfl) rfl (Qad (a:=Qb1 c / 9) (b:=m) (Qhj (a:=Qb1 c) (b:=9) rfl rfl rfl rfl (by decide) (by decide)) rfl rfl rfl (by omega)) rfl) rfl (Qac (a:=(m:Int)) (b:=1) rfl rfl rfl rfl) rfl (by omega)) ?_)
 rw[Qi]
 refine run_seq (Qh (r:=⟨QcH (QeM m kind c),true,[]⟩) ?_ ?_)
 ·have e:=Qiv (ρ:=[s0,s1,some (.int m,true),some (.int kind,true),some (.int c,true),some (.int (Qb1 c),true),some (.int (mStart m c),true),some (.int (Qix m c),true),s8])
   (Qbb (g:=gLt) (fa:=Qa 6) (fb:=Qa 2) (ra:=⟨.int (mStart m c),true,[]⟩) (rb:=⟨.int m,true,[]⟩) rfl rfl rfl)
   (Qv2 (Qa0 (a:=kind) (b:=2) (fa:=Qa 3) (fb:=dC (.int 2)) rfl rfl rfl rfl)
    (Qiv (Qa0 (a:=kind) (b:=3) (fa:=Qa 3) (fb:=dC (.int 3)) rfl rfl rfl rfl) (Qa0 (a:=Qb1 c / 72 % 3) (b:=1) (fb:=dC (.int 1)) (Qad (a:=Qb1 c / 72) (b:=3) (fb:=dC (.int 3)) (Qhj (a:=Qb1 c) (b:=72) (fa:=Qa 5) (fb:=dC (.int 72)) rfl rfl rfl rfl (by decide) (by decide)) rfl rfl rfl (by decide)) rfl rfl rfl)))
  have t:Qat (Qc (Qa 6) (Qc (Qa 7) (Qc (Qd3 (dOp gLt (Qa 6) (Qa 2)) (dOr (dOp gEq (Qa 3) (dC (.int 2))) (Qd3 (dOp gEq (Qa 3) (dC (.int 3))) (dOp gEq (dOp Qah (dOp QbF (Qa 5) (dC (.int 72))) (dC (.int 3))) (dC (.int 1)))))) Qg))) [s0,s1,some (.int m,true),some (.int kind,true),some (.int c,true),some (.int (Qb1 c),true),some (.int (mStart m c),true),some (.int (Qix m c),true),s8]=some ⟨QcH (QeM m kind c),true,[]⟩:=by
   unfold Qat
   rw[Qq (r:=⟨.int (mStart m c),true,[]⟩) rfl (Qq (r:=⟨.int (Qix m c),true,[]⟩) rfl (Qq e (QS _)))]
   rfl
  exact t
 ·rw[Qi]
  exact k
def QoL(d:Den):Prop:=∀(m:Nat) (W:List (Int×Int×Bool)) (cs:List Int) (kind:Int),0<m->m<=1000->W.length+cs.length<=10000->(∀w∈W,GoodW m w)→
 ∃W' fr,d [Qao W,.lst (cs.map .int),.int m,.int kind]=some (Qao (W++W'),fr)/\W'.length<=cs.length/\∀w∈W',GoodW m w
theorem QxV{Qa4:Den}(hf:Qo4 Qa4):QoL (Qn 9 (QgU Qa4)):=λm W cs kind h0 hm hl hg=>by
 have key:Run (QgU Qa4) (Qdf 9 [Qao W,.lst (cs.map .int),.int m,.int kind]) (Rt λd fr=>∃W',d=Qao (W++W')/\W'.length<=cs.length/\∀w∈W',GoodW m w):=by
  refine run_seq (QaF (toD:=D.int) cs (λi ρ=>∃W' b j4 j5 j6 j7 j8,W'.length<=i/\(∀w∈W',GoodW m w)/\ρ=[some (Qao (W++W'),b),some (.lst (cs.map .int),false),some (.int m,true),some (.int kind,true),j4,j5,j6,j7,j8]) (ir:=⟨cs.map .int,[]⟩) rfl rfl ⟨[],false,none,none,none,none,none,Zac _,λw hw=>absurd hw (by simp),by rw[ZaW];rfl⟩ ?_ ?_)
  ·rintro i c ρ hi ⟨W',b,j4,j5,j6,j7,j8,hw1,hw2,rfl⟩
   have hil:i<cs.length:=(Zg.mp hi).1
   have gw:=Qse h0 kind c
   refine⟨_,rfl,Qu9 h0 ?_⟩
   have eadd:QQ (Qa 0) (QaC (Qc (Qa 8) Qg)) [some (Qao (W++W'),b),some (.lst (cs.map .int),false),some (.int m,true),some (.int kind,true),some (.int c,true),some (.int (Qb1 c),true),some (.int (mStart m c),true),some (.int (Qix m c),true),some (QcH (QeM m kind c),true)]=some ⟨Qao (W++W'++[QeM m kind c]),true,[]⟩:=
    QwO (A:=W++W') (B:=[QeM m kind c]) (QaX rfl) (by cases b<;>rfl) rfl rfl (by simp;omega)
   have gg:∀w∈W++W'++[QeM m kind c],GoodW m w:=λw hw=>by
    rcases ZC.mp hw with h | h
    ·rcases ZC.mp h with h | h
     ·exact hg w h
     ·exact hw2 w h
    ·have:w=QeM m kind c:=by simpa using h
     rw[this];exact gw
   obtain⟨bf,hbf⟩:=hf m (W++W'++[QeM m kind c]) hm (by simp;omega) gg
   refine run_seq (Qaa (Qcp (QxK (QL (QcY (a:=kind) (b:=2) rfl rfl rfl rfl) rfl) (QL (QcY (a:=kind) (b:=3) rfl rfl rfl rfl) rfl)) (QL (Ql (Qq (r:=⟨.int m,true,[]⟩) rfl (Qq eadd (QS _))) hbf rfl) rfl)) (λ_=>run_seq (Qh eadd (Qt ?_))) (λ_=>Qt (Qt ⟨W',b,_,_,_,_,_,by omega,hw2,rfl⟩)))
   rw[Qi]
   refine Qt ⟨W'++[QeM m kind c],true,_,_,_,_,_,by simp;omega,λw hw=>?_,by rw[ZaP];rfl⟩
   rcases ZC.mp hw with h | h
   ·exact hw2 w h
   ·have:w=QeM m kind c:=by simpa using h
    rw[this];exact gw
  ·rintro ρ ⟨W',b,j4,j5,j6,j7,j8,hw1,hw2,rfl⟩
   exact QC (QaX rfl) ⟨W',by cases b<;>rfl,hw1,hw2⟩
 obtain⟨o,h1,h2⟩:=key
 cases o with
 | rt d fr=>
  obtain⟨W',rfl,h3,h4⟩:=h2
  exact⟨W',fr,by unfold Qn;rw[h1];rfl,h3,h4⟩
 | _=>exact h2.elim
noncomputable def QaR(w:Int×Int×Bool):Int×Int:=(if w.2.1<w.1 then w.2.1 else w.1,if w.2.1>w.1 then w.2.1 else w.1)
noncomputable def Qoj(w:Int×Int×Bool):Int×Int:=(w.1,w.2.1)
noncomputable def QK(W:List (Int×Int×Bool)):List (Int×Int):=(W.filter λw=> !w.2.2).map QaR
noncomputable def Qc1(W:List (Int×Int×Bool)):List (Int×Int):=(W.filter λw=>w.2.2).map Qoj
theorem QhA{m:Nat}{W:List (Int×Int×Bool)}(h:∀w∈W,GoodW m w):∀s∈QK W,Good m s/\s.1<s.2:=λs hs=>by
 obtain⟨w,hw,rfl⟩:=ZS.mp hs
 obtain⟨⟨h1,h2,h3,h4,h5⟩,_⟩:=h w (Zaq.mp hw).1
 simp only at h1 h2 h3 h4 h5
 unfold QaR Good
 simp only
 split<;>split<;>omega
theorem Qhy{m:Nat}{W:List (Int×Int×Bool)}(h:∀w∈W,GoodW m w):∀s∈Qc1 W,Good m s/\s.1<m:=λs hs=>by
 obtain⟨w,hw,rfl⟩:=ZS.mp hs
 obtain⟨h1,h2⟩:=h w (Zaq.mp hw).1
 exact⟨h1,h2 (by simpa using(Zaq.mp hw).2)⟩
theorem Qgz(W:List (Int×Int×Bool)):(QK W).length<=W.length:=by unfold QK;rw[Zs];exact Zbb _ _
theorem QmF(W:List (Int×Int×Bool)):(Qc1 W).length<=W.length:=by unfold Qc1;rw[Zs];exact Zbb _ _
structure QzM (m:Nat) (t kind:Int) (R L:List (Int×Int)):Prop where
 ex:∃W,(∀w∈Qcn m t kind,w∈W)/\(∀w∈W,GoodW m w)/\W.length<=100/\R=QK W/\L=Qc1 W
theorem QzM.good{m:Nat}{t kind:Int}{R L:List (Int×Int)}(h:QzM m t kind R L):(∀s∈R,Good m s)/\(∀s∈L,Good m s)/\R.length<=100/\L.length<=100:=by
 obtain⟨W,_,h2,h3,rfl,rfl⟩:=h.ex
 exact⟨λs hs=>(QhA h2 s hs).1,λs hs=>(Qhy h2 s hs).1,Zi (Qgz W) h3,Zi (QmF W) h3⟩
theorem QuW{fa:DE}{ρ:En}{r:R}{W:List (Int×Int×Bool)}(h:fa ρ=some r)(e:r.d=Qao W):QM (QY fa) (.tp [1,2,3]) [none,none,none,none] (Qck (QO (Qa 3))) (Qat (Qc (dBf QgA (Qc (Qa 1) (Qc (Qa 2) Qg))) (Qc (dBf Qgw (Qc (Qa 1) (Qc (Qa 2) Qg))) Qg))) ρ=some ⟨QT (QK W),true,[]⟩:=by
 rw[QeL (toD:=QcH) (keep:=λw=> !w.2.2) (out:=λw=>pairD (QaR w)) W (Q0 h e) rfl λw _=>⟨[none,some (.int w.1,true),some (.int w.2.1,true),some (.bl w.2.2,true)],rfl,QbB (QL (b:=w.2.2) rfl rfl),λ_=>⟨⟨pairD (QaR w),true,[]⟩,rfl,rfl,rfl⟩⟩]
 unfold QT QK
 rw[Zaj];rfl
theorem QvT{fa:DE}{ρ:En}{r:R}{W:List (Int×Int×Bool)}(h:fa ρ=some r)(e:r.d=Qao W):QM (QY fa) (.tp [1,2,3]) [none,none,none,none] (QO (Qa 3)) (Qat (Qc (Qa 1) (Qc (Qa 2) Qg))) ρ=some ⟨QT (Qc1 W),true,[]⟩:=by
 rw[QeL (toD:=QcH) (keep:=λw=>w.2.2) (out:=λw=>pairD (Qoj w)) W (Q0 h e) rfl λw _=>⟨[none,some (.int w.1,true),some (.int w.2.1,true),some (.bl w.2.2,true)],rfl,QL (b:=w.2.2) rfl rfl,λ_=>⟨⟨pairD (Qoj w),true,[]⟩,rfl,rfl,rfl⟩⟩]
 unfold QT Qc1
 rw[Zaj];rfl
theorem QoG{m:Nat}{t kind:Int}:∀w∈Qcn m t kind,GoodW m w:=λw hw=>by
 obtain⟨k,hk,rfl⟩:=ZS.mp hw
 exact QsA (Zk.mp hk)
theorem Qpu(m:Nat)(t kind:Int):(Qcn m t kind).length=m:=by simp[Qcn]
theorem Qhd{f:Nat->Int}{i k:Nat}{v:Int}:up f i v k=if k=i then v else f k:=rfl
theorem QeW{fa:DE}{ρ:En}{r:R}{m:Int}{R L:List (Int×Int)}(h:fa ρ=some r)(e:r.d=QR m R L):
  Qr fa (dC (.int 0)) ρ=some ⟨.int m,true,[]⟩/\Qr fa (dC (.int 1)) ρ=some ⟨QT R,r.fr,r.M⟩/\Qr fa (dC (.int 2)) ρ=some ⟨QT L,r.fr,r.M⟩:=by
 unfold Qr
 rw[h]
 simp only[Za,e,QaL]
 exact⟨rfl,rfl,rfl⟩
theorem Qkt{fa:DE}{ρ:En}{r:R}{xs:List D}(h:fa ρ=some r)(e:r.d= .lst xs):dBf QaD (Qc fa Qg) ρ=some ⟨.int xs.length,true,[]⟩:=by
 unfold dBf
 rw[Qq h (QS _),Za]
 simp[e,QaD]
theorem QmX(n:Nat)(ps:List (Int×Int)):(QT ps).sim (n+2)=true:=by
 unfold QT
 simp only[D.sim,List.all_map,Zaw]
 intro p _
 cases n<;>rfl
theorem Qwy(m:Int)(R L:List (Int×Int)):(QR m R L).sim 8=true:=by
 unfold QR
 simp only[D.sim,List.all_cons,List.all_nil,Bool.and_true,Bool.true_and,Zj]
 exact⟨QmX 5 R,QmX 5 L⟩
theorem QiM{fa fb:DE}{ρ:En}{ra rb:R}{d:D}(ha:fa ρ=some ra)(ea:ra.d=d)(hb:fb ρ=some rb)(eb:rb.d=d)(hs:d.sim 8=true):dOp gNe fa fb ρ=some ⟨.bl false,true,[]⟩:=by
 refine Qbb ha hb ?_
 rw[ea,eb]
 unfold gNe
 rw[hs,Qn5 hs];rfl
theorem QuU{x:Nat}{fa:DE}{ρ:En}{r:R}{A:List Int}{n:Int}{Q:Out->Prop}(hx:ρ[x]? =some (some (Qa5 A,true)))(ha:fa ρ=some r)(hf:r.d= .int n)(hl:A.length<16777216)(q:Q (.nx (ρ.set x (some (Qa5 (A++[n]),true))))):Run (QdS x Qal fa) ρ Q:=by
 refine QiU hx ha (by rw[hf];rfl) (by simpa using hl) ?_
 rw[hf]
 unfold Qa5 at q
 rw[ZZ]at q
 exact q
def Esc(m:Nat)(W:List (Int×Int×Bool)):Prop:=∀A:Nat->Prop,(∃p,p<m/\A p)->∃w∈W,w.1<m/\A w.1.toNat/\(w.2.1=m∨¬A w.2.1.toNat)
theorem Esc.mono{m:Nat}{W W':List (Int×Int×Bool)}(h:Esc m W)(s:∀w∈W,w∈W'):Esc m W':=λA hA=>let ⟨w,hw,r⟩:=h A hA;⟨w,s w hw,r⟩
def Qug(m:Nat)(O:List Int)(w:Int×Int×Bool)(j:Nat):Prop:=O[j]? =some w.1/\(w.2.1=m∨∃i,i<j/\O[i]? =some w.2.1)
theorem Qug.app{m:Nat}{O O':List Int}{w:Int×Int×Bool}{j:Nat}(h:Qug m O w j):Qug m (O++O') w j:=by
 obtain⟨h1,h2⟩:=h
 have hj:j<O.length:=(Zg.mp h1).1
 refine⟨by rw[Zag hj];exact h1,?_⟩
 rcases h2 with h2 | ⟨i,hi,h2⟩
 ·exact .inl h2
 ·exact .inr ⟨i,hi,by rw[Zag (by omega)];exact h2⟩
noncomputable def Qk(m:Nat)(g:Nat->Int):Int:=((List.range m).map g).sum
theorem Qaz(m:Nat)(g:Nat->Int):Qk (m+1) g=Qk m g+g m:=by
 unfold Qk;rw[ZaY,ZZ,ZbI];simp
theorem Qm{m:Nat}{f g:Nat->Int}(h:∀i,i<m->f i=g i):Qk m f=Qk m g:=by
 unfold Qk;rw[ZO λi hi=>h i (Zk.mp hi)]
theorem QaJ(m:Nat)(f g:Nat->Int):Qk m (λi=>f i+g i)=Qk m f+Qk m g:=by
 induction m with
 | zero=>rfl
 | succ m ih=>rw[Qaz,Qaz,Qaz,ih];omega
theorem QhB(m:Nat)(f:Nat->Int):Qk m (λi=> -f i)= -Qk m f:=by
 induction m with
 | zero=>rfl
 | succ m ih=>rw[Qaz,Qaz,ih];omega
theorem Qbu(m:Nat):Qk m (λ_=>0)=0:=by
 induction m with
 | zero=>rfl
 | succ m ih=>rw[Qaz,ih];rfl
theorem Q7(m:Nat)(c:Int)(f:Nat->Int):Qk m (λi=>c*f i)=c*Qk m f:=by
 induction m with
 | zero=>simp[Qk]
 | succ m ih=>rw[Qaz,Qaz,ih,ZaG]
theorem Qff(m n:Nat)(f:Nat->Nat->Int):Qk m (λi=>Qk n λj=>f i j)=Qk n λj=>Qk m λi=>f i j:=by
 induction m with
 | zero=>show 0=Qk n λj=>0;rw[Qbu]
 | succ m ih=>
  rw[Qaz,ih,← QaJ]
  exact Qm λj _=>by rw[Qaz]
theorem QaS{m:Nat}{p:Nat}(hp:p<m)(v:Int)(f:Nat->Int):Qk m (λi=>(if i=p then v else 0)*f i)=v*f p:=by
 induction m with
 | zero=>omega
 | succ m ih=>
  rw[Qaz]
  by_cases h:p=m
  ·subst h
   rw[if_pos rfl,Qm (g:=λ_=>0) λi hi=>by rw[if_neg (by omega)];simp,Qbu];simp
  ·rw[ih (by omega),if_neg (λz=>h z.symm)];simp
noncomputable def QG(m:Nat)(T:Nat->Nat->Int)(f c:Nat->Int):Nat->Int:=λj=>f j+Qk m λi=>c i*T i j
theorem Qi3{m:Nat}{f g:Nat->Int}(h:∀i,i<m->f i=g i):Qf m f=Qf m g:=by
 unfold Qf
 congr 1
 refine ZO λi hi=>?_
 rw[h i (Zk.mp hi)]
theorem Qrx{m:Nat}(f g:Nat->D):Qii ((List.range m).map f) ((List.range m).map g)=(List.range m).map λi=> .tup [f i,g i]:=by
 generalize List.range m=l
 induction l with
 | nil=>rfl
 | cons n ns ih=>unfold Qii at ih ⊢;simp only[ZJ,List.zip_cons_cons,ih]
theorem Qt3{ρ:En}{m:Nat}{f:Nat->Int}{fs:DA}{rs:RA}(h:fs ρ=some rs)(e:rs.ds=[Qf m f]):dList fs ρ=some ⟨Qf m f,true,[]⟩:=by
 unfold dList
 rw[h,Za,e]
 simp[Qf,QaQ]
theorem QfA{fa fb:DE}{ρ:En}{ra rb:R}{m:Nat}{f g:Nat->D}(ha:fa ρ=some ra)(ea:ra.d= .lst ((List.range m).map f))(hb:fb ρ=some rb)(eb:rb.d= .lst ((List.range m).map g)):Qe3 fa fb ρ=some ⟨(List.range m).map λi=> .tup [f i,g i],ra.M++rb.M⟩:=by
 unfold Qe3
 rw[ha,Za,hb,Za,ea,eb]
 simp only[Qrx]
theorem QxU(i j:Nat)(s:Int×Int):(hit i j s).natAbs<=1:=by unfold hit;split<;>split<;>decide
theorem QgQ(i j:Nat):∀S:List (Int×Int),((S.map (hit i j)).sum).natAbs<=S.length
 | []=>by simp
 | s::S=>by
  have:=QgQ i j S
  have:=QxU i j s
  rw[ZJ,Zaz,ZP]
  omega
structure Qbg (m:Nat) (R L:List (Int×Int)):Prop where
 ex:∃W,Esc m W/\(∀w∈W,GoodW m w)/\W.length<=200/\R=QK W/\L=Qc1 W
theorem Qbg.good{m:Nat}{R L:List (Int×Int)}(h:Qbg m R L):(∀s∈R,Good m s)/\(∀s∈L,Good m s)/\R.length<=200/\L.length<=200/\(∀s∈R,s.1<s.2)/\∀s∈L,s.1<m:=by
 obtain⟨W,_,h2,h3,rfl,rfl⟩:=h.ex
 exact⟨λs hs=>(QhA h2 s hs).1,λs hs=>(Qhy h2 s hs).1,Zi (Qgz W) h3,Zi (QmF W) h3,λs hs=>(QhA h2 s hs).2,λs hs=>(Qhy h2 s hs).2⟩
theorem Qvg{x:Nat}{fa:DE}{ρ:En}{r:R}{A:List (Int×Int)}{p:Int×Int}{Q:Out->Prop}(hx:ρ[x]? =some (some (QT A,true)))(ha:fa ρ=some r)(hf:r.d=pairD p)(hl:A.length<16777216)(q:Q (.nx (ρ.set x (some (QT (A++[p]),true))))):Run (QdS x Qal fa) ρ Q:=by
 refine QiU (xs:=A.map pairD) hx ha (by rw[hf];rfl) (by simpa using hl) ?_
 rw[hf]
 unfold QT at q
 rw[ZZ]at q
 exact q
theorem QmS{α:Type}(m:Nat)(g:Nat->α->Int):∀S:List α,Qk m (λj=>(S.map (g j)).sum)=(S.map λs=>Qk m λj=>g j s).sum
 | []=>by simp[Qbu]
 | s::S=>by
  simp only[ZJ,Zaz]
  rw[QaJ,QmS m g S]
theorem QqI{α:Type}(c:Int)(f:α->Int):∀S:List α,c*(S.map f).sum=(S.map λs=>c*f s).sum
 | []=>by simp
 | s::S=>by simp only[ZJ,Zaz,ZaG,QqI c f S]
theorem QxG{fa:DE}{ρ:En}{r:R}{m:Nat}{f:Nat->Int}(h:fa ρ=some r)(e:r.d=Qf m f):dBf QiZ (Qc fa Qg) ρ=some ⟨.int (Qk m f),true,[]⟩:=by
 unfold dBf
 rw[Qq h (QS _),Za]
 have:Qf m f= .lst (((List.range m).map f).map .int):=by unfold Qf;rw[Zaj];rfl
 simp only[e,this,QiZ,Qny,Zae]
 rfl
theorem Qqn{fa fb:DE}{ρ:En}{ra rb:R}{d:D}(ha:fa ρ=some ra)(ea:ra.d=d)(hb:fb ρ=some rb)(eb:rb.d=d)(hs:d.sim 8=true):dOp gEq fa fb ρ=some ⟨.bl true,true,[]⟩:=by
 refine Qbb ha hb ?_
 rw[ea,eb]
 unfold gEq
 rw[hs,Qn5 hs];rfl
structure TP (m:Nat) (T:Nat->Nat->Int):Prop where
 neg:∀p,p<m->T p p<0
 pos:∀i j,i<m->j<m->i≠j->0<=T i j
 bnd:∀i j,i<m->j<m->(T i j).natAbs<2^64
 wt:∃w:Nat->Int,(∀j,0<=w j)/\∀i,i<m->Qk m (λj=>T i j*w j)<= -1
inductive Leg (m:Nat) (T:Nat->Nat->Int) (f:Nat->Int):(Nat->Int)->Prop where
 | nil:Leg m T f λ_=>0
 | step {c:Nat->Int}{p:Nat}{t:Int}:Leg m T f c->p<m->0<=t->t*(0-T p p)<=QG m T f c p->Leg m T f (up c p (c p+t))
def Stb(m:Nat)(T:Nat->Nat->Int)(g:Nat->Int):Prop:=∀p,p<m->g p<0-T p p
theorem Leg.nonneg{m:Nat}{T:Nat->Nat->Int}{f c:Nat->Int}(h:Leg m T f c):∀i,0<=c i:=by
 induction h with
 | nil=>intro i;exact ZaS _
 | step _ _ ht _ ih=>
  intro i
  unfold up
  split
  ·have:=ih ‹Nat›;rename_i p _ _ _ _ _;have:=ih p;omega
  ·exact ih i
theorem Qdx{m:Nat}{f g:Nat->Int}(h:∀i,i<m->f i<=g i):Qk m f<=Qk m g:=by
 induction m with
 | zero=>exact ZaS _
 | succ m ih=>
  rw[Qaz,Qaz]
  have:=ih λi hi=>h i (by omega)
  have:=h m (by omega)
  omega
theorem Leg.least{m:Nat}{T:Nat->Nat->Int}(tp:TP m T){f c:Nat->Int}(h:Leg m T f c){c':Nat->Int}(h0:∀i,i<m->0<=c' i)(hs:Stb m T (QG m T f c')):∀i,i<m->c i<=c' i:=by
 induction h with
 | nil=>exact h0
 | @step c p t _ hp ht hle ih=>
  intro i hi
  unfold up
  split
  ·rename_i e
   subst e
   have key:QG m T f c i+(c' i-c i)*T i i<=QG m T f c' i:=by
    unfold QG
    have e1:Qk m (λk=>c k*T k i)+(c' i-c i)*T i i=Qk m (λk=>c k*T k i+(if k=i then c' i-c i else 0)*T k i):=by rw[QaJ,QaS hi]
    have e2:Qk m (λk=>c k*T k i+(if k=i then c' i-c i else 0)*T k i)<=Qk m (λk=>c' k*T k i):=by
     refine Qdx λk hk=>?_
     by_cases hki:k=i
     ·subst hki;rw[if_pos rfl,← ZX];rw[show c k+(c' k-c k)=c' k by omega];exact ZaS _
     ·rw[if_neg hki,Zy,ZaV]
      exact ZaE (ih k hk) (tp.pos k i hk hi hki)
    omega
   have h1:=hs i hi
   have h2:=tp.neg i hi
   by_cases hlt:c i+t<=c' i
   ·exact hlt
   ·exfalso
    have h3:(c' i-c i+1)<=t:=by omega
    have h4:(c' i-c i+1)*(0-T i i)<=t*(0-T i i):=ZaE h3 (by omega)
    have h5:(c' i-c i+1)*(0-T i i)=(0-T i i)-(c' i-c i)*T i i:=by rw[ZX,ZK,Zcj,Zz];omega
    omega
  ·exact ih i hi
theorem Leg.unique{m:Nat}{T:Nat->Nat->Int}(tp:TP m T){f c d:Nat->Int}(hc:Leg m T f c)(hd:Leg m T f d)(sc:Stb m T (QG m T f c))(sd:Stb m T (QG m T f d)):∀i,i<m->c i=d i:=λi hi=>by
 have h1:=hc.least tp (λi _=>hd.nonneg i) sd i hi
 have h2:=hd.least tp (λi _=>hc.nonneg i) sc i hi
 omega
theorem Qeg{m:Nat}{T:Nat->Nat->Int}{f g c d:Nat->Int}(j:Nat)(h1:f j=g j)(h2:∀i,i<m->c i=d i):QG m T f c j=QG m T g d j:=by
 unfold QG
 rw[h1,Qm λi hi=>by rw[h2 i hi]]
theorem Leg.cast{m:Nat}{T:Nat->Nat->Int}{f c d:Nat->Int}(h:Leg m T f c)(e:∀i,c i=d i):Leg m T f d:=by
 have:c=d:=funext e
 rw[← this];exact h
theorem Leg.Qwb{m:Nat}{T:Nat->Nat->Int}{f g c:Nat->Int}(h:Leg m T f c)(e:∀i,i<m->f i=g i):Leg m T g c:=by
 induction h with
 | nil=>exact .nil
 | @step c p t _ hp ht hle ih=>exact .step ih hp ht (by rw[← Qeg p (e p hp) (λ_ _=>rfl)];exact hle)
theorem Qgr{g:DT}{fb:DS}{Q:Out->Prop}(I:Nat->En->Prop)(step:∀n ρ,I n ρ->∃b,g ρ=some b/\(b=false->Q (.nx ρ))/\(b=true->Run fb ρ λo=>match o with | .nx ρ2=>∃n',n'<n/\I n' ρ2 | .ct ρ2=>∃n',n'<n/\I n' ρ2 | .bk ρ2=>Q (.nx ρ2) | .rt d fr=>Q (.rt d fr))):
  ∀(n:Nat) (ρ:En),I n ρ->Run (Qcv g fb) ρ Q:=by
 intro n
 induction n using Nat.strongRecOn with
 | _ n ih=>
  intro ρ h
  obtain⟨b,hb,hf,ht⟩:=step n ρ h
  unfold Run
  rw[Qr6,hb,Za]
  cases b with
  | false=>exact⟨_,by simp,hf rfl⟩
  | true=>
   obtain⟨o,ho,hq⟩:=ht rfl
   rw[if_pos rfl,ho,Za]
   cases o with
   | nx ρ2=>obtain⟨n',hn,hI⟩:=hq;exact ih n' hn ρ2 hI
   | ct ρ2=>obtain⟨n',hn,hI⟩:=hq;exact ih n' hn ρ2 hI
   | bk ρ2=>exact⟨_,rfl,hq⟩
   | rt d fr=>exact⟨_,rfl,hq⟩
theorem QaN{fa fb:DE}{ρ:En}{ra rb:R}{m:Nat}{f:Nat->Int}{i:Nat}(ha:fa ρ=some ra)(ea:ra.d=Qf m f)(hb:fb ρ=some rb)(eb:rb.d= .int i)(h:i<m):Qr fa fb ρ=some ⟨.int (f i),true,[]⟩:=by
 have:=Qmn ha ea hb eb (by omega) (by omega)
 rw[ZL]at this
 exact this
def QrW(m:Nat)(S:List (Int×Int)):Prop:=∀A:Nat->Prop,(∃p,p<m/\A p)->∃s∈S,s.1<m/\A s.1.toNat/\(s.2=m∨¬A s.2.toNat)
theorem QsY{m:Nat}{W:List (Int×Int×Bool)}(h:Esc m W):QrW m (Qv (QK W) (Qc1 W)):=λA hA=>by
 obtain⟨w,hw,h1,h2,h3⟩:=h A hA
 refine⟨(w.1,w.2.1),?_,h1,h2,h3⟩
 unfold Qv
 cases e:w.2.2 with
 | true=>exact Zb _ (ZS.mpr ⟨w,Zaq.mpr ⟨hw,e⟩,rfl⟩)
 | false=>
  have hr:QaR w∈QK W:=ZS.mpr ⟨w,Zaq.mpr ⟨hw,by simp[e]⟩,rfl⟩
  by_cases hlt:w.2.1<w.1
  ·refine Zd _ (Zb _ (ZS.mpr ⟨QaR w,hr,?_⟩))
   unfold QaR
   rw[if_pos hlt,if_neg (by omega)];rfl
  ·refine Zd _ (Zd _ ?_)
   have:QaR w=(w.1,w.2.1):=by
    unfold QaR
    rw[if_neg hlt]
    by_cases hgt:w.2.1>w.1
    ·rw[if_pos hgt]
    ·rw[if_neg hgt];rw[show w.2.1=w.1 by omega]
   rw[← this];exact hr
inductive Rk (m:Nat) (S:List (Int×Int)):Nat->Nat->Prop where
 | pit {s:Int×Int}{n:Nat}:s∈S->s.2=m->Rk m S (n+1) s.1.toNat
 | step {s:Int×Int}{k n:Nat}:s∈S->s.2≠m->Rk m S k s.2.toNat->k<n->Rk m S n s.1.toNat
theorem QoI{P:Nat->Prop}(h:∃n,P n):∃n,P n/\∀k,k<n->¬P k:=by
 obtain⟨n,hn⟩:=h
 induction n using Nat.strongRecOn with
 | _ n ih=>
  by_cases h:∃k,k<n/\P k
  ·obtain⟨k,hk,h⟩:=h;exact ih k hk h
  ·exact⟨n,hn,λk hk hx=>h ⟨k,hk,hx⟩⟩
theorem QAR{m:Nat}{S:List (Int×Int)}(he:QrW m S):∀p,p<m->∃n,Rk m S n p:=λp hp=>by
 by_cases h:∃n,Rk m S n p
 ·exact h
 ·exfalso
  obtain⟨s,hs,h1,h2,h3⟩:=he (λp=>¬ ∃n,Rk m S n p) ⟨p,hp,h⟩
  by_cases e:s.2=m
  ·exact h2 ⟨1,.pit hs e⟩
  ·rcases h3 with h3 | h3
   ·exact e h3
   ·have:∃n,Rk m S n s.2.toNat:=Zah λz=>h3 z
    obtain⟨k,hk⟩:=this
    exact h2 ⟨k+1,.step hs e hk (by omega)⟩
theorem Qw1{m:Nat}{S:List (Int×Int)}(hg:∀s∈S,Good m s)(he:QrW m S):∃r:Nat->Nat,r m=0/\∀p,p<m->∃s∈S,s.1=p/\r s.2.toNat<r p:=by
 have h:∀p,∃n,(p<m->Rk m S n p/\∀k,k<n->¬Rk m S k p)/\(p=m->n=0):=λp=>by
  by_cases hp:p<m
  ·obtain⟨n,hn⟩:=QoI (QAR he p hp)
   exact⟨n,λ_=>hn,λz=>by omega⟩
  ·exact⟨0,λz=>absurd z hp,λ_=>rfl⟩
 obtain⟨r,hr⟩:=ZbX h
 refine⟨r,(hr m).2 rfl,λp hp=>?_⟩
 have h1:=((hr p).1 hp).1
 generalize r p=n at h1
 cases h1 with
 | @pit s n hs e=>
  obtain⟨g1,g2,g3,g4,g5⟩:=hg s hs
  exact⟨s,hs,by omega,by rw[e,ZL,(hr m).2 rfl];omega⟩
 | @step s k n hs e hk hkn=>
  obtain⟨g1,g2,g3,g4,g5⟩:=hg s hs
  refine⟨s,hs,by omega,?_⟩
  have hl:s.2.toNat<m:=by omega
  have:=((hr s.2.toNat).1 hl).2 k
  have:¬k<r s.2.toNat:=λz=>this z hk
  omega
theorem Qoa(r:Nat->Nat):∀m:Nat,∃N,∀p,p<=m->r p<=N
 | 0=>⟨r 0,λp hp=>by rw[show p=0 by omega];exact Zh _⟩
 | m+1=>by
  obtain⟨N,hN⟩:=Qoa r m
  refine⟨N+r (m+1),λp hp=>?_⟩
  by_cases e:p=m+1
  ·subst e;omega
  ·have:=hN p (by omega);omega
theorem Qta{m:Nat}{i:Nat}{s:Int×Int}(hi:i<m)(g:Good m s)(w:Nat->Int)(hw:w m=0):Qk m (λj=>hit i j s*w j)=if s.1=i then w s.2.toNat-w i else 0:=by
 obtain⟨g1,g2,g3,g4,g5⟩:=g
 by_cases h:s.1=i
 ·rw[if_pos h]
  have e:Qk m (λj=>hit i j s*w j)=Qk m (λj=>(if j=s.2.toNat then 1 else 0)*w j+(if j=i then-1 else 0)*w j):=Qm λj _=>by
   have:hit i j s=(if j=s.2.toNat then 1 else 0)+(if j=i then-1 else 0):=by
    unfold hit
    by_cases a:s.2=j
    ·by_cases b:i=j
     ·rw[if_pos ⟨h,a⟩,if_pos ⟨h,b⟩,if_pos (by omega),if_pos b.symm];omega
     ·rw[if_pos ⟨h,a⟩,if_neg (λz=>b z.2),if_pos (by omega),if_neg (λz=>b z.symm)];omega
    ·by_cases b:i=j
     ·rw[if_neg (λz=>a z.2),if_pos ⟨h,b⟩,if_neg (by omega),if_pos b.symm];omega
     ·rw[if_neg (λz=>a z.2),if_neg (λz=>b z.2),if_neg (by omega),if_neg (λz=>b z.symm)];omega
   rw[this,ZX]
  rw[e,QaJ,QaS hi]
  by_cases hm:s.2.toNat<m
  ·rw[QaS hm];omega
  ·have e2:Qk m (λj=>(if j=s.2.toNat then 1 else 0)*w j)=0:=by
    rw[Qm λj hj=>by rw[if_neg (by omega),Zy],Qbu]
   rw[e2,show s.2.toNat=m by omega,hw];omega
 ·rw[if_neg h]
  rw[Qm (g:=λ_=>0) λj hj=>by
   unfold hit
   rw[if_neg (λz=>h z.1),if_neg (λz=>h z.1)];rw[Zbi,Zy],Qbu]
theorem Qlg{α:Type}{g:α->Int}{X:Int}:∀S:List α,(∀s∈S,g s<=X)->(S.map g).sum<=S.length*X
 | [],_=>by simp
 | a::S,h=>by
  have h1:=h a (by simp)
  have h2:=Qlg S λs hs=>h s (by simp[hs])
  simp only[ZJ,Zaz,ZP,Zaf,ZX]
  rw[show((1:Nat):Int)*X=X by simp]
  omega
theorem QkF{α:Type}{g:α->Int}{X Y:Int}:∀(S:List α),(∀s∈S,g s<=X)->(∃s∈S,g s<=Y)->(S.map g).sum<=S.length*X-X+Y
 | [],_,h=>by obtain⟨s,hs,_⟩:=h;exact absurd hs (by simp)
 | a::S,h,h2=>by
  obtain⟨s,hs,hy⟩:=h2
  have hb:∀s∈S,g s<=X:=λs hs=>h s (by simp[hs])
  simp only[ZJ,Zaz,ZP,Zaf,ZX]
  rw[show((1:Nat):Int)*X=X by simp]
  rcases Zq.mp hs with e | hs
  ·subst e
   have:=Qlg S hb
   omega
  ·have:=QkF S hb ⟨s,hs,hy⟩
   have:=h a (by simp)
   omega
theorem Qkr{α:Type}{g:α->Int}:∀S:List α,(∀s∈S,0<=g s)->0<=(S.map g).sum
 | [],_=>by simp
 | a::S,h=>by
  have h1:=h a (by simp)
  have h2:=Qkr S λs hs=>h s (by simp[hs])
  simp only[ZJ,Zaz]
  omega
theorem QtY{m:Nat}{S:List (Int×Int)}(hg:∀s∈S,Good m s)(he:QrW m S)(hl:S.length<2^60):TP m (Qz m S):=by
 have hn:∀s∈S,0<=s.1/\0<=s.2:=λs hs=>⟨(hg s hs).1,(hg s hs).2.1⟩
 have pos:∀i j,i<m->j<m->i≠j->0<=Qz m S i j:=λi j hi hj hij=>by
  rw[Qdt hi hj hn]
  refine Qkr S λs _=>?_
  unfold hit
  rw[if_neg (λz=>hij z.2) (c:=s.1=i/\i=j)]
  split<;>omega
 obtain⟨r,r0,hr⟩:=Qw1 hg he
 obtain⟨N,hN⟩:=Qoa r m
 have M1:1<=S.length+1:=by omega
 have wt:∃w:Nat->Int,(∀j,0<=w j)/\∀i,i<m->Qk m (λj=>Qz m S i j*w j)<= -1:=by
  refine⟨λv=>(((S.length+1)^N:Nat):Int)-(((S.length+1)^(N-r v):Nat):Int),λj=>?_,λi hi=>?_⟩
  ·have:=ZD M1 (Nat.sub_le N (r j))
   show(0:Int)<=(((S.length+1)^N:Nat):Int)-(((S.length+1)^(N-r j):Nat):Int)
   omega
  ·generalize hw:(λv=>(((S.length+1)^N:Nat):Int)-(((S.length+1)^(N-r v):Nat):Int))=w
   have hw':∀v,w v=(((S.length+1)^N:Nat):Int)-(((S.length+1)^(N-r v):Nat):Int):=λv=>by rw[← hw]
   have wm:w m=0:=by rw[hw',r0,Zbw];omega
   have e:Qk m (λj=>Qz m S i j*w j)=(S.map λs=>if s.1=(i:Int)then w s.2.toNat-w i else 0).sum:=by
    rw[Qm (g:=λj=>(S.map λs=>hit i j s*w j).sum) λj hj=>by
     rw[Qdt hi hj hn,ZV,QqI]
     congr 1
     exact ZO λs _=>ZV _ _]
    rw[QmS m (λj s=>hit i j s*w j) S]
    congr 1
    exact ZO λs hs=>Qta hi (hg s hs) w wm
   rw[e]
   obtain⟨s0,hs0,e0,hlt⟩:=hr i hi
   generalize hX:(((S.length+1)^(N-r i):Nat):Int)=X
   have X1:1<=X:=by
    have:0<(S.length+1)^(N-r i):=Nat.pow_pos (by omega)
    omega
   have key:=QkF (Y:=X-(S.length+1)*X) S (λs _=>by
    show(if s.1=i then w s.2.toNat-w i else 0)<=X
    split
    ·rw[hw',hw' i,hX]
     have:0<=(((S.length+1)^(N-r s.2.toNat):Nat):Int):=ZaJ _
     omega
    ·omega) ⟨s0,hs0,by
    show(if s0.1=i then w s0.2.toNat-w i else 0)<=_
    rw[if_pos e0,hw',hw' i,hX]
    have hb:=hN i (by omega)
    have h1:(S.length+1)^(N-r i+1)<=(S.length+1)^(N-r s0.2.toNat):=ZD M1 (by omega)
    rw[Zcd]at h1
    have h2:((((S.length+1)^(N-r i)*(S.length+1):Nat)):Int)<=(((S.length+1)^(N-r s0.2.toNat):Nat):Int):=by exact_mod_cast h1
    rw[Zak,hX,ZV]at h2
    rw[show((S.length+1:Nat):Int)=(S.length:Int)+1 by omega]at h2
    omega⟩
   have:((S.length:Int)+1)*X=S.length*X+X:=by rw[ZX,ZK]
   omega
 refine⟨λp hp=>?_,pos,λi j hi hj=>?_,wt⟩
 ·obtain⟨w,w0,hw⟩:=wt
  have h1:=hw p hp
  by_cases hneg:Qz m S p p<0
  ·exact hneg
  ·exfalso
   have:0<=Qk m (λj=>Qz m S p j*w j):=by
    have:=Qdx (f:=λ_=>0) (g:=λj=>Qz m S p j*w j) λj hj=>by
     by_cases e:p=j
     ·subst e;exact ZaA (by omega) (w0 _)
     ·exact ZaA (pos p j hp hj e) (w0 _)
    rw[Qbu]at this
    exact this
   omega
 ·rw[Qdt hi hj hn]
  have:=QgQ i j S
  omega
theorem Qbg.tp{m:Nat}{R L:List (Int×Int)}(h:Qbg m R L):TP m (Qz m (Qv R L)):=by
 have hg:=h.good
 refine QtY (QdI hg.1 hg.2.1) ?_ ?_
 ·obtain⟨W,h1,_,_,rfl,rfl⟩:=h.ex
  exact QsY h1
 ·unfold Qv
  simp only[Zr,Zs]
  omega
theorem Qbg.neg{m:Nat}{R L:List (Int×Int)}(h:Qbg m R L){i:Nat}(hi:i<m):0-Qz m (Qv R L) i i=Qq5 R L i:=by
 have hg:=h.good
 have hs:=QdI hg.1 hg.2.1
 rw[Qdt hi hi (λs z=>⟨(hs s z).1,(hs s z).2.1⟩),sum_neg _ _ (λs z=>(hs s z).2.2.2.2),Qtf]
 omega
structure Told (m:Nat) (T:Nat->Nat->Int) (f c:Nat->Int):Prop where
 leg:Leg m T f c
 pos:∀j,j<m->0<=QG m T f c j
 stb:Stb m T (QG m T f c)
theorem Qs3{fa fb fc:DE}{ρ:En}{ra rb rc:R}{n:Nat}(ha:fa ρ=some ra)(ea:ra.d= .int ((n:Int)-1))(hb:fb ρ=some rb)(eb:rb.d= .int (-1))(hc:fc ρ=some rc)(ec:rc.d= .int (-1))(hn:n<=16777216):Qhn fa fb fc ρ=some ⟨(List.range n).map λ(k:Nat)=> .int ((n:Int)-1-k),[]⟩:=by
 unfold Qhn
 rw[ha,Za,hb,Za,hc,Za,ea,eb,ec]
 show(if(n:Int)-1- -1<=16777216/\_ then _ else _)=_
 rw[if_pos ⟨by omega,by omega,by omega,by omega,by omega⟩]
 rw[show((n:Int)-1- -1).toNat=n by omega]
 rfl
theorem Qx3{fa fb:DE}{ρ:En}{ra rb:R}{a:Int}{k:Nat}(ha:fa ρ=some ra)(ea:ra.d= .int a)(hb:fb ρ=some rb)(eb:rb.d= .int k):dOp QrU fa fb ρ=some ⟨.int (a / 2^k),true,[]⟩:=by
 refine Qbb ha hb ?_
 rw[ea,eb]
 show(if(0:Int)<=k then some (D.int (a / 2^(k:Int).toNat))else none)=_
 rw[if_pos (by omega),ZL]
theorem QsH{x:Nat}{W:List (Int×Int×Bool)}{ρ:En}{b:Bool}(h:ρ[x]? =some (some (Qao W,b))):Qpt (Qa x) (Qlz (dC (.int 1))) ρ=some ⟨Qao W.reverse,true,[]⟩:=by
 unfold Qpt
 rw[QaX h,Za]
 have e:(if(Qao W).flat=true then HS.R.mk (Qao W) true []else if b=true then HS.R.mk (Qao W) true [x]else HS.R.mk (Qao W) false []).d=Qao W:=by cases b<;>rfl
 rw[e]
 show some (QaQ (W.map QcH).reverse _)=_
 rw[← List.map_reverse]
 unfold QaQ
 rw[if_pos (Qq6 _)];rfl
theorem QtP{m:Nat}{t kind:Int}:Esc m (Qcn m t kind):=λA ⟨p,hp,hA⟩=>by
 have ex:∃j:Nat,j<m/\A (((j:Int)+t) % m).toNat:=by
  have h1:=ZI ((p:Int)-t) (by omega:(m:Int)≠0)
  have h2:=ZE ((p:Int)-t) (by omega:(0:Int)<m)
  refine⟨(((p:Int)-t) % m).toNat,by omega,?_⟩
  have e:(((((p:Int)-t) % m).toNat:Int)+t) % m=p:=by
   rw[Int.toNat_of_nonneg h1,Int.emod_add_emod,ZaF]
   exact Zbx (by omega) (by omega)
  rw[e,ZL];exact hA
 obtain⟨j,⟨hj,hAj⟩,hmin⟩:=QoI ex
 have s1:=ZI ((j:Int)+t) (by omega:(m:Int)≠0)
 have s2:=ZE ((j:Int)+t) (by omega:(0:Int)<m)
 refine⟨Qfg m t kind j,ZS.mpr ⟨j,Zk.mpr hj,rfl⟩,?_,hAj,?_⟩
 ·exact s2
 ·show Qfj m t j=m∨¬A (Qfj m t j).toNat
  unfold Qfj
  split
  ·rename_i h
   have n1:=ZI (Qbs t j) (by omega:(j:Int)+1≠0)
   right
   intro z
   refine hmin (Qbs t j % ((j:Int)+1)).toNat (by omega) ⟨by omega,?_⟩
   rw[Int.toNat_of_nonneg n1]
   exact z
  ·exact .inl rfl
theorem QuQ{i:Nat}{g:Nat->Int}{v:Int}:((List.range i).map λk=>D.int (g k))++[.int v]=(List.range (i+1)).map λk=>D.int (up g i v k):=by
 rw[ZaY,ZZ]
 congr 1
 ·refine ZO λk hk=>?_
  have:=Zk.mp hk
  unfold up
  rw[if_neg (by omega)]
 ·show _=[D.int (up g i v i)]
  unfold up
  rw[if_pos rfl]
theorem QtQ{x:Nat}{fa:DE}{ρ:En}{r:R}{i:Nat}{g:Nat->Int}{v:Int}{Q:Out->Prop}(hx:ρ[x]? =some (some (Qf i g,true)))(ha:fa ρ=some r)(e:r.d= .int v)(hl:i<16777216)(q:Q (.nx (ρ.set x (some (Qf (i+1) (up g i v),true))))):Run (QdS x Qal fa) ρ Q:=by
 refine QiU (xs:=(List.range i).map λk=>D.int (g k)) hx ha (by rw[e];rfl) (by simpa using hl) ?_
 rw[e,QuQ]
 exact q
theorem Qi2{fa:DE}{ρ:En}{r:R}{m:Nat}{f:Nat->Int}(h:fa ρ=some r)(e:r.d=Qf m f):dBf QaD (Qc fa Qg) ρ=some ⟨.int m,true,[]⟩:=by
 rw[Qkt h e];simp
theorem Qk0{fs:DA}{ρ:En}{rs:RA}(h:fs ρ=some rs)(hl:rs.ds.length<=64):QaC fs ρ=some ⟨.lst rs.ds,rs.fr,rs.M⟩:=by
 unfold QaC
 rw[h,Za,if_pos hl]
theorem QlB(n m:Nat)(f:Nat->Int):(Qf m f).sim (n+1)=true:=by
 unfold Qf
 simp only[D.sim,List.all_map,Zaw]
 intro p _
 cases n<;>rfl
theorem Qr8{m n:Nat}{f g:Nat->Nat->Int}(h:∀i,i<m->∀j,j<n->f i j=g i j):Qd m n f=Qd m n g:=by
 unfold Qd Qf
 congr 1
 refine ZO λi hi=>?_
 congr 1
 refine ZO λj hj=>?_
 rw[h i (Zk.mp hi) j (Zk.mp hj)]
theorem Qef{fa fb:DE}{ρ:En}{ra rb:R}{m n:Nat}{f:Nat->Nat->Int}{i:Int}(ha:fa ρ=some ra)(ea:ra.d=Qd m n f)(hb:fb ρ=some rb)(eb:rb.d= .int i)(h0:0<=i)(h:i<m):Qr fa fb ρ=some ⟨Qf n (f i.toNat),ra.fr,ra.M⟩:=by
 unfold Qr
 rw[ha,Za,hb,Za,ea,eb]
 simp only[Qd,D.items,Za,QlP h0 h,Zae]
 rfl
theorem QoW{x m n:Nat}{f:Nat->Nat->Int}{fp fi fa:DE}{ρ:En}{i j v:Int}{rp ri ra:R}{Q:Out->Prop}(hx:ρ[x]? =some (some (Qd m n f,true)))(hp:fp ρ=some rp)(ep:rp.d= .int i)(hi:fi ρ=some ri)(ei:ri.d= .int j)(ha:fa ρ=some ra)(ea:ra.d= .int v)
  (h0:0<=i) (h:i<m) (k0:0<=j) (k:j<n) (q:Q (.nx (ρ.set x (some (Qd m n (up2 f i.toNat j.toNat v),true))))):Run (Qcj x (Qcm Qal fp) fi fa) ρ Q:=by
 refine⟨_,?_,q⟩
 have hn:ra.norm=⟨.int v,true,[]⟩:=by unfold HS.R.norm;rw[ea];rfl
 have hd:Qa9 (Qd m n f) [i]=some (Qf n (f i.toNat)):=by
  simp only[Qa9,Qd,D.items,Za,QlP h0 h]
 have hu:Qbt [i] (Qd m n f) (.lst (((List.range n).map λk=>D.int (f i.toNat k)).set j.toNat (.int v)))=Qd m n (up2 f i.toNat j.toNat v):=by
  simp only[Qbt,Qd,Zs,Zo,Qb5 h0 h,QlO]
  rw[Qfm]
  congr 2;funext k
  unfold up2
  split
  ·rename_i e;subst e;rfl
  ·rfl
 unfold Qcj
 rw[ha,Za,hx]
 simp only[Qcm,Qal,Za,hp,ep,Zbk,hi,ei,hd,Qf,Zs,Zo,Qb5 k0 k,hn,ea]
 simp only[kill,List.contains_nil,Bool.not_false,Bool.and_true,decide_true,ZaL,if_true]
 rw[hu]
noncomputable def Qhk:DS:=(Qe (Qo 1 (QQ (Qr (Qa 0) (dC (.int 0))) (dC (.int 1)))) (Qe (Qo 2 (QM (QaY (Qa 1)) (.nm 1) [none,none,some 1] QW (Qav (QaC (Qc (dC (.int 0)) Qg)) (Qa 2)))) (Qe (Qo 5 (QQ (Qr (Qa 0) (dC (.int 1))) (QM (QY (Qr (Qa 0) (dC (.int 1)))) (.tp [1,2]) [none,none,none] QW (Qat (Qc (Qa 2) (Qc (Qa 1) Qg)))))) (Qe (Qbl (QY (QQ (Qa 5) (Qr (Qa 0) (dC (.int 2))))) (.tp [3,4]) (Qe (Qcj 2 (Qcm Qal (Qa 3)) (Qa 3) (dOp Qa6 (Qr (Qr (Qa 2) (Qa 3)) (Qa 3)) (dC (.int 1)))) (Qe (Qcj 2 (Qcm Qal (Qa 3)) (Qa 4) (QQ (Qr (Qr (Qa 2) (Qa 3)) (Qa 4)) (dC (.int 1)))) Qp))) (Qe (QP (QM (QY (QcI (Qa 2) Qbv (Qbw (Qr (Qa 0) (dC (.int 0)))))) (.nm 1) [none,none,some 0] QW (QcI (Qa 1) Qbv (Qbw (Qr (Qa 2) (dC (.int 0))))))) Qp)))))
theorem Qso{m n k:Nat}{f:Nat->Nat->Int}(h:n<=m):cutD ((List.range m).map λi=>Qf k (f i)) none (some (n:Int))=(List.range n).map λi=>Qf k (f i):=by
 unfold cutD
 simp only[Zs,Zo,HT.QfR,HT.Qhr,Zci,Zbw,ZaO h]
 rw[← Zcm,List.take_range,ZaO h]
def TabsOk(d:Den):Prop:=∀(m:Nat) (R L:List (Int×Int)),0<m->m<=1000->R.length+R.length+L.length<=1000000->(∀s∈R,Good m s)->(∀s∈L,Good m s)->d [QR m R L]=some (Qd m m (Qz m (Qv R L)),true)
theorem QwJ:TabsOk (Qn 6 Qhk):=λm R L m0 hm hl hR hL=>by
 have gS:=QdI hR hL
 have it:∀{ρ:En},ρ[0]? =some (some (QR m R L,false))->Qa 0 ρ=some ⟨QR m R L,false,[]⟩:=λh=>QaX h
 have fin:Qd m m (Qz (m+1) (Qv R L))=Qd m m (Qz m (Qv R L)):=Qr8 λi hi j hj=>by
  rw[Qdt (m:=m+1) (by omega) (by omega) λs hs=>⟨(gS s hs).1,(gS s hs).2.1⟩,Qdt hi hj λs hs=>⟨(gS s hs).1,(gS s hs).2.1⟩]
 rw[← fin]
 refine QX ?_
 refine run_seq (Qh (Qac (a:=(m:Int)) (b:=1) (QeW (it rfl) rfl).1 rfl rfl rfl) ?_)
 rw[Qi]
 refine run_seq (Qh (QN (out:=λ_=>Qf (m+1) λ_=>0) (List.range (m+1)) (Qbm (n:=m+1) (r:=⟨.int (m+1:Nat),true,[]⟩) rfl rfl (by omega)) rfl λx _=>⟨[none,some (.int x,true),some (.int (m+1:Nat),true)],rfl,_,Qh7 (n:=m+1) (r:=⟨.int (m+1:Nat),true,[]⟩) rfl rfl (by omega),rfl,rfl⟩) ?_)
 rw[Qi]
 refine run_seq (Qh (QfD (A:=R) (B:=R.map Prod.swap) (rb:=⟨QT (R.map Prod.swap),true,[]⟩) (QeW (it rfl) rfl).2.1 rfl ?_ rfl (by simp;omega)) ?_)
 ·have e1:(R.map λx=>pairD x.swap)=(R.map Prod.swap).map pairD:=by simp[Zaj,Function.comp_def]
  unfold QT
  rw[← e1]
  exact QN (toD:=pairD) (out:=λx=>pairD x.swap) R (Q0 (QeW (it rfl) rfl).2.1 rfl) rfl λx _=>⟨[none,some (.int x.1,true),some (.int x.2,true)],rfl,⟨pairD x.swap,true,[]⟩,rfl,rfl,rfl⟩
 rw[Qi]
 refine Qar (P:=λρ=>∃j3 j4,ρ=[some (QR m R L,false),some (.int (m+1:Nat),true),some (Qd (m+1) (m+1) (Qz (m+1) (Qv R L)),true),j3,j4,some (QT (R++R.map Prod.swap),true)]) ?_ ?_
 ·refine QaF (toD:=pairD) (Qv R L) (λi ρ=>∃j3 j4,ρ=[some (QR m R L,false),some (.int (m+1:Nat),true),some (Qd (m+1) (m+1) (Qz (m+1) ((Qv R L).take i)),true),j3,j4,some (QT (R++R.map Prod.swap),true)]) (ir:=⟨(Qv R L).map pairD,[]⟩) ?_ rfl ⟨none,none,rfl⟩ ?_ ?_
  ·exact Q0 (QfD (A:=R++R.map Prod.swap) (B:=L) (ra:=⟨QT (R++R.map Prod.swap),true,[5]⟩) rfl rfl (QeW (it rfl) rfl).2.2 rfl (by simp;omega)) rfl
  ·rintro i s ρ hi ⟨j3,j4,rfl⟩
   obtain⟨s1,s2,s3,s4,s5⟩:=gS s (Zao hi)
   have c1:s.1<((m+1:Nat):Int):=by omega
   have c2:s.2<((m+1:Nat):Int):=by omega
   refine⟨_,rfl,?_⟩
   have step:Qz (m+1) ((Qv R L).take (i+1))=stepT (m+1) (Qz (m+1) ((Qv R L).take i)) s:=by
    unfold Qz
    rw[List.take_add_one,hi,List.foldl_append];rfl
   have e1:∀{ρ:En}{f:Nat->Nat->Int}(y:Nat) (k:Int),ρ[2]? =some (some (Qd (m+1) (m+1) f,true))->ρ[3]? =some (some (.int s.1,true))->ρ[y]? =some (some (.int k,true))->0<=k->k<((m+1:Nat):Int)->Qr (Qr (Qa 2) (Qa 3)) (Qa y) ρ=some ⟨.int (f s.1.toNat k.toNat),true,[]⟩:=λ{ρ f} y k h2 h3 hy k0 kl=>
    Qmn (Qef (QaX h2) rfl (Qpp h3) rfl s1 c1) rfl (Qpp hy) rfl k0 kl
   refine run_seq (QoW (i:=s.1) (j:=s.1) (m:=m+1) (n:=m+1) rfl rfl rfl rfl rfl (Qbb (e1 3 s.1 rfl rfl rfl s1 c1) rfl rfl) rfl s1 c1 s1 c1 ?_)
   refine run_seq (QoW (i:=s.1) (j:=s.2) (m:=m+1) (n:=m+1) rfl rfl rfl rfl rfl (Qac (e1 4 s.2 rfl rfl rfl s2 c2) rfl (QaL (.int 1) _) rfl) rfl s1 c1 s2 c2 (Qt ⟨some (.int s.1,true),some (.int s.2,true),?_⟩))
   rw[step]
   unfold stepT
   rw[if_pos ⟨c1,c2⟩,if_pos c1]
   rfl
  ·rintro ρ ⟨j3,j4,rfl⟩
   rw[Zbh]
   exact⟨j3,j4,rfl⟩
 rintro ρ ⟨j3,j4,rfl⟩
 refine QC (QN (toD:=λ(i:Nat)=>Qf (m+1) (Qz (m+1) (Qv R L) i)) (out:=λ(i:Nat)=>Qf m (Qz (m+1) (Qv R L) i)) (ir:=⟨(List.range m).map λi=>Qf (m+1) (Qz (m+1) (Qv R L) i),[2]⟩) (List.range m) ?_ rfl λi hi=>⟨[none,some (Qf (m+1) (Qz (m+1) (Qv R L) i),false),some (QR m R L,false)],rfl,_,Qqg (m:=m+1) (n:=m) (ra:=⟨Qf (m+1) (Qz (m+1) (Qv R L) i),false,[]⟩) rfl rfl (QeW (r:=⟨QR m R L,false,[]⟩) rfl rfl).1 rfl (by omega),rfl,rfl⟩) ⟨rfl,rfl⟩
 refine Q0 (r:=⟨.lst ((List.range m).map λi=>Qf (m+1) (Qz (m+1) (Qv R L) i)),false,[2]⟩) ?_ rfl
 unfold QcI Qbv Qbw
 rw[QaX (d:=Qd (m+1) (m+1) (Qz (m+1) (Qv R L))) (b:=true) rfl,(QeW (it rfl) rfl).1]
 show some (QaQ (cutD ((List.range (m+1)).map λi=>Qf (m+1) (Qz (m+1) (Qv R L) i)) none (some (m:Int))) [2])=_
 rw[Qso (by omega)]
 unfold QaQ
 have:Qak ((List.range m).map λi=>Qf (m+1) (Qz (m+1) (Qv R L) i))=false:=by
  cases m with
  | zero=>omega
  | succ m=>rw[Zbv];rfl
 rw[this];rfl
theorem QxH{fa fb:DE}{ρ:En}{ra rb:R}{a b:Int}(ha:fa ρ=some ra)(ea:ra.d= .int a)(hb:fb ρ=some rb)(eb:rb.d= .int b):dBf Qgw (Qc fa (Qc fb Qg)) ρ=some ⟨.int (if b>a then b else a),true,[]⟩:=by
 unfold dBf
 rw[Qq ha (Qq hb (QS _)),Za]
 simp only[ea,eb,Qgw,Zae]
noncomputable def Qa8(l:List Nat):D:= .lst (l.map λ(p:Nat)=> .int (p:Int))
theorem Qx0{fa fb:DE}{ρ:En}{ra rb:R}{a b:Int}(ha:fa ρ=some ra)(ea:ra.d= .int a)(hb:fb ρ=some rb)(eb:rb.d= .int b):dBf QgA (Qc fa (Qc fb Qg)) ρ=some ⟨.int (if b<a then b else a),true,[]⟩:=by
 unfold dBf
 rw[Qq ha (Qq hb (QS _)),Za]
 simp only[ea,eb,QgA,Zae]
noncomputable def Qrj:Option Int->D
 | none=> .non
 | some i=> .int i
@[simp] theorem QvU(o:Option Int):(Qrj o).flat=true:=by cases o<;>rfl
noncomputable def QBm(m:Nat)(F:Nat->Option Int):D:= .lst ((List.range m).map λi=>Qrj (F i))
@[simp] theorem QBH(m:Nat)(F:Nat->Option Int):(QBm m F).flat=false:=rfl
@[simp] theorem QAZ(m:Nat)(F:Nat->Option Int):Qak ((List.range m).map λi=>Qrj (F i))=true:=Qce (f:=λi=>Qrj (F i)) (λ_=>QvU _) _
theorem Qgp{fa fb:DE}{ρ:En}{ra rb:R}{i j:Int}{n:Nat}(ha:fa ρ=some ra)(ea:ra.d= .int i)(hb:fb ρ=some rb)(eb:rb.d= .int j)(hn:(n:Int)=j-i)(hl:n<=16777216)(h1: -(2^62)<=i)(h2:i<2^61):QdN fa fb ρ=some ⟨(List.range n).map λ(k:Nat)=> .int (i+k),[]⟩:=by
 unfold QdN
 rw[ha,Za,hb,Za,ea,eb]
 show(if j-i<=16777216/\_ then _ else _)=_
 rw[if_pos ⟨by omega,by omega,by omega,by omega,by omega⟩]
 rw[show(j-i).toNat=n by omega]
 rfl
theorem Leg.mono{m:Nat}{T:Nat->Nat->Int}{f g c:Nat->Int}(h:Leg m T f c)(e:∀i,i<m->f i<=g i):Leg m T g c:=by
 induction h with
 | nil=>exact .nil
 | @step c p t _ hp ht hle ih=>
  refine .step ih hp ht ?_
  have:=e p hp
  unfold QG at hle ⊢
  omega
theorem Qj7{m:Nat}{T:Nat->Nat->Int}{f c d:Nat->Int}(j:Nat):QG m T (QG m T f c) d j=QG m T f (λi=>c i+d i) j:=by
 unfold QG
 have e:(λi=>(c i+d i)*T i j)=λi=>c i*T i j+d i*T i j:=by funext i;rw[ZX]
 rw[e,QaJ]
 show f j+Qk m (λi=>c i*T i j)+_=_
 omega
theorem Qxx{m:Nat}{T:Nat->Nat->Int}{f g c d:Nat->Int}(j:Nat):QG m T (λi=>f i+g i) (λi=>c i+d i) j=QG m T f c j+QG m T g d j:=by
 unfold QG
 have e:(λi=>(c i+d i)*T i j)=λi=>c i*T i j+d i*T i j:=by funext i;rw[ZX]
 rw[e,QaJ]
 show f j+g j+_=_
 omega
theorem Leg.trans{m:Nat}{T:Nat->Nat->Int}{f c d:Nat->Int}(h:Leg m T f c)(h2:Leg m T (QG m T f c) d):Leg m T f (λi=>c i+d i):=by
 induction h2 with
 | nil=>exact h.cast λi=>by simp
 | @step d p t _ hp ht hle ih=>
  rw[Qj7]at hle
  refine(Leg.step ih hp ht hle).cast λi=>?_
  unfold up
  split
  ·rename_i e;subst e;show c i+d i+t=c i+(d i+t);omega
  ·rfl
theorem Told.lay{m:Nat}{T:Nat->Nat->Int}{F C F' h c:Nat->Int}(hC:Told m T F C)(hF:∀j,j<m->F j<=F' j)(hh:∀j,j<m->h j=QG m T F C j+(F' j-F j))(hc:Told m T h c):Told m T F' (λi=>C i+c i)/\∀j,j<m->QG m T h c j=QG m T F' (λi=>C i+c i) j:=by
 have e1:∀j,j<m->h j=QG m T F' C j:=λj hj=>by
  rw[hh j hj]
  unfold QG
  omega
 have e2:∀j,j<m->QG m T h c j=QG m T F' (λi=>C i+c i) j:=λj hj=>by
  rw[← Qj7]
  exact Qeg j (e1 j hj) λ_ _=>rfl
 exact⟨⟨(hC.leg.mono hF).trans (hc.leg.Qwb e1),λj hj=>by rw[← e2 j hj];exact hc.pos j hj,λj hj=>by rw[← e2 j hj];exact hc.stb j hj⟩,e2⟩
theorem Told.both{m:Nat}{T:Nat->Nat->Int}{f g c d e:Nat->Int}(hf:Told m T f c)(hg:Told m T g d)(g0:∀j,j<m->0<=g j)(he:Told m T (λj=>QG m T f c j+QG m T g d j) e):Told m T (λj=>f j+g j) (λi=>c i+d i+e i)/\∀j,j<m->QG m T (λj=>QG m T f c j+QG m T g d j) e j=QG m T (λj=>f j+g j) (λi=>c i+d i+e i) j:=by
 have l1:Leg m T (λj=>f j+g j) c:=hf.leg.mono λj hj=>by have:=g0 j hj;show f j<=f j+g j;omega
 have a1:∀j,QG m T (λj=>f j+g j) c j=QG m T f c j+g j:=λj=>by unfold QG;show f j+g j+_=_;omega
 have l2:Leg m T (QG m T (λj=>f j+g j) c) d:=hg.leg.mono λj hj=>by rw[a1];have:=hf.pos j hj;omega
 have l3:Leg m T (λj=>f j+g j) (λi=>c i+d i):=l1.trans l2
 have a3:∀j,j<m->QG m T f c j+QG m T g d j=QG m T (λj=>f j+g j) (λi=>c i+d i) j:=λj _=>(Qxx j).symm
 have e2:∀j,j<m->QG m T (λj=>QG m T f c j+QG m T g d j) e j=QG m T (λj=>f j+g j) (λi=>c i+d i+e i) j:=λj hj=>by
  rw[← Qj7 (c:=λi=>c i+d i) (d:=e)]
  exact Qeg j (a3 j hj) λ_ _=>rfl
 exact⟨⟨l3.trans (he.leg.Qwb a3),λj hj=>by rw[← e2 j hj];exact he.pos j hj,λj hj=>by rw[← e2 j hj];exact he.stb j hj⟩,e2⟩
theorem Told.one{m:Nat}{T:Nat->Nat->Int}(tp:TP m T){f c d:Nat->Int}(h:Told m T f c)(g:Told m T f d):∀i,i<m->c i=d i:=h.leg.unique tp g.leg h.stb g.stb
abbrev QaK(i:Int):Prop:=Builtin.Int.intBits i<=2^20
theorem Qhv{i:Int}(h:i.natAbs<2^300):QaK i:=Zi (Zbp h) (by decide)
noncomputable def QnW:DS:=(Qe (QP (QM (QY (Qa 0)) (.nm 1) [none,none,some 1] QW (Qr (Qa 1) (Qa 2)))) Qp)
def QhJ(d:Den):Prop:=∀(n m:Nat) (f:Nat->Nat->Int) (j:Nat),j<m->d [Qd n m f,.int j]=some (Qf n (λi=>f i j),true)
theorem Qr2:QhJ (Qn 2 QnW):=λn m f j hj=>
 QX (QC (QN (List.range n) (Q0 rfl rfl) rfl λi _=>⟨_,rfl,⟨.int (f i j),true,[]⟩,QaN rfl rfl rfl rfl hj,rfl,rfl⟩) ⟨rfl,rfl⟩)
noncomputable def Qpa(Qch:Den):DS:=(Qe (QP (QM (QaY (dBf QaD (Qc (Qa 0) Qg))) (.nm 1) [none,none,some 0] QW (Qj 2 Qch [] (Qc (Qa 2) (Qc (Qa 1) Qg))))) Qp)
theorem QcA{fa:DE}{ρ:En}{r:R}{n m:Nat}{f:Nat->Nat->Int}(h:fa ρ=some r)(e:r.d=Qd n m f):dBf QaD (Qc fa Qg) ρ=some ⟨.int n,true,[]⟩:=by
 rw[Qkt h e];simp
def QfT(d:Den):Prop:=∀(n:Nat) (f:Nat->Nat->Int),n<=1000->d [Qd n n f]=some (Qd n n (λj i=>f i j),true)
theorem Qsf{dc:Den}(hc:QhJ dc):QfT (Qn 1 (Qpa dc)):=λn f hn=>
 QX (QC (QN (List.range n) (Qbm (QcA rfl rfl) rfl (by omega)) rfl λj hj=>⟨[none,some (.int j,true),some (Qd n n f,false)],rfl,⟨Qf n (λi=>f i j),true,[]⟩,Ql rfl (hc n n f j (Zk.mp hj)) rfl,rfl,rfl⟩) ⟨rfl,rfl⟩)
noncomputable def Qpb:DS:=(Qe (QP (dBf QiZ (Qc (QM (Qe3 (Qa 0) (Qa 1)) (.tp [1,2]) [none,none,none] QW (Qav (Qa 1) (Qa 2))) Qg))) Qp)
def Qkn(d:Den):Prop:=∀(n:Nat) (a b:Nat->Int),(∀i,i<n->QaK (a i)/\QaK (b i))->d [Qf n a,Qf n b]=some (.int (Qk n λi=>a i*b i),true)
theorem Qsi:Qkn (Qn 2 Qpb):=λn a b hb=>
 QX (QC (QxG (QN (List.range n) (QfA rfl rfl rfl rfl) rfl λi hi=>⟨[none,some (.int (a i),true),some (.int (b i),true)],rfl,⟨.int (a i*b i),true,[]⟩,QaH rfl rfl rfl rfl (Qc9 (hb i (Zk.mp hi)).1 (hb i (Zk.mp hi)).2),rfl,rfl⟩) rfl) ⟨rfl,rfl⟩)
noncomputable def QmE(QeP:Den):DS:=(Qe (QP (QM (QY (Qa 1)) (.nm 1) [none,none,some 0] QW (Qj 2 QeP [] (Qc (Qa 2) (Qc (Qa 1) Qg))))) Qp)
def QjO(d:Den):Prop:=∀(n k:Nat) (a:Nat->Int) (f:Nat->Nat->Int),(∀i,i<n->QaK (a i))->(∀j i,j<k->i<n->QaK (f j i))->d [Qf n a,Qd k n f]=some (Qf k (λj=>Qk n λi=>a i*f j i),true)
theorem Qsz{ds:Den}(hs:Qkn ds):QjO (Qn 2 (QmE ds)):=λn k a f ha hf=>
 QX (QC (QN (List.range k) (Q0 rfl rfl) rfl λj hj=>⟨_,rfl,⟨.int (Qk n λi=>a i*f j i),true,[]⟩,Ql rfl (hs n a (f j) λi hi=>⟨ha i hi,hf j i (Zk.mp hj) hi⟩) rfl,rfl,rfl⟩) ⟨rfl,rfl⟩)
noncomputable def QmI(Qbi:Den)(Qej:Den):DS:=(Qe (Qo 2 (Qj 1 Qbi [] (Qc (Qa 1) Qg))) (Qe (QP (QM (QY (Qa 0)) (.nm 1) [none,none,some 2] QW (Qj 2 Qej [] (Qc (Qa 1) (Qc (Qa 2) Qg))))) Qp))
noncomputable def prodF(n:Nat)(f g:Nat->Nat->Int):Nat->Nat->Int:=λi j=>Qk n λk=>f i k*g k j
def Qnk(n:Nat)(f:Nat->Nat->Int):Prop:=∀i j,i<n->j<n->QaK (f i j)
def Qgt(d:Den):Prop:=∀(n:Nat) (f g:Nat->Nat->Int),n<=1000->Qnk n f->Qnk n g->d [Qd n n f,Qd n n g]=some (Qd n n (prodF n f g),true)
theorem Qrs{dt dl:Den}(ht:QfT dt)(hl:QjO dl):Qgt (Qn 3 (QmI dt dl)):=λn f g hn hf hg=>by
 refine QX ?_
 refine run_seq (Qh (Ql rfl (ht n g hn) rfl) ?_)
 rw[Qi]
 refine QC (QN (List.range n) (Q0 rfl rfl) rfl λi hi=>⟨_,rfl,⟨Qf n (prodF n f g i),true,[]⟩,Ql rfl (hl n n (f i) (λj i=>g i j) (λk hk=>hf i k (Zk.mp hi) hk) (λj k hj hk=>hg k j hk hj)) rfl,rfl,rfl⟩) ⟨rfl,rfl⟩
noncomputable def QfH(Qax:Den):DS:=(Qe (sIf (bOr (Qck (QO (Qj3 "list" (Qa 0)))) (QO (dOp gNe (dBf QaD (Qc (Qa 0) Qg)) (Qa 1)))) (Qe (QP (dC (.bl false))) Qp) Qp) (Qe (QP (dOp gEq (dBf QaD (Qc (QM (QY (Qa 0)) (.nm 1) [none,none] (QO (Qj 1 Qax [] (Qc (Qa 1) Qg))) (Qa 1)) Qg)) (Qa 1))) Qp))
def Qia(d:Den):Prop:=∀(n:Nat) (a:Nat->Int),d [Qf n a,.int n]=some (.bl true,true)
theorem Qw6{dw:Den}(hw:Qg2 dw):Qia (Qn 2 (QfH dw)):=λn a=>by
 refine QX ?_
 refine QH (Qaa (Qcp (QbB (b:=true) (QL rfl rfl)) (QL (r:=⟨.bl false,true,[]⟩) ((QcY (Qi2 rfl rfl) rfl rfl rfl).trans (by simp)) rfl)) (λh=>by cases h) (λ_=>Qt ?_))
 have ec:=QeL (fi:=QY (Qa 0)) (t:= .nm 1) (cap:=[none,none]) (ft:=QO (Qj 1 dw [] (Qc (Qa 1) Qg))) (fe:=Qa 1) (ρ:=[some (Qf n a,false),some (.int n,true)]) (List.range n) (Q0 rfl rfl) rfl λi _=>⟨[none,some (.int (a i),true)],rfl,QL (Ql rfl (hw (a i)) rfl) rfl,λ_=>⟨⟨.int (a i),true,[]⟩,rfl,rfl,rfl⟩⟩
 have el:=Qkt ec rfl
 rw[Zs,Zbj.mpr λ_ _=>rfl,Zo]at el
 exact QC (r:=⟨.bl true,true,[]⟩) ((Qa0 el rfl rfl rfl).trans (by simp)) ⟨rfl,rfl⟩
noncomputable def Qgn(Qai:Den):DS:=(Qe (sIf (bOr (Qck (QO (Qj3 "list" (Qa 0)))) (QO (dOp gNe (dBf QaD (Qc (Qa 0) Qg)) (Qa 1)))) (Qe (QP (dC (.bl false))) Qp) Qp) (Qe (Qbl (QY (Qa 0)) (.nm 2) (Qe (sIf (Qck (QO (Qj 2 Qai [] (Qc (Qa 2) (Qc (Qa 1) Qg))))) (Qe (QP (dC (.bl false))) Qp) Qp) Qp)) (Qe (QP (dC (.bl true))) Qp)))
def Qjb(d:Den):Prop:=∀(n:Nat) (f:Nat->Nat->Int),d [Qd n n f,.int n]=some (.bl true,true)
theorem QvE{dn:Den}(hn:Qia dn):Qjb (Qn 3 (Qgn dn)):=λn f=>by
 refine QX ?_
 refine QH (Qaa (Qcp (QbB (QL rfl rfl)) (QL (r:=⟨.bl false,true,[]⟩) ((QcY (QcA rfl rfl) rfl rfl rfl).trans (by simp)) rfl)) (λh=>by cases h) (λ_=>Qt ?_))
 refine QH (QaF (List.range n) (λ_ ρ=>∃j2,ρ=[some (Qd n n f,false),some (.int n,true),j2]) rfl rfl ⟨none,rfl⟩ ?_ ?_)
 ·rintro i i' ρ hi ⟨j2,rfl⟩
  refine⟨[some (Qd n n f,false),some (.int n,true),some (Qf n (f i'),false)],rfl,?_⟩
  exact QH (Qaa (QbB (QL (Ql rfl (hn n (f i')) rfl) rfl)) (λh=>by cases h) (λ_=>Qt (Qt ⟨_,rfl⟩)))
 ·rintro ρ ⟨j2,rfl⟩
  exact QC rfl ⟨rfl,rfl⟩
noncomputable def Qe4:DS:=(Qe (sIf (QO (dOp gLt (Qa 1) (dBf QaD (Qc (Qa 0) Qg)))) (Qe (QP (Qr (Qa 0) (Qa 1))) Qp) Qp) (Qe (Qo 2 (QQ (Qav (dC (.int 7919)) (Qa 1)) (dC (.int 5)))) (Qe (sIf (QO (dOp gGt (dBf QaD (Qc (Qa 0) Qg)) (dC (.int 0)))) (Qe (Qo 2 (dOp Qah (QQ (Qav (Qr (Qa 0) (dOp Qah (Qa 1) (dBf QaD (Qc (Qa 0) Qg)))) (dC (.int 48271))) (Qav (Qa 1) (dC (.int 7919)))) (dC (.int 2147483647)))) Qp) Qp) (Qe (QP (dOp Qah (Qav (Qa 2) (Qa 2)) (dC (.int 2147483629)))) Qp))))
def Qi6(d:Den):Prop:=∀ns:List Int,ns.length<=63->(∀k,QaK (ns.getD k 0))->∃F:Nat->Int,∀k:Nat,k<=1000->d [.lst (ns.map .int),.int k]=some (.int (F k),true)/\QaK (F k)
set_option exponentiation.threshold 400 in
theorem Qvw:Qi6 (Qn 3 Qe4):=λns hl hb=>by
 have key:∀k:Nat,k<=1000->∃v,Qn 3 Qe4 [.lst (ns.map .int),.int k]=some (.int v,true)/\QaK v:=λk hk=>by
  have elen:∀(ρ:En),ρ[0]? =some (some (.lst (ns.map .int),false))->dBf QaD (Qc (Qa 0) Qg) ρ=some ⟨.int ns.length,true,[]⟩:=λρ h=>by
   rw[Qkt (QaX h) rfl,Zs]
  have run:Run Qe4 (Qdf 3 [.lst (ns.map .int),.int k]) (Rt λd fr=>∃v,d= .int v/\fr=true/\QaK v):=by
   refine QH (Qaa (QL (Qbb rfl (elen _ rfl) rfl) rfl) (λh=>?_) (λh=>Qt ?_))
   ·have h:=of_decide_eq_true h
    obtain⟨c,hc⟩:∃c,ns[k]? =some c:=⟨_,ZT (by omega)⟩
    refine QH (Qca (Qqu rfl rfl rfl rfl (by omega) (by simpa using hc)) ⟨c,rfl,rfl,?_⟩)
    have:=hb k
    rw[Zv,hc]at this
    exact this
   have h:=of_decide_eq_false h
   refine run_seq (Qh (Qac (QaH rfl rfl rfl rfl (Qe2 (by decide))) rfl rfl rfl) ?_)
   rw[Qi]
   refine Qar (P:=λρ=>∃v:Int,0<=v/\v<2147483647/\ρ=[some (.lst (ns.map .int),false),some (.int k,true),some (.int v,true)]) ?_ ?_
   ·refine Qaa (QL (Qbb (elen _ rfl) rfl rfl) rfl) (λh2=>?_) (λh2=>Qt ⟨7919*k+5,by omega,by omega,rfl⟩)
    have h2:=of_decide_eq_true h2
    have x0:=ZI (k:Int) (by omega:(ns.length:Int)≠0)
    have x1:=ZE (k:Int) h2
    obtain⟨c,hc⟩:∃c,ns[((k:Int) % (ns.length:Int)).toNat]? =some c:=⟨_,ZT (by omega)⟩
    refine run_seq (Qh (Qad (Qac (QaH (Qqu rfl rfl (Qad rfl rfl (elen _ rfl) rfl (by omega)) rfl x0 hc) rfl rfl rfl (QfB (by decide))) rfl (QaH rfl rfl rfl rfl (QfB (by decide))) rfl) rfl rfl rfl (by decide)) (Qt ?_))
    rw[Qi]
    exact⟨_,ZI _ (by decide),ZE _ (by decide),rfl⟩
   rintro ρ ⟨v,v0,v1,rfl⟩
   have y0:=ZI (v*v) (by decide:(2147483629:Int)≠0)
   have y1:=ZE (v*v) (by decide:(0:Int)<2147483629)
   refine QC (Qad (QaH rfl rfl rfl rfl (Qe2 (by omega))) rfl rfl rfl (by decide)) ⟨v*v % 2147483629,rfl,rfl,Qhv (by
    have:(v*v % 2147483629).natAbs<2147483629:=by omega
    exact ZbJ this (by decide))⟩
  obtain⟨o,h1,h2⟩:=run
  cases o with
  | rt d fr=>
   obtain⟨v,rfl,rfl,h3⟩:=h2
   exact⟨v,by unfold Qn;rw[h1];rfl,h3⟩
  | _=>exact h2.elim
 refine⟨λk=>if h:k<=1000 then(key k h).choose else 0,λk hk=>?_⟩
 dsimp only
 rw[dif_pos hk]
 exact(key k hk).choose_spec
def InT(n:Nat)(far:Int)(f:Nat->Nat->Int):Prop:=∀i j,i<n->j<n-> -far<=f i j/\f i j<=far
set_option exponentiation.threshold 400 in
theorem InT.bits{n:Nat}{far:Int}{f:Nat->Nat->Int}(h:InT n far f)(hf:far<=10^70):Qnk n f:=λi j hi hj=>by
 obtain⟨h1,h2⟩:=h i j hi hj
 refine Qhv ?_
 have h3:(f i j).natAbs<=10^70:=by
  have h4:(((10:Nat)^70:Nat):Int)=(10:Int)^70:=by decide+kernel
  rw[← h4]at hf
  generalize (10:Nat)^70=t at hf
  omega
 exact ZR h3 (by decide+kernel)
theorem Qvd{fa fb:DE}{ρ:En}{ra rb:R}{m k:Nat}{f g:Nat->Int}(ha:fa ρ=some ra)(ea:ra.d=Qf m f)(hb:fb ρ=some rb)(eb:rb.d=Qf k g)(hl:m+k<=1000):QQ fa fb ρ=some ⟨Qf (m+k) (λi=>if i<m then f i else g (i-m)),true,[]⟩:=by
 have e:Qf (m+k) (λi=>if i<m then f i else g (i-m))= .lst (((List.range m).map λi=>D.int (f i))++((List.range k).map λi=>D.int (g i))):=by
  unfold Qf
  rw[List.range_add,ZZ,Zaj]
  congr 2
  ·refine ZO λi hi=>?_
   show D.int (if i<m then f i else g (i-m))=_
   rw[if_pos (Zk.mp hi)]
  ·refine ZO λi hi=>?_
   show D.int (if m+i<m then f (m+i)else g (m+i-m))=_
   rw[if_neg (by omega),ZbY]
 rw[e]
 unfold QQ
 rw[ha,Za,hb,Za,ea,eb]
 simp only[Qf,Zs,Zo,Qgo]
 rw[if_pos (by omega)]
 unfold QaQ
 rw[if_pos]
 rw[Qdw,Zj]
 exact⟨Qce (λ_=>rfl) _,Qce (λ_=>rfl) _⟩
theorem Qlm(k n m:Nat)(f:Nat->Nat->Int):(Qd n m f).sim (k+2)=true:=by
 unfold Qd
 simp only[D.sim,List.all_map,Zaw]
 intro i _
 exact QlB k m (f i)
noncomputable def sm:Nat->(Nat->Int)->Int
 | 0,_=>0
 | n+1,f=>sm n f+f n
theorem QaU{f g:Nat->Int}:∀{n:Nat},(∀i,i<n->f i=g i)->sm n f=sm n g
 | 0,_=>rfl
 | n+1,h=>by unfold sm;rw[QaU λi hi=>h i (by omega),h n (by omega)]
theorem Qhl(x y:Int)(f g:Nat->Int):∀n,sm n (λi=>x*f i+y*g i)=x*sm n f+y*sm n g
 | 0=>by simp[sm]
 | n+1=>by
  unfold sm
  rw[Qhl x y f g n,ZaG,ZaG]
  show _+(x*f n+y*g n)=_
  omega
theorem QiT{f:Nat->Int}:∀{n:Nat},(∀i,i<n->f i=0)->sm n f=0
 | 0,_=>rfl
 | n+1,h=>by unfold sm;rw[QiT λi hi=>h i (by omega),h n (by omega)];rfl
theorem QdU{f:Nat->Int}{c:Nat}:∀{n:Nat},c<n->(∀i,i<n->i≠c->f i=0)->sm n f=f c
 | 0,hc,_=>by omega
 | n+1,hc,h=>by
  unfold sm
  by_cases e:c=n
  ·rw[QiT λi hi=>h i (by omega) (by omega),e];omega
  ·rw[QdU (c:=c) (by omega) λi hi=>h i (by omega),h n (by omega) (Ne.symm e)];omega
theorem Qli{f:Nat->Int}{c d:Nat}:∀{n:Nat},c<d->d<n->(∀i,i<n->i≠c->i≠d->f i=0)->sm n f=f c+f d
 | 0,_,hc,_=>by omega
 | n+1,hcd,hd,h=>by
  unfold sm
  by_cases e:d=n
  ·rw[QdU (c:=c) (by omega) λi hi ne=>h i (by omega) ne (by omega),e]
  ·rw[Qli (c:=c) (d:=d) hcd (by omega) λi hi=>h i (by omega),h n (by omega) (by omega) (by omega)];omega
theorem Qqi(x:Int)(f:Nat->Int):∀n,sm n (λi=>f i*x)=sm n f*x
 | 0=>by simp[sm]
 | n+1=>by unfold sm;rw[Qqi x f n,ZX]
noncomputable def skp(j c:Nat):Nat:=if c<j then c else c+1
noncomputable def sgn(j:Nat):Int:=if j % 2=0 then 1 else-1
theorem QjS(j:Nat):sgn (j+1)= -sgn j:=by
 unfold sgn
 by_cases h:j % 2=0
 ·rw[if_pos h,if_neg (by omega)]
 ·rw[if_neg h,if_pos (by omega)];rfl
noncomputable def det:Nat->(Nat->Nat->Int)->Int
 | 0,_=>1
 | n+1,m=>sm (n+1) λj=>sgn j*m j 0*det n λc r=>m (skp j c) (r+1)
noncomputable def cup(m:Nat->Nat->Int)(c:Nat)(a:Nat->Int):Nat->Nat->Int:=λj=>if j=c then a else m j
theorem Qw(m:Nat->Nat->Int)(c:Nat)(a:Nat->Int):cup m c a c=a:=by unfold cup;rw[if_pos rfl]
theorem Qu(m:Nat->Nat->Int){c j:Nat}(a:Nat->Int)(h:j≠c):cup m c a j=m j:=by unfold cup;rw[if_neg h]
theorem Q2(m:Nat->Nat->Int)(c:Nat):cup m c (m c)=m:=by
 funext j
 by_cases h:j=c
 ·rw[h,Qw]
 ·rw[Qu _ _ h]
theorem Qht(m:Nat->Nat->Int)(c:Nat)(a b:Nat->Int):cup (cup m c a) c b=cup m c b:=by
 funext j
 by_cases h:j=c
 ·rw[h,Qw,Qw]
 ·rw[Qu _ _ h,Qu _ _ h,Qu _ _ h]
theorem Q3(m:Nat->Nat->Int){c d:Nat}(a b:Nat->Int)(h:c≠d):cup (cup m c a) d b=cup (cup m d b) c a:=by
 funext j
 by_cases h1:j=c
 ·subst h1;rw[Qu _ _ h,Qw,Qw]
 ·by_cases h2:j=d
  ·subst h2;rw[Qw,Qu _ _ h1,Qw]
  ·rw[Qu _ _ h2,Qu _ _ h1,Qu _ _ h1,Qu _ _ h2]
theorem QA:∀{n:Nat}{m k:Nat->Nat->Int},(∀j,j<n->∀r,r<n->m j r=k j r)->det n m=det n k
 | 0,_,_,_=>rfl
 | n+1,m,k,h=>by
  unfold det
  refine QaU λj hj=>?_
  rw[h j hj 0 (by omega),QA (n:=n) (m:=λc r=>m (skp j c) (r+1)) (k:=λc r=>k (skp j c) (r+1)) λc hc r hr=>h _ (by unfold skp;split<;>omega) _ (by omega)]
theorem Qiw(m:Nat->Nat->Int)(c:Nat)(v:Nat->Int):(λc' r=>cup m c v (skp c c') (r+1))=λc' r=>m (skp c c') (r+1):=by
 funext c' r
 rw[Qu _ _ (by unfold skp;split<;>omega)]
theorem QhO(m:Nat->Nat->Int){c j:Nat}(v:Nat->Int)(h:c≠j):(λc' r=>cup m c v (skp j c') (r+1))=cup (λc' r=>m (skp j c') (r+1)) (if c<j then c else c-1) (λr=>v (r+1)):=by
 funext c' r
 by_cases e:c'=if c<j then c else c-1
 ·rw[e,Qw]
  have:skp j (if c<j then c else c-1)=c:=by
   unfold skp
   by_cases q:c<j
   ·rw[if_pos q,if_pos q]
   ·rw[if_neg q,if_neg (by omega)];omega
  rw[this,Qw]
 ·rw[Qu _ _ e,Qu]
  intro z
  refine e ?_
  unfold skp at z
  by_cases q:c'<j
  ·rw[if_pos q]at z;rw[if_pos (by omega)];omega
  ·rw[if_neg q]at z;rw[if_neg (by omega)];omega
theorem QeK(x y:Int)(a b:Nat->Int):∀(n:Nat) (m:Nat->Nat->Int) (c:Nat),c<n->∀(a b:Nat->Int),det n (cup m c λr=>x*a r+y*b r)=x*det n (cup m c a)+y*det n (cup m c b)
 | 0,_,_,h,_,_=>by omega
 | n+1,m,c,h,a,b=>by
  unfold det
  rw[← Qhl]
  refine QaU λj hj=>?_
  by_cases e:j=c
  ·subst e
   rw[Qiw,Qiw,Qiw,Qw,Qw,Qw]
   generalize det n _=q
   generalize sgn j=s
   simp only[ZaG,ZX,ZF,ZM]
  ·rw[QhO m _ (Ne.symm e),QhO m _ (Ne.symm e),QhO m _ (Ne.symm e),Qu _ _ e,Qu _ _ e,Qu _ _ e]
   rw[QeK x y a b n _ _ (by split<;>omega)]
   generalize det n _=q
   generalize det n _=q'
   generalize sgn j*m j 0=s
   simp only[ZaG,ZM]
theorem QiV{n:Nat}{m:Nat->Nat->Int}{c:Nat}(h:c<n)(a b:Nat->Int):det n (cup m c λr=>a r+b r)=det n (cup m c a)+det n (cup m c b):=by
 have:=QeK 1 1 a b n m c h a b
 simpa only[ZK]using this
theorem QdC{n:Nat}{m:Nat->Nat->Int}{c:Nat}(h:c<n)(x:Int)(a:Nat->Int):det n (cup m c λr=>x*a r)=x*det n (cup m c a):=by
 have:=QeK x 0 a a n m c h a a
 simpa only[Zy,ZaV]using this
theorem QiW:∀(n:Nat) (m:Nat->Nat->Int) (c:Nat),c+1<n->m c=m (c+1)->det n m=0
 | 0,_,_,h,_=>by omega
 | n+1,m,c,h,e=>by
  unfold det
  rw[Qli (c:=c) (d:=c+1) (by omega) h]
  ·have:(λc' r=>m (skp c c') (r+1))=λc' r=>m (skp (c+1) c') (r+1):=by
    funext c' r
    unfold skp
    by_cases q:c'<c
    ·rw[if_pos q,if_pos (by omega)]
    ·rw[if_neg q]
     by_cases q2:c'=c
     ·rw[if_pos (by omega),q2,e]
     ·rw[if_neg (by omega)]
   rw[this,QjS,e]
   generalize det n _=q
   rw[Zax,Zax];omega
  ·intro j hj h1 h2
   have:det n (λc' r=>m (skp j c') (r+1))=0:=by
    by_cases q:c<j
    ·refine QiW n _ c (by omega) ?_
     funext r
     show m (skp j c) (r+1)=m (skp j (c+1)) (r+1)
     unfold skp
     rw[if_pos q,if_pos (by omega),e]
    ·refine QiW n _ (c-1) (by omega) ?_
     funext r
     show m (skp j (c-1)) (r+1)=m (skp j (c-1+1)) (r+1)
     unfold skp
     rw[if_neg (by omega),if_neg (by omega),show c-1+1=c by omega,e]
   rw[this,Zz]
theorem Qjf{n:Nat}{m:Nat->Nat->Int}{c d:Nat}(hc:c<n)(hd:d<n)(hcd:c≠d)(hz:∀k:Nat->Nat->Int,k c=k d->det n k=0)(a b:Nat->Int):det n (cup (cup m c a) d b)= -det n (cup (cup m c b) d a):=by
 have z:=hz (cup (cup m c λr=>a r+b r) d λr=>a r+b r) (by rw[Qw,Qu _ _ hcd,Qw])
 have za:=hz (cup (cup m c a) d a) (by rw[Qw,Qu _ _ hcd,Qw])
 have zb:=hz (cup (cup m c b) d b) (by rw[Qw,Qu _ _ hcd,Qw])
 rw[QiV hd,Q3 _ _ _ hcd,QiV hc,Q3 _ _ _ hcd,QiV hc,Q3 _ _ _ (Ne.symm hcd),Q3 _ _ _ (Ne.symm hcd),Q3 _ _ _ (Ne.symm hcd),Q3 _ _ _ (Ne.symm hcd),za,zb]at z
 omega
theorem QlT:∀(g n:Nat) (m:Nat->Nat->Int) (i:Nat),i+g+1<n->m i=m (i+g+1)->det n m=0
 | 0,n,m,i,h,e=>QiW n m i h e
 | g+1,n,m,i,h,e=>by
  have:=Qjf (m:=m) (c:=i+g+1) (by omega) (by omega) (by omega) (λk hk=>QiW n k _ (by omega) hk) (m (i+g+1)) (m (i+g+1+1))
  rw[Q2,Q2]at this
  rw[this,QlT g n _ i (by omega)]
  ·rfl
  ·rw[Qu _ _ (by omega),Qu _ _ (by omega),Qu _ _ (by omega),Qw]
   exact e
theorem Qeq{n:Nat}{m:Nat->Nat->Int}{i j:Nat}(hi:i<n)(hj:j<n)(hij:i≠j)(e:m i=m j):det n m=0:=by
 rcases Nat.lt_or_gt_of_ne hij with h | h
 ·exact QlT (j-i-1) n m i (by omega) (by rw[show i+(j-i-1)+1=j by omega];exact e)
 ·exact QlT (i-j-1) n m j (by omega) (by rw[show j+(i-j-1)+1=i by omega];exact e.symm)
theorem Qbf{n:Nat}{m:Nat->Nat->Int}{c d:Nat}(hc:c<n)(hd:d<n)(hcd:c≠d)(a b:Nat->Int):det n (cup (cup m c a) d b)= -det n (cup (cup m c b) d a):=Qjf hc hd hcd (λk hk=>Qeq hc hd hcd hk) a b
theorem QeH{n:Nat}{m:Nat->Nat->Int}{c:Nat}(h:c<n)(x:Nat->Int)(E:Nat->Nat->Int):∀k,det n (cup m c λr=>sm k λs=>x s*E s r)=sm k λs=>x s*det n (cup m c (E s))
 | 0=>by
  have:=QdC (m:=m) h 0 λ_=>0
  rw[Zy]at this
  unfold sm
  simpa using this
 | k+1=>by
  unfold sm
  rw[QiV h,QeH h x E k,QdC h]
theorem QnE:∀{n:Nat}(σ:Nat->Nat),(∀j,j<n+1->σ j<n)->∃i j,i<n+1/\j<n+1/\i≠j/\σ i=σ j
 | 0,σ,h=>absurd (h 0 (by omega)) (by omega)
 | n+1,σ,h=>by
  by_cases q:∃i,i<n+1/\σ i=σ (n+1)
  ·obtain⟨i,hi,e⟩:=q
   exact⟨i,n+1,by omega,by omega,by omega,e⟩
  ·have ne:∀i,i<n+1->σ i≠σ (n+1):=λi hi e=>q ⟨i,hi,e⟩
   have hv:=h (n+1) (by omega)
   obtain⟨i,j,hi,hj,hij,e⟩:=QnE (n:=n) (λj=>if σ (n+1)<σ j then σ j-1 else σ j) λj hj=>by
    have:=h j (by omega)
    have:=ne j hj
    show(if σ (n+1)<σ j then σ j-1 else σ j)<n
    by_cases c:σ (n+1)<σ j
    ·rw[if_pos c];omega
    ·rw[if_neg c];omega
   refine⟨i,j,by omega,by omega,hij,?_⟩
   have a:=ne i hi
   have b:=ne j hj
   have e:(if σ (n+1)<σ i then σ i-1 else σ i)=(if σ (n+1)<σ j then σ j-1 else σ j):=e
   by_cases c:σ (n+1)<σ i
   ·rw[if_pos c]at e
    by_cases d:σ (n+1)<σ j
    ·rw[if_pos d]at e;omega
    ·rw[if_neg d]at e;omega
   ·rw[if_neg c]at e
    by_cases d:σ (n+1)<σ j
    ·rw[if_pos d]at e;omega
    ·rw[if_neg d]at e;omega
theorem Qn9{n:Nat}{E:Nat->Nat->Int}{x:Nat->Nat->Int}:∀(k:Nat) (W:Nat->Nat->Int) (σ:Nat->Nat),k<=n+1->(∀j,j<n+1->σ j<n)->(∀j,j<k->W j=λr=>sm n λs=>x j s*E s r)->(∀j,k<=j->j<n+1->W j=E (σ j))->det (n+1) W=0
 | 0,W,σ,hk,hσ,_,h2=>by
  obtain⟨i,j,hi,hj,hij,e⟩:=QnE σ hσ
  exact Qeq hi hj hij (by rw[h2 i (by omega) hi,h2 j (by omega) hj,e])
 | k+1,W,σ,hk,hσ,h1,h2=>by
  have:=QeH (n:=n+1) (m:=W) (c:=k) (by omega) (x k) E n
  rw[← h1 k (by omega),Q2]at this
  rw[this]
  refine QiT λs hs=>?_
  rw[Qn9 k (cup W k (E s)) (λj=>if j=k then s else σ j) (by omega) (λj hj=>by show(if j=k then s else σ j)<n;by_cases e:j=k;(rw[if_pos e];exact hs);(rw[if_neg e];exact hσ j hj)) (λj hj=>by rw[Qu _ _ (by omega)];exact h1 j (by omega)) λj h3 h4=>?_,Zz]
  show cup W k (E s) j=E (if j=k then s else σ j)
  by_cases e:j=k
  ·rw[e,Qw,if_pos rfl]
  ·rw[Qu _ _ e,if_neg e];exact h2 j (by omega) h4
noncomputable def cyc(m:Nat->Nat->Int)(a:Nat->Int)(l k:Nat):Nat->Nat->Int:=λc=>if c<k then m c else if c=k then a else if c<=l then m (c-1)else m c
theorem Qt5{n:Nat}(m:Nat->Nat->Int)(a:Nat->Int){l k:Nat}(hk:k<l)(hl:l<n):det n (cyc m a l k)= -det n (cyc m a l (k+1)):=by
 have h:=Qbf (n:=n) (m:=cyc m a l k) (c:=k) (d:=k+1) (by omega) (by omega) (by omega) a (m k)
 have e1:cup (cup (cyc m a l k) k a) (k+1) (m k)=cyc m a l k:=by
  have q1:cyc m a l k k=a:=by unfold cyc;rw[if_neg (by omega),if_pos rfl]
  have q2:cyc m a l k (k+1)=m k:=by unfold cyc;rw[if_neg (by omega),if_neg (by omega),if_pos (by omega),ZbL]
  have:=Q2 (cyc m a l k) k
  rw[q1]at this
  rw[this,← q2,Q2]
 have e2:cup (cup (cyc m a l k) k (m k)) (k+1) a=cyc m a l (k+1):=by
  funext c
  by_cases h1:c=k+1
  ·subst h1;rw[Qw];unfold cyc;rw[if_neg (by omega),if_pos rfl]
  ·rw[Qu _ _ h1]
   by_cases h2:c=k
   ·subst h2;rw[Qw];unfold cyc;rw[if_pos (by omega)]
   ·rw[Qu _ _ h2]
    unfold cyc
    by_cases h3:c<k
    ·rw[if_pos h3,if_pos (by omega)]
    ·rw[if_neg h3,if_neg h2,if_neg (show ¬c<k+1 by omega),if_neg h1]
 rw[e1,e2]at h
 exact h
theorem QlK{n:Nat}(m:Nat->Nat->Int)(a:Nat->Int){l:Nat}(hl:l<n):∀g k,k+g=l->det n (cyc m a l k)=sgn g*det n (cup m l a)
 | 0,k,h=>by
  have:cyc m a l k=cup m l a:=by
   funext c
   unfold cyc cup
   by_cases h1:c=l
   ·rw[if_neg (by omega),if_pos (by omega),if_pos h1]
   ·rw[if_neg h1]
    by_cases h2:c<k
    ·rw[if_pos h2]
    ·rw[if_neg h2,if_neg (by omega),if_neg (by omega)]
  rw[this];unfold sgn;simp
 | g+1,k,h=>by
  rw[Qt5 m a (by omega) hl,QlK m a hl g (k+1) (by omega),QjS,Zax]
theorem Qok(j:Nat):sgn j*sgn j=1:=by unfold sgn;split<;>rfl
noncomputable def bE(r s q:Nat):Int:=if q=0 then(if s=r then 1 else 0)else if s=q-1 then 1 else 0
theorem Qk9{n:Nat}(m:Nat->Nat->Int)(a:Nat->Int){r:Nat}(hr:r<n):det n m*a r=sm n λl=>det n (cup m l a)*m l r:=by
 have v0:∃v:Nat->Nat->Int,v=λj=>if j=0 then a else m (j-1):=⟨_,rfl⟩
 obtain⟨v,hv⟩:=v0
 have hv0:v 0=a:=by rw[hv];rfl
 have hvs:∀j,v (j+1)=m j:=λj=>by rw[hv];show(if j+1=0 then a else m (j+1-1))=_;rw[if_neg (by omega),ZbL]
 have z:det (n+1) (λj s=>if s=0 then v j r else v j (s-1))=0:=by
  have key:det (n+1) (λj q=>sm n λs=>v j s*bE r s q)=0:=
   Qn9 (n+1) _ (λ_=>r) (by omega) (λ_ _=>hr) (λj _=>rfl) (λj h1 h2=>by omega)
  rw[← key]
  refine QA λj hj s hs=>?_
  by_cases e:s=0
  ·subst e
   rw[if_pos rfl,QdU hr]
   ·unfold bE;rw[if_pos rfl,if_pos rfl,Zab]
   ·intro i _ ne;unfold bE;rw[if_pos rfl,if_neg ne,Zz]
  ·rw[if_neg e,QdU (c:=s-1) (by omega)]
   ·unfold bE;rw[if_neg e,if_pos rfl,Zab]
   ·intro i _ ne;unfold bE;rw[if_neg e,if_neg ne,Zz]
 unfold det at z
 have term:∀j,(sgn j*(if(0:Nat)=0 then v j r else v j (0-1))*det n λc q=>if q+1=0 then v (skp j c) r else v (skp j c) (q+1-1))=sgn j*v j r*det n λc=>v (skp j c):=λj=>by
  rw[if_pos rfl]
  congr 1
 have first:∀(k:Nat) (f:Nat->Int),sm (k+1) f=f 0+sm k λi=>f (i+1):=λk f=>by
  induction k with
  | zero=>show 0+f 0=f 0+0;omega
  | succ k ih=>show sm (k+1) f+f (k+1)=_;rw[ih];show _=f 0+(sm k (λi=>f (i+1))+f (k+1));omega
 rw[QaU λj _=>term j,first]at z
 have t0:(λc=>v (skp 0 c))=m:=by funext c;unfold skp;rw[if_neg (by omega),hvs]
 have tl:∀l,l<n->sgn (l+1)*v (l+1) r*det n (λc=>v (skp (l+1) c))= -(det n (cup m l a)*m l r):=λl hl=>by
  have:(λc=>v (skp (l+1) c))=cyc m a l 0:=by
   funext c
   unfold skp cyc
   by_cases h0:c=0
   ·subst h0;rw[if_pos (show 0<l+1 by omega),if_neg (show ¬0<0 by omega),if_pos rfl,hv0]
   ·obtain⟨c',rfl⟩:∃c',c=c'+1:=⟨c-1,by omega⟩
    rw[if_neg (show ¬c'+1<0 by omega),if_neg h0]
    by_cases h1:c'+1<=l
    ·rw[if_pos (show c'+1<l+1 by omega),if_pos h1,hvs,ZbL]
    ·rw[if_neg (show ¬c'+1<l+1 by omega),if_neg h1,hvs]
  rw[this,QlK m a hl l 0 (by omega),hvs,QjS]
  have q:=Qok l
  generalize det n (cup m l a)=d at *
  generalize m l r=x at *
  have: -sgn l*x*(sgn l*d)= -(sgn l*sgn l*(d*x)):=by
   rw[Zax,Zax,ZF,ZM x,← ZF,ZV x d]
  rw[this,q,ZK]
 rw[t0,hv0]at z
 have neg:=Qhl (-1) 0 (λl=>det n (cup m l a)*m l r) (λ_=>0) n
 rw[QaU (g:=λl=> -1*(det n (cup m l a)*m l r)+0*0) λl hl=>by rw[tl l hl];omega]at z
 have s0:sgn 0=1:=rfl
 rw[neg,s0,ZK]at z
 rw[ZV]
 omega
theorem QtL{n:Nat}(m:Nat->Nat->Int)(u a:Nat->Int){k i:Nat}(hk:k<n)(hi:i<n)(hki:k≠i):det n m*det n (cup (cup m k u) i a)=det n (cup m k u)*det n (cup m i a)-det n (cup m i u)*det n (cup m k a):=by
 have h1:det n m*det n (cup (cup m k u) i a)=det n (cup (cup m i a) k λr=>det n m*u r):=by
  rw[QdC hk,Q3 _ _ _ hki]
 have h2:det n (cup (cup m i a) k λr=>det n m*u r)=det n (cup (cup m i a) k λr=>sm n λl=>det n (cup m l u)*m l r):=by
  refine QA λj hj r hr=>?_
  by_cases e:j=k
  ·subst e;rw[Qw,Qw];exact Qk9 m u hr
  ·rw[Qu _ _ e,Qu _ _ e]
 rw[h1,h2,QeH hk (λl=>det n (cup m l u)) m n]
 have tk:det n (cup (cup m i a) k (m k))=det n (cup m i a):=by rw[Q3 _ _ _ (Ne.symm hki),Q2]
 have ti:det n (cup (cup m i a) k (m i))= -det n (cup m k a):=by
  rw[Qbf hi hk (Ne.symm hki),Q2]
 have tn:∀l,l<n->l≠k->l≠i->det n (cup (cup m i a) k (m l))=0:=λl hl h1 h2=>Qeq hk hl (Ne.symm h1) (by rw[Qw,Qu _ _ h1,Qu _ _ h2])
 rcases Nat.lt_or_gt_of_ne hki with h | h
 ·rw[Qli h hi λl hl a b=>by rw[tn l hl a b,Zz],tk,ti,ZbE];omega
 ·rw[Qli h hk λl hl a b=>by rw[tn l hl b a,Zz],tk,ti,ZbE];omega
noncomputable def QB(j r:Nat):Int:=if j=r then 1 else 0
theorem QdZ:∀n,det n QB=1
 | 0=>rfl
 | n+1=>by
  unfold det
  rw[QdU (c:=0) (by omega) λi _ ne=>by unfold QB;rw[if_neg ne,Zz,Zy]]
  have:(λc r=>QB (skp 0 c) (r+1))=QB:=by
   funext c r
   have e:skp 0 c=c+1:=by unfold skp;rw[if_neg (by omega)]
   rw[e]
   unfold QB
   by_cases h:c=r
   ·rw[if_pos h,if_pos (by omega)]
   ·rw[if_neg h,if_neg (by omega)]
  rw[this,QdZ n]
  unfold QB sgn
  simp
theorem Qo7{n:Nat}(a:Nat->Int){i:Nat}(hi:i<n):det n (cup QB i a)=a i:=by
 have:=Qk9 QB a hi
 rw[QdZ,ZK,QdU (c:=i) hi λl _ ne=>by rw[show QB l i=0 by unfold QB;rw[if_neg ne],Zz]]at this
 rw[this,show QB i i=1 by unfold QB;rw[if_pos rfl],Zab]
structure Clr (n N k:Nat) (A m R:Nat->Nat->Int) (d:Int):Prop where
 le:k<=n
 det:HS.det n m=d
 nz:d≠0
 ent:∀i j,i<n->j<N->R i j=HS.det n (cup m i (A j))
 own:∀j,j<k->m j=A j
theorem Clr.start(n N:Nat)(A:Nat->Nat->Int):Clr n N 0 A QB (λi j=>A j i) 1:=⟨by omega,QdZ n,by decide,λi j hi _=>(Qo7 (A j) hi).symm,λj hj=>by omega⟩
theorem Clr.exact{n N k:Nat}{A m R:Nat->Nat->Int}{d:Int}(h:Clr n N k A m R d)(hk:k<n)(kN:k<N){i j:Nat}(hi:i<n)(hj:j<N)(ne:i≠k):R k k*R i j-R i k*R k j=d*HS.det n (cup (cup m k (A k)) i (A j)):=by
 rw[h.ent k k hk kN,h.ent i j hi hj,h.ent i k hi kN,h.ent k j hk hj,← QtL m (A k) (A j) hk hi (Ne.symm ne),h.det]
theorem Clr.step{n N k:Nat}{A m R R':Nat->Nat->Int}{d:Int}(h:Clr n N k A m R d)(hk:k<n)(kN:k<N)(hp:R k k≠0)(h1:∀j,j<N->R' k j=R k j)(h2:∀i j,i<n->i≠k->j<N->∀q,R k k*R i j-R i k*R k j=d*q->R' i j=q):Clr n N (k+1) A (cup m k (A k)) R' (R k k):=by
 refine⟨hk,(h.ent k k hk kN).symm,hp,λi j hi hj=>?_,λj hj=>?_⟩
 ·by_cases e:i=k
  ·subst e
   rw[h1 j hj,h.ent i j hi hj,Qht]
  ·exact h2 i j hi e hj _ (h.exact hk kN hi hj e)
 ·by_cases e:j=k
  ·subst e;rw[Qw]
  ·rw[Qu _ _ e];exact h.own j (by omega)
theorem Clr.swap{n N k:Nat}{A m R R':Nat->Nat->Int}{d:Int}(h:Clr n N k A m R d){i:Nat}(hk:k<n)(hi:i<n)(hki:k<i)(h1:∀j,j<N->R' k j=R i j)(h2:∀j,j<N->R' i j= -R k j)(h3:∀l j,l<n->l≠k->l≠i->j<N->R' l j=R l j):∃m',Clr n N k A m' R' d:=by
 have ne:k≠i:=by omega
 have neg:∀(c:Nat),c<n->∀(M:Nat->Nat->Int) (a:Nat->Int),HS.det n (cup M c λr=> -a r)= -HS.det n (cup M c a):=λc hc M a=>by
  have:=QdC (m:=M) hc (-1) a
  simpa only[Zax,ZK]using this
 refine⟨cup (cup m k (m i)) i λr=> -m k r,h.le,?_,h.nz,λl j hl hj=>?_,λj hj=>?_⟩
 ·rw[neg i hi,Qbf hk hi ne,Zbq,Q2,Q2];exact h.det
 ·by_cases e1:l=k
  ·subst e1
   rw[h1 j hj,h.ent i j hi hj,Q3 _ _ _ (Ne.symm ne),Qht,neg i hi,Qbf hl hi ne,Zbq,Q2]
  ·by_cases e2:l=i
   ·subst e2
    rw[h2 j hj,h.ent k j hk hj,Qht,Qbf hk hl ne,Q3 _ _ _ ne]
    have:=Q2 m l
    rw[this]
   ·rw[h3 l j hl e1 e2 hj,h.ent l j hl hj,Q3 _ _ _ (Ne.symm e2),neg i hi,Q3 _ _ _ (Ne.symm e1),Qbf hk hi ne,Zbq]
    rw[Q3 _ _ _ e1,Q2,Q3 _ _ _ e2,Q2]
 ·rw[Qu _ _ (by omega),Qu _ _ (by omega)];exact h.own j hj
theorem Clr.tell{n N k:Nat}{A m R:Nat->Nat->Int}{d:Int}(h:Clr n N k A m R d){j r:Nat}(hj:j<N)(hr:r<n):d*A j r=sm n λl=>R l j*m l r:=by
 have:=Qk9 m (A j) hr
 rw[h.det]at this
 rw[this]
 exact QaU λl hl=>by rw[h.ent l j hl hj]
noncomputable def bnd(B:Nat):Nat->Nat
 | 0=>1
 | n+1=>(n+1)*(B*bnd B n)
theorem Qr1{f:Nat->Int}{C:Nat}:∀{n:Nat},(∀i,i<n->(f i).natAbs<=C)->(sm n f).natAbs<=n*C
 | 0,_=>by simp[sm]
 | n+1,h=>by
  unfold sm
  have h1:=Qr1 (n:=n) λi hi=>h i (by omega)
  have h2:=h n (by omega)
  have:=Zby (sm n f) (f n)
  rw[Zcc]
  omega
theorem QxX(j:Nat):(sgn j).natAbs=1:=by unfold sgn;split<;>rfl
theorem Qdb{B:Nat}:∀{n:Nat}{m:Nat->Nat->Int},(∀j,j<n->∀r,r<n->(m j r).natAbs<=B)->(det n m).natAbs<=bnd B n
 | 0,_,_=>by show(1:Int).natAbs<=1;decide
 | n+1,m,h=>by
  unfold det bnd
  refine Qr1 λj hj=>?_
  rw[Zaa,Zaa,QxX,Nat.one_mul]
  refine Zbe (h j hj 0 (by omega)) (Qdb λc hc r hr=>h _ ?_ _ (by omega))
  unfold skp
  split<;>omega
theorem QsQ{n:Nat}(hn:n<=8):bnd (2^200) n<2^2000:=by
 have h:∀k,k<9->bnd (2^200) k<2^2000:=by decide+kernel
 exact h n (by omega)
def QrO(n:Nat)(m:Nat->Nat->Int):Prop:=∀j,j<n->∀r,r<n->(m j r).natAbs<=2^200
def Qpg(n:Nat)(A:Nat->Nat->Int):Prop:=∀k,k<n->∀c:Nat->Int,(∀r,r<=k->sm (k+1) (λl=>c l*A l r)=0)->c k=0
structure QfU (n N k:Nat) (A m R:Nat->Nat->Int) (d:Int):Prop where
 clr:Clr n N k A m R d
 unit:∀l,k<=l->l<n->m l=QB l
 col:QrO n m
theorem QrO.put{n:Nat}{m:Nat->Nat->Int}(h:QrO n m){i:Nat}{a:Nat->Int}(ha:∀r,r<n->(a r).natAbs<=2^200):QrO n (cup m i a):=λj hj r hr=>by
 by_cases e:j=i
 ·subst e;rw[Qw];exact ha r hr
 ·rw[Qu _ _ e];exact h j hj r hr
theorem QfU.start(n N:Nat)(A:Nat->Nat->Int):QfU n N 0 A QB (λi j=>A j i) 1:=⟨Clr.start n N A,λ_ _ _=>rfl,λj _ r _=>by unfold QB;split<;>decide⟩
theorem QfU.small{n N k:Nat}{A m R:Nat->Nat->Int}{d:Int}(h:QfU n N k A m R d)(hn:n<=8)(hA:∀j,j<N->∀r,r<n->(A j r).natAbs<=2^200):d.natAbs<2^2000/\∀i j,i<n->j<N->(R i j).natAbs<2^2000:=by
 have b:=QsQ hn
 refine⟨?_,λi j hi hj=>?_⟩
 ·rw[← h.clr.det];exact ZR (Qdb h.col) b
 ·rw[h.clr.ent i j hi hj];exact ZR (Qdb (h.col.put (hA j hj))) b
theorem QfL{f:Nat->Int}{k:Nat}:∀{n:Nat},k<=n->(∀i,k<=i->i<n->f i=0)->sm n f=sm k f
 | 0,h,_=>by rw[Nat.le_zero.mp h]
 | n+1,h,z=>by
  by_cases e:k=n+1
  ·rw[e]
  ·show sm n f+f n=sm k f
   rw[QfL (n:=n) (by omega) λi h1 h2=>z i h1 (by omega),z n (by omega) (by omega),ZaV]
theorem QfU.QAW{n N k:Nat}{A m R:Nat->Nat->Int}{d:Int}(h:QfU n N k A m R d)(hk:k<n)(kN:k<N)(hl:Qpg n A):R k k≠0:=λz=>by
 refine h.clr.nz ?_
 have:=hl k hk (λl=>if l=k then-d else R l k) λr hr=>by
  have t:=h.clr.tell kN (show r<n by omega)
  rw[QfL (k:=k) (by omega)]at t
  ·show(sm k λl=>(if l=k then-d else R l k)*A l r)+(if k=k then-d else R k k)*A k r=0
   rw[if_pos rfl,QaU (g:=λl=>R l k*m l r) λl hl=>by rw[if_neg (by omega),h.clr.own l hl],← t,Zax]
   omega
  ·intro l h1 h2
   by_cases e:l=k
   ·rw[e,z,Zy]
   ·rw[h.unit l (by omega) h2,show QB l r=0 by unfold QB;rw[if_neg (by omega)],Zz]
 rw[if_pos rfl]at this
 omega
theorem QfU.step{n N k:Nat}{A m R R':Nat->Nat->Int}{d:Int}(h:QfU n N k A m R d)(hk:k<n)(kN:k<N)(hA:∀j,j<N->∀r,r<n->(A j r).natAbs<=2^200)(hp:R k k≠0)(h1:∀j,j<N->R' k j=R k j)(h2:∀i j,i<n->i≠k->j<N->∀q,R k k*R i j-R i k*R k j=d*q->R' i j=q):QfU n N (k+1) A (cup m k (A k)) R' (R k k):=
 ⟨h.clr.step hk kN hp h1 h2,λl h3 h4=>by rw[Qu _ _ (by omega)];exact h.unit l (by omega) h4,h.col.put (hA k kN)⟩
theorem QaO{i:Int}(h:i.natAbs<2^2000):QaK i:=Zi (Zbp h) (by decide)
theorem Qq4{a d q:Int}(hd:d≠0)(h:a=d*q):QeU a d=q:=by
 rw[Qmk,h,Int.mul_fdiv_cancel_left q hd]
theorem QfP{fa fb:DE}{ρ:En}{ra rb:R}{a b:Int}(ha:fa ρ=some ra)(ea:ra.d= .int a)(hb:fb ρ=some rb)(eb:rb.d= .int b):dOp Qa6 fa fb ρ=some ⟨.int (a-b),true,[]⟩:=by
 refine Qbb ha hb ?_
 rw[ea,eb];rfl
theorem Qez{fa fb:DE}{ρ:En}{ra rb:R}{a b q:Int}(ha:fa ρ=some ra)(ea:ra.d= .int a)(hb:fb ρ=some rb)(eb:rb.d= .int b)(hz:b≠0)(h2:b.natAbs<2^2000)(h:a=b*q):dOp QbF fa fb ρ=some ⟨.int q,true,[]⟩:=by
 refine Qbb ha hb ?_
 rw[ea,eb]
 show(if QdO b=true then some (D.int (QeU a b))else none)=_
 have:QdO b=true:=by
  unfold QdO
  simp only[Zj,decide_eq_true_eq]
  exact⟨hz,Zu h2 (ZD (by decide) (by decide))⟩
 rw[if_pos this,Qq4 hz h]
noncomputable def Qju:DS:=(Qe (QP (QM (Qe3 (Qa 0) (Qa 1)) (.tp [1,2]) [none,none,none,some 2,some 3,some 0,some 1] QW (dOp QbF (dOp Qa6 (Qav (Qr (Qa 6) (Qa 3)) (Qa 1)) (Qav (Qr (Qa 5) (Qa 3)) (Qa 2))) (Qa 4)))) Qp)
def Qmr(d:Den):Prop:=∀(N k:Nat) (a p q:Nat->Int) (b:Int),k<N->b≠0->b.natAbs<2^2000->(∀j,j<N->(a j).natAbs<2^2000/\(p j).natAbs<2^2000)->(∀j,j<N->p k*a j-a k*p j=b*q j)->d [Qf N a,Qf N p,.int k,.int b]=some (Qf N q,true)
theorem Qvm:Qmr (Qn 4 Qju):=λN k a p q b hk hb hb2 hs hq=>
 QX (QC (QN (List.range N) (QfA rfl rfl rfl rfl) rfl λi hi=>⟨[none,some (.int (a i),true),some (.int (p i),true),some (.int k,true),some (.int b,true),some (Qf N a,false),some (Qf N p,false)],rfl,⟨.int (q i),true,[]⟩,by
  have hi':=Zk.mp hi
  refine Qez (QfP (QaH (QaN rfl rfl rfl rfl hk) rfl rfl rfl (Qc9 (QaO (hs k hk).2) (QaO (hs i hi').1))) rfl (QaH (QaN rfl rfl rfl rfl hk) rfl rfl rfl (Qc9 (QaO (hs k hk).1) (QaO (hs i hi').2))) rfl) rfl rfl rfl hb hb2 (hq i hi'),rfl,rfl⟩) ⟨rfl,rfl⟩)
noncomputable def Qgx(QcC:Den)(Qc5:Den):DS:=(Qe (Qo 1 (Qaf (Qa 0))) (Qe (Qo 2 (dC (.int 1))) (Qe (Qbl (QaY (dBf QaD (Qc (Qa 0) Qg))) (.nm 3) (Qe (Qo 1 (Qj 2 QcC [] (Qc (Qa 1) (Qc (Qa 3) Qg)))) (Qe (Qo 4 (Qaf (Qr (Qa 1) (Qa 3)))) (Qe (sIf (QO (dOp gEq (Qr (Qa 4) (Qa 3)) (dC (.int 0)))) (Qe (QP (Qat (Qc (Qa 1) (Qc (dC (.int 0)) Qg)))) Qp) Qp) (Qe (Qo 1 (QM (QY (Qa 1)) (.nm 1) [none,none,some 3,some 2,some 4] QW (Qj 4 Qc5 [] (Qc (Qa 1) (Qc (Qa 4) (Qc (Qa 2) (Qc (Qa 3) Qg))))))) (Qe (Qcj 1 Qal (Qa 3) (Qa 4)) (Qe (Qo 2 (Qaf (Qr (Qa 4) (Qa 3)))) Qp))))))) (Qe (QP (Qat (Qc (Qa 1) (Qc (Qa 2) Qg)))) Qp))))
theorem Qf5{n:Nat}{den:Den}{dfl:List D}{fs:DA}{ρ:En}{r:RA}{d:D}(h:fs ρ=some r)(e:den (r.ds++dfl)=some (d,false))(hn:r.ds.length+dfl.length=n):Qj n den dfl fs ρ=some (R.norm ⟨d,false,r.M⟩):=by
 unfold Qj
 rw[h,Za,if_pos hn,e]
 rfl
theorem Qtl{x n N k:Nat}{g:Nat->Nat->Int}{p:Nat->Int}{fi fa:DE}{ρ:En}{Q:Out->Prop}(hx:ρ[x]? =some (some (Qd n N g,true)))(hi:fi ρ=some ⟨.int k,true,[]⟩)(ha:fa ρ=some ⟨Qf N p,false,[]⟩)(hk:k<n)
  (q:Q (.nx (ρ.set x (some (Qd n N (λi j=>if i=k then p j else g i j),false))))):Run (Qcj x Qal fi fa) ρ Q:=by
 refine⟨_,?_,q⟩
 unfold Qcj
 rw[ha,Za,hx]
 have hn:(HS.R.mk (Qf N p) false []).norm=⟨Qf N p,false,[]⟩:=by unfold R.norm Qf;rfl
 simp only[Qal,Za,hi,Qd,Qa9,Zs,Zo,hn]
 rw[Qb5 (show(0:Int)<=k by omega) (by omega)]
 simp only[Za,ZL]
 have e:((List.range n).map λi=>Qf N (g i)).set k (Qf N p)=(List.range n).map λi=>Qf N (λj=>if i=k then p j else g i j):=by
  refine Zbc λi=>?_
  rw[ZbO]
  by_cases h:k=i
  ·subst h
   rw[if_pos rfl,if_pos (by simpa using hk),Zm,ZH hk]
   simp
  ·rw[if_neg h,Zm,Zm]
   by_cases h2:i<n
   ·rw[ZH h2]
    simp only[Zae,if_neg (Ne.symm h)]
   ·rw[Zt (by simpa using h2)];rfl
 rw[e]
 rfl
theorem QdP(f:Nat->Int):∀n,sm n f=Qk n f
 | 0=>rfl
 | n+1=>by rw[Qaz,← QdP f n];rfl
theorem Qho{m:Nat}{f:Nat->Int}(h:∀i,i<m->0<=f i):0<=Qk m f:=by
 have:=Qdx h
 rw[Qbu]at this
 exact this
theorem Qqk{m k:Nat}{T:Nat->Nat->Int}(tp:TP m T){c:Nat->Int}(h0:∀l,k<l->c l=0)(h:∀r,r<m->r<=k->Qk m (λl=>c l*T l r)=0):∀l,l<m->c l<=0:=by
 obtain⟨w,w0,hw⟩:=tp.wt
 have p0:∀l,0<=(if 0<c l then c l else 0):=λl=>by split<;>omega
 have v0:∀r,r<m->0<=Qk m (λl=>(if 0<c l then c l else 0)*T l r):=λr hr=>by
  by_cases h1:0<c r
  ·have hrk:r<=k:=by
    by_cases z:k<r
    ·rw[h0 r z]at h1;omega
    ·omega
   have e:Qk m (λl=>(if 0<c l then c l else 0)*T l r)=Qk m (λl=>((if 0<c l then c l else 0)-c l)*T l r):=by
    have:=QaJ m (λl=>((if 0<c l then c l else 0)-c l)*T l r) (λl=>c l*T l r)
    rw[h r hr hrk,ZaV]at this
    rw[← this]
    exact Qm λl _=>by rw[← ZX];congr 1;omega
   rw[e]
   refine Qho λl hl=>?_
   by_cases e2:l=r
   ·subst e2;rw[if_pos h1,Zbi,Zy];exact ZaS _
   ·refine ZaA ?_ (tp.pos l r hl hr e2)
    split<;>omega
  ·refine Qho λl hl=>?_
   by_cases e2:l=r
   ·subst e2;rw[if_neg h1,Zy];exact ZaS _
   ·exact ZaA (p0 l) (tp.pos l r hl hr e2)
 have s1:0<=Qk m λr=>Qk m (λl=>(if 0<c l then c l else 0)*T l r)*w r:=by
  have:Qk m (λ_=>(0:Int))<=Qk m λr=>Qk m (λl=>(if 0<c l then c l else 0)*T l r)*w r:=Qdx λr hr=>ZaA (v0 r hr) (w0 r)
  rw[Qbu]at this
  exact this
 have s2:(Qk m λr=>Qk m (λl=>(if 0<c l then c l else 0)*T l r)*w r)=Qk m λl=>(if 0<c l then c l else 0)*Qk m λr=>T l r*w r:=by
  have e1:(λr=>Qk m (λl=>(if 0<c l then c l else 0)*T l r)*w r)=λr=>Qk m λl=>(if 0<c l then c l else 0)*(T l r*w r):=by
   funext r
   rw[ZV,← Q7]
   exact Qm λl _=>by rw[ZV (w r),ZF]
  rw[e1,Qff]
  exact Qm λl _=>by rw[Q7]
 have s3:(Qk m λl=>(if 0<c l then c l else 0)*Qk m λr=>T l r*w r)<=Qk m λl=> -(if 0<c l then c l else 0):=Qdx λl hl=>by
  have:=ZaH (hw l hl) (p0 l)
  omega
 rw[QhB]at s3
 intro l hl
 have big:(if 0<c l then c l else 0)<=Qk m λl=>(if 0<c l then c l else 0):=by
  have:=QaS hl (if 0<c l then c l else 0) (λ_=>1)
  have h2:Qk m (λi=>(if i=l then(if 0<c l then c l else 0)else 0)*1)<=Qk m λl=>(if 0<c l then c l else 0):=Qdx λi _=>by
   rw[Zab]
   by_cases e:i=l
   ·subst e;rw[if_pos rfl];exact ZaS _
   ·rw[if_neg e];exact p0 i
  omega
 by_cases z:0<c l
 ·rw[if_pos z]at big;omega
 ·omega
theorem Qqc{m:Nat}{T:Nat->Nat->Int}(tp:TP m T):Qpg m λl r=>0-T l r:=λk hk c h=>by
 have ext:∀r,r<=k->Qk m (λl=>(if l<=k then c l else 0)*T l r)=0:=λr hr=>by
  have e:=h r hr
  rw[← QdP,QfL (k:=k+1) (by omega)]
  ·have n:=Qhl (-1) 0 (λl=>c l*(0-T l r)) (λ_=>0) (k+1)
   rw[e]at n
   rw[QaU (g:=λl=> -1*(c l*(0-T l r))+0*0) λl hl=>by rw[if_pos (by omega),ZaI,ZbE];omega,n]
   omega
  ·intro l h1 h2;rw[if_neg (by omega),Zy]
 have a:=Qqk tp (λl hl=>by show(if l<=k then c l else 0)=0;rw[if_neg (by omega)]) (λr _ hr=>ext r hr) k hk
 have b:=Qqk (k:=k) tp (λl hl=>by show(if l<=k then-c l else 0)=0;rw[if_neg (by omega)]) (λr _ hr=>by
  have:=ext r hr
  rw[Qm (g:=λl=> -((if l<=k then c l else 0)*T l r)) λl _=>by split<;>simp[Zax],QhB,this];rfl) k hk
 have a:(if k<=k then c k else 0)<=0:=a
 have b:(if k<=k then-c k else 0)<=0:=b
 rw[if_pos (Zh k)]at a b
 omega
noncomputable def QkC:DS:=(Qe (QP (QM (QY (Qa 0)) (.nm 1) [none,none] QW (dOp Qa6 (dC (.int 0)) (Qa 1)))) Qp)
def Qns(d:Den):Prop:=∀(n:Nat) (a:Nat->Int),d [Qf n a]=some (Qf n λi=>0-a i,true)
theorem Qx9:Qns (Qn 1 QkC):=λn a=>QX (QC (QN (List.range n) (Q0 rfl rfl) rfl λi _=>⟨[none,some (.int (a i),true)],rfl,⟨.int (0-a i),true,[]⟩,rfl,rfl,rfl⟩) ⟨rfl,rfl⟩)
noncomputable def Qjw(QbH:Den)(Qcy:Den):DS:=(Qe (QP (QM (QY (Qj 1 Qcy [] (Qc (Qa 0) Qg))) (.nm 1) [none,none] QW (Qj 1 QbH [] (Qc (Qa 1) Qg)))) Qp)
def Qj1(d:Den):Prop:=∀(m:Nat) (R L:List (Int×Int)),m<=1000->R.length+R.length+L.length<=1000000->(∀s∈R,Good m s)->(∀s∈L,Good m s)->d [QR m R L]=some (Qd m m λi j=>0-Qz m (Qv R L) i j,true)
theorem Qr0{dop dt:Den}(ho:Qns dop)(ht:Qod dt):Qj1 (Qn 1 (Qjw dop dt)):=λm R L hm hl hR hL=>by
 have et:=ht m R L hm hl hR hL
 generalize Qz m (Qv R L)=T at *
 exact QX (QC (QN (List.range m) (Q0 (Ql rfl et rfl) rfl) rfl λi _=>⟨[none,some (Qf m (T i),false)],rfl,⟨Qf m λj=>0-T i j,true,[]⟩,Ql rfl (ho m (T i)) rfl,rfl,rfl⟩) ⟨rfl,rfl⟩)
noncomputable def QhS:DS:=(Qe (Qo 1 (dC (.int 0))) (Qe (Qbl (QY (Qa 0)) (.nm 2) (Qe (Qo 3 (Qaf (Qa 2))) (Qe (Qcv (QO (dOp gNe (Qa 3) (dC (.int 0)))) (Qe (Qo 4 (dOp Qah (Qa 1) (Qa 3))) (Qe (Qo 1 (Qaf (Qa 3))) (Qe (Qo 3 (Qaf (Qa 4))) Qp)))) Qp))) (Qe (QP (dBf Qis (Qc (Qa 1) Qg))) Qp)))
theorem Qvs{a b t:Int}:(t∣b/\t∣Qd6 a b)↔(t∣a/\t∣b):=by
 have e:Qd6 a b=a-b*QeU a b:=by
  rw[Qmk,show Qd6 a b=a.fmod b from Qmj a b,Int.fmod_def]
 rw[e]
 constructor
 ·rintro⟨h1,h2⟩
  refine⟨?_,h1⟩
  have:=ZaC h2 (Zay (c:=QeU a b) h1)
  rwa[ZaF]at this
 ·rintro⟨h1,h2⟩
  exact⟨h2,Zbf h1 (Zay h2)⟩
theorem QwW{a b:Int}(h:b≠0):(Qd6 a b).natAbs<b.natAbs:=by
 rw[show Qd6 a b=a.fmod b from Qmj a b]
 by_cases hb:0<b
 ·have h1:=Zce a hb
  have h2:=Int.fmod_lt_of_pos a hb
  omega
 ·have hb':0< -b:=by omega
  have h1:=Zce (-a) hb'
  have h2:=Int.fmod_lt_of_pos (-a) hb'
  have h3:=Int.neg_fmod_neg a b
  omega
def QjP(d:Den):Prop:=∀(xs:List Int),∃g:Int,d [Qa5 xs]=some (.int g,true)/\0<=g/\∀t,t∣g↔∀x∈xs,t∣x
theorem Qsu:QjP (Qn 5 QhS):=λxs=>by
 have key:Run QhS [some (Qa5 xs,false),none,none,none,none] λo=>match o with | .rt d fr=>fr=true/\∃g,d= .int g/\0<=g/\∀t,t∣g↔∀x∈xs,t∣x | _=>False:=by
  refine run_seq (Qh rfl ?_)
  rw[Qi]
  refine QH (QaF xs (λk ρ=>∃g j2 j3 j4,(∀t,t∣g↔∀x∈xs.take k,t∣x)/\ρ=[some (Qa5 xs,false),some (.int g,true),j2,j3,j4]) (Q0 rfl rfl) rfl ⟨0,none,none,none,λt=>by simp,rfl⟩ ?_ ?_)
  ·rintro k x ρ hk ⟨g,j2,j3,j4,hg,rfl⟩
   refine⟨[some (Qa5 xs,false),some (.int g,true),some (.int x,true),j3,j4],rfl,?_⟩
   refine run_seq (Qh rfl ?_)
   rw[Qa7 rfl]
   refine Qar (P:=λρ=>∃g' j4,(∀t,t∣g'↔(t∣g/\t∣x))/\ρ=[some (Qa5 xs,false),some (.int g',true),some (.int x,true),some (.int 0,true),j4]) ?_ ?_
   ·refine Qgr (λn ρ=>∃g' r j4,n=r.natAbs/\(∀t,(t∣g'/\t∣r)↔(t∣g/\t∣x))/\ρ=[some (Qa5 xs,false),some (.int g',true),some (.int x,true),some (.int r,true),j4]) ?_ x.natAbs _ ⟨g,x,j4,rfl,λ_=>Iff.rfl,rfl⟩
    rintro n ρ ⟨g',r,j4,rfl,hd,rfl⟩
    refine⟨!decide (r=0),QL (QcY rfl rfl rfl rfl) rfl,λh=>?_,λh=>?_⟩
    ·have hr:r=0:=by simpa using h
     subst hr
     exact⟨g',j4,λt=>by rw[← hd t];simp,rfl⟩
    ·have hr:r≠0:=by simpa using h
     refine run_seq (Qh (Qbb rfl rfl (by show(if r≠0 then some (D.int (Qd6 g' r))else none)=_;rw[if_pos hr])) ?_)
     rw[Qi]
     refine run_seq (Qh rfl ?_)
     rw[Qa7 rfl]
     refine run_seq (Qh rfl (Qt ?_))
     rw[Qa7 rfl]
     exact⟨_,QwW hr,r,Qd6 g' r,_,rfl,λt=>Qvs.trans (hd t),rfl⟩
   ·rintro ρ ⟨g',j4,hd,rfl⟩
    refine Qt ⟨g',_,_,_,λt=>?_,rfl⟩
    rw[hd t,hg t,Zck,hk]
    simp only[ZC,Option.toList_some,ZG]
    exact⟨λ⟨a,b⟩ y hy=>hy.elim (a y) λe=>e▸b,λa=>⟨λy hy=>a y (.inl hy),a x (.inr rfl)⟩⟩
  ·rintro ρ ⟨g,j2,j3,j4,hg,rfl⟩
   rw[Zbh]at hg
   refine QC rfl ⟨rfl,_,rfl,by split<;>omega,λt=>?_⟩
   rw[← hg t]
   split
   ·exact Int.dvd_neg
   ·exact Iff.rfl
 obtain⟨o,h1,h2⟩:=key
 cases o with
 | rt d fr=>
  obtain⟨rfl,g,rfl,g0,hg⟩:=h2
  exact⟨g,by show Option.bind (QhS [some (Qa5 xs,false),none,none,none,none]) outD=_;rw[h1];rfl,g0,hg⟩
 | _=>exact h2.elim
noncomputable def Qgi(Qcg:Den):DS:=(Qe (Qo 1 (Qj 1 Qcg [] (Qc (Qa 0) Qg))) (Qe (sIf (QO (dOp gEq (Qr (Qa 1) (dC (.int 1))) (dC (.int 0)))) (Qe QE Qp) Qp) (Qe (QP (Qa 1)) Qp)))
theorem Qvl{fa fb:DE}{ρ:En}{ra:R}{m:Nat}{f:Nat->Int}{x:Int}(ha:fa ρ=some ra)(ea:ra.d=Qf m f)(hb:fb ρ=some ⟨.int x,true,[]⟩)(hm:m<=1000):QQ fa (QaC (Qc fb Qg)) ρ=some ⟨Qf (m+1) (up f m x),true,[]⟩:=by
 have hb:QaC (Qc fb Qg) ρ=some ⟨.lst [.int x],true,[]⟩:=(Qk0 (Qq hb (QS _)) (by simp)).trans rfl
 unfold QQ
 rw[ha,Za,hb,Za,ea]
 simp only[Qf,Zs,Zo,Qgo]
 rw[if_pos (by simp;omega)]
 unfold QaQ
 rw[if_pos (by rw[Qdw,Zj];exact⟨Qce (λ_=>rfl) _,rfl⟩)]
 congr 3
 rw[ZaY,ZZ]
 congr 1
 ·refine ZO λi hi=>?_
  rw[Qhd,if_neg (by have:=Zk.mp hi;omega)]
 ·show _=[D.int (up f m x m)]
  rw[Qhd,if_pos rfl]
theorem QoE(n:Nat)(f:Nat->Int):Qf n f=Qa5 ((List.range n).map f):=by unfold Qf Qa5;rw[Zaj];rfl
def Qua(d:Den):Prop:=∀(n:Nat) (f:Nat->Nat->Int) (row:Nat->Int),n<=8->(∀j r,j<n->r<n->(f j r).natAbs<=2^200)->(∀r,r<n->(row r).natAbs<=2^200)->Qpg n f->∃tops q,d [Qd n n f,Qf n row]=some (.tup [Qf n tops,.int q],true)/\0<q/\q.natAbs<2^2000/\(∀r,r<n->q*row r=sm n λl=>tops l*f l r)/\(∀l,l<n->(tops l).natAbs<2^2000)/\(q≠1->∃l,l<n/\¬q∣tops l)
theorem QwL{fa fb:DE}{ρ:En}{ra rb:R}{a b:Int}(ha:fa ρ=some ra)(ea:ra.d= .int a)(hb:fb ρ=some rb)(eb:rb.d= .int b)(h:0<b)(h2:b.natAbs<2^2000):dOp QbF fa fb ρ=some ⟨.int (a / b),true,[]⟩:=by
 refine Qbb ha hb ?_
 rw[ea,eb]
 show(if QdO b=true then some (D.int (QeU a b))else none)=_
 have:QdO b=true:=by
  unfold QdO
  simp only[Zj,decide_eq_true_eq]
  exact⟨by omega,Zu h2 (ZD (by decide) (by decide))⟩
 rw[if_pos this,QoX _ _ (by omega)]
theorem Qsa{n N:Nat}{A:Nat->Nat->Int}(hN:n<=N)(hA:∀j,j<N->∀r,r<n->(A j r).natAbs<=2^200)(hl:Qpg n A):∀k,k<=n->∃m R d,QfU n N k A m R d
 | 0,_=>⟨_,_,_,QfU.start n N A⟩
 | k+1,hk=>by
  obtain⟨m,R,d,C⟩:=Qsa hN hA hl k (by omega)
  have pv:=C.QAW (show k<n by omega) (by omega) hl
  have ex:∀i j,∃q,i<n->i≠k->j<N->R k k*R i j-R i k*R k j=d*q:=λi j=>by
   by_cases h:i<n/\i≠k/\j<N
   ·exact⟨_,λh1 h2 h3=>C.clr.exact (by omega) (by omega) h1 h3 h2⟩
   ·exact⟨0,λh1 h2 h3=>absurd ⟨h1,h2,h3⟩ h⟩
  refine⟨_,λi j=>if i=k then R k j else(ex i j).choose,_,C.step (by omega) (by omega) hA pv (λj _=>by rw[if_pos rfl]) λi j hi ne hj q hq=>?_⟩
  rw[if_neg ne]
  exact Zas C.clr.nz (((ex i j).choose_spec hi ne hj).symm.trans hq)
noncomputable def Q5(m:Nat)(T:Nat->Nat->Int)(v:Nat->Int):Nat->Int:=λj=>2*(0-T j j)-QG m T (λj=>2*(0-T j j)) v j
theorem QmU{m:Nat}{T:Nat->Nat->Int}{v:Nat->Int}(j:Nat):Q5 m T v j= -Qk m λi=>v i*T i j:=by
 unfold Q5 QG;show 2*(0-T j j)-(2*(0-T j j)+_)=_;omega
def Rec(m:Nat)(T:Nat->Nat->Int)(v x:Nat->Int):Prop:=∃(y u:Nat->Int),(∀j,j<m->0<=y j)/\Told m T (λj=>y j+Q5 m T v j) u/\∀j,j<m->x j=QG m T (λj=>y j+Q5 m T v j) u j
structure Dbl (m:Nat) (T:Nat->Nat->Int) (v:Nat->Int):Prop where
 told:Told m T (λj=>2*(0-T j j)) v
theorem Dbl.big{m:Nat}{T:Nat->Nat->Int}{v:Nat->Int}(h:Dbl m T v){j:Nat}(hj:j<m):(0-T j j)+1<=Q5 m T v j/\Q5 m T v j<=2*(0-T j j):=by
 have h1:=h.told.stb j hj
 have h2:=h.told.pos j hj
 unfold Q5
 omega
def Qxf(d:Den):Prop:=∀(m:Nat) (R L:List (Int×Int)) (f:Nat->Int),0<m->m<=8->Qbg m R L->(∀j,j<m->(f j).natAbs<=2^200)->∃k v,d [QR m R L,Qf m f]=some (.tup [Qf m (QG m (Qz m (Qv R L)) f k),Qf m k],true)/\Dbl m (Qz m (Qv R L)) v/\Rec m (Qz m (Qv R L)) v (QG m (Qz m (Qv R L)) f k)/\Stb m (Qz m (Qv R L)) (QG m (Qz m (Qv R L)) f k)/\∀j,j<m->0<=QG m (Qz m (Qv R L)) f k j
theorem Dbl.round{m:Nat}{T:Nat->Nat->Int}{v:Nat->Int}(h:Dbl m T v)(tp:TP m T){y u:Nat->Int}(y0:∀j,j<m->0<=y j)(hu:Told m T (λj=>y j+Q5 m T v j) u):Told m T (λj=>y j+Q5 m T v j+Q5 m T v j) (λi=>v i+u i)/\∀j,j<m->QG m T (λj=>y j+Q5 m T v j) u j=QG m T (λj=>y j+Q5 m T v j+Q5 m T v j) (λi=>v i+u i) j:=by
 refine h.told.lay (λj hj=>?_) (λj hj=>?_) hu
 ·have b:=h.big hj
  have:=h.told.stb j hj
  have e:Q5 m T v j=2*(0-T j j)-QG m T (λj=>2*(0-T j j)) v j:=rfl
  have:=y0 j hj
  omega
 ·have e:Q5 m T v j=2*(0-T j j)-QG m T (λj=>2*(0-T j j)) v j:=rfl
  omega
theorem Rec.comes{m:Nat}{T:Nat->Nat->Int}{v x w:Nat->Int}(tp:TP m T)(h:Dbl m T v)(hr:Rec m T v x)(hw:Told m T (λj=>x j+Q5 m T v j) w):∀j,j<m->QG m T (λj=>x j+Q5 m T v j) w j=x j:=λj hj=>by
 obtain⟨y,u,y0,hu,ex⟩:=hr
 obtain⟨t2,e2⟩:=h.round tp y0 hu
 obtain⟨t1,e1⟩:=hu.lay (F':=λj=>y j+Q5 m T v j+Q5 m T v j) (λj hj=>by have:=h.big hj;have:=tp.neg j hj;show _<=y j+Q5 m T v j+Q5 m T v j;omega) (λj hj=>by show x j+_=_;rw[ex j hj];omega) hw
 have one:=t1.one tp t2
 rw[e1 j hj,ex j hj,e2 j hj]
 exact Qeg j rfl one
theorem Dbl.pos{m:Nat}{T:Nat->Nat->Int}{v:Nat->Int}(tp:TP m T)(h:Dbl m T v){j:Nat}(hj:j<m):1<=v j:=by
 refine Zah λz=>?_
 have v0:v j=0:=by have:=h.told.leg.nonneg j;omega
 have s:=h.told.stb j hj
 have:0<=Qk m λi=>v i*T i j:=Qho λi hi=>by
  by_cases e:i=j
  ·rw[e,v0,Zy];exact ZaS _
  ·exact ZaA (h.told.leg.nonneg i) (tp.pos i j hi hj e)
 have e:QG m T (λj=>2*(0-T j j)) v j=2*(0-T j j)+Qk m λi=>v i*T i j:=rfl
 have:=tp.neg j hj
 omega
theorem Rec.Qwc{m:Nat}{T:Nat->Nat->Int}{v y u:Nat->Int}(tp:TP m T)(h:Dbl m T v)(y0:∀j,j<m->0<=y j)(hu:Told m T (λj=>y j+Q5 m T v j) u):∀N:Nat,Told m T (λj=>(y j+N*Q5 m T v j)+Q5 m T v j) (λi=>u i+N*v i)/\∀j,j<m->QG m T (λj=>(y j+N*Q5 m T v j)+Q5 m T v j) (λi=>u i+N*v i) j=QG m T (λj=>y j+Q5 m T v j) u j
 | 0=>by
  have e1:(λj=>(y j+((0:Nat):Int)*Q5 m T v j)+Q5 m T v j)=λj=>y j+Q5 m T v j:=by funext j;simp
  have e2:(λi=>u i+((0:Nat):Int)*v i)=u:=by funext i;simp
  rw[e1,e2]
  exact⟨hu,λ_ _=>rfl⟩
 | N+1=>by
  obtain⟨t,e⟩:=Rec.Qwc tp h y0 hu N
  obtain⟨t2,e2⟩:=h.round tp (λj hj=>by
   have:=h.big hj
   have:=tp.neg j hj
   have:=ZaA (show(0:Int)<=N by omega) (show 0<=Q5 m T v j by omega)
   have:=y0 j hj
   show 0<=y j+N*Q5 m T v j
   omega) t
  have e3:(λj=>(y j+((N+1:Nat):Int)*Q5 m T v j)+Q5 m T v j)=λj=>y j+N*Q5 m T v j+Q5 m T v j+Q5 m T v j:=by
   funext j;rw[Zaf,ZX];simp;omega
  have e4:(λi=>u i+((N+1:Nat):Int)*v i)=λi=>v i+(u i+N*v i):=by
   funext i;rw[Zaf,ZX];simp;omega
  rw[e3,e4]
  exact⟨t2,λj hj=>by rw[← e2 j hj,e j hj]⟩
theorem Qql{m:Nat}{T:Nat->Nat->Int}{f c d:Nat->Int}(j:Nat):QG m T (QG m T f c) d j=QG m T f (λi=>c i+d i) j:=by
 unfold QG
 have:(λi=>(c i+d i)*T i j)=λi=>c i*T i j+d i*T i j:=by funext i;rw[ZX]
 rw[this,QaJ]
 omega
theorem QuX{m:Nat}(d:Nat->Int):∃N:Nat,∀i,i<m-> -(N:Int)<=d i:=by
 induction m with
 | zero=>exact⟨0,λi hi=>by omega⟩
 | succ m ih=>
  obtain⟨N,h⟩:=ih
  refine⟨N+(d m).natAbs,λi hi=>?_⟩
  by_cases e:i=m
  ·subst e;omega
  ·have:=h i (by omega);omega
theorem Rec.least{m:Nat}{T:Nat->Nat->Int}{v x d:Nat->Int}(tp:TP m T)(h:Dbl m T v)(hr:Rec m T v x)(hs:Stb m T (QG m T x d)):∀i,i<m->0<=d i:=by
 obtain⟨y,u,y0,hu,ex⟩:=hr
 obtain⟨N,hN⟩:=QuX d
 obtain⟨t,e⟩:=Rec.Qwc tp h y0 hu N
 have:=t.leg.least tp (c':=λi=>(u i+N*v i)+d i) (λi hi=>by
  have h1:=h.pos tp hi
  have h2:=hu.leg.nonneg i
  have h3:=hN i hi
  have h4:=ZaH h1 (show(0:Int)<=N by omega)
  show 0<=u i+N*v i+d i
  omega) (λp hp=>by
  have:=hs p hp
  rw[← Qql]
  have e2:QG m T (QG m T (λj=>(y j+N*Q5 m T v j)+Q5 m T v j) λi=>u i+N*v i) d p=QG m T x d p:=Qeg p (by rw[e p hp,ex p hp]) λ_ _=>rfl
  rw[e2];exact this)
 intro i hi
 have:=this i hi
 omega
theorem Rec.one{m:Nat}{T:Nat->Nat->Int}{v v' x x' d:Nat->Int}(tp:TP m T)(h:Dbl m T v)(h':Dbl m T v')(hr:Rec m T v x)(hr':Rec m T v' x')(sx:Stb m T x)(sx':Stb m T x')(e:∀j,j<m->x' j=QG m T x d j):∀i,i<m->d i=0:=λi hi=>by
 have a:=hr.least tp h (λp hp=>by rw[← e p hp];exact sx' p hp) i hi
 have b:=hr'.least tp h' (λp hp=>by
  have:QG m T x' (λi=> -d i) p=x p:=by
   have q:QG m T x' (λi=> -d i) p=QG m T (QG m T x d) (λi=> -d i) p:=Qeg p (e p hp) λ_ _=>rfl
   rw[q,Qql]
   unfold QG
   rw[Qm λi _=>by show(d i+ -d i)*T i p=0;rw[Int.add_right_neg,Zy],Qbu]
   omega
  rw[this];exact sx p hp) i hi
 omega
noncomputable def QeZ(Qam:Den)(Qda:Den)(Qc0:Den):DS:=(Qe (Qo 3 (QQ (dC (.int 1)) (dOp Qah (Qj 2 Qam [] (Qc (Qa 0) (Qc (dC (.int 0)) Qg))) (Qa 1)))) (Qe (Qo 4 (dOp Qah (dOp QbF (Qj 2 Qam [] (Qc (Qa 0) (Qc (dC (.int 1)) Qg))) (dC (.int 6))) (dC (.int 1000003)))) (Qe (Qo 5 (dOp Qah (Qj 2 Qam [] (Qc (Qa 0) (Qc (dC (.int 1)) Qg))) (dC (.int 6)))) (Qe (Qo 6 (QM (QaY (dOp Qah (Qj 2 Qam [] (Qc (Qa 0) (Qc (dC (.int 2)) Qg))) (QQ (Qa 2) (dC (.int 1))))) (.nm 1) [none,none,some 0] QW (Qj 2 Qam [] (Qc (Qa 2) (Qc (QQ (dC (.int 3)) (Qa 1)) Qg))))) (Qe (Qo 7 (Qj 4 Qc0 [] (Qc (Qj 3 Qda [] (Qc (Qa 3) (Qc (Qa 4) (Qc (Qa 5) Qg)))) (Qc (Qa 6) (Qc (Qa 3) (Qc (Qa 5) Qg)))))) (Qe (sIf (QO (dOp gEq (dOp Qah (Qa 4) (dC (.int 2))) (dC (.int 1)))) (Qe (Qo 7 (Qpt (Qa 7) (Qlz (dC (.int 1))))) Qp) Qp) (Qe (Qo 8 (QM (QY (Qa 7)) (.tp [1,2,3]) [none,none,none,none] (Qck (QO (Qa 3))) (Qat (Qc (dBf QgA (Qc (Qa 1) (Qc (Qa 2) Qg))) (Qc (dBf Qgw (Qc (Qa 1) (Qc (Qa 2) Qg))) Qg))))) (Qe (Qo 9 (QM (QY (Qa 7)) (.tp [1,2,3]) [none,none,none,none] (QO (Qa 3)) (Qat (Qc (Qa 1) (Qc (Qa 2) Qg))))) (Qe (QP (Qat (Qc (Qa 3) (Qc (Qa 8) (Qc (Qa 9) Qg))))) Qp)))))))))
def Qml(d:Den):Prop:=∀(ns:List Int) (most upto:Nat),ns.length<=63->(∀k,QaK (ns.getD k 0))->0<most->most<=8->upto<=20->∃(m:Nat) (R L:List (Int×Int)),d [.lst (ns.map .int),.int most,.int upto]=some (QR m R L,true)/\0<m/\m<=most/\Qbg m R L
theorem QvF{dc db dm:Den}(hc:Qi6 dc)(hb:QoC db)(hm:QoL dm):Qml (Qn 10 (QeZ dc db dm)):=λns most upto hl hbits hm0 hm8 hup=>by
 obtain⟨F,hF⟩:=hc ns hl hbits
 have b1:=ZI (F 0) (by omega:(most:Int)≠0)
 have b2:=ZE (F 0) (by omega:(0:Int)<most)
 obtain⟨m1,em1⟩:∃m:Nat,(m:Int)=1+F 0 % most:=⟨(1+F 0 % most).toNat,by omega⟩
 have t1:=ZI (F 1 / 6) (by decide:(1000003:Int)≠0)
 have t2:=ZE (F 1 / 6) (by decide:(0:Int)<1000003)
 generalize et:F 1 / 6 % 1000003=t at t1 t2
 generalize ek:F 1 % 6=kind
 have u1:=ZI (F 2) (by omega:(upto:Int)+1≠0)
 have u2:=ZE (F 2) (by omega:(0:Int)<(upto:Int)+1)
 obtain⟨n,en⟩:∃n:Nat,(n:Int)=F 2 % ((upto:Int)+1):=⟨(F 2 % ((upto:Int)+1)).toNat,by omega⟩
 have key:Run (QeZ dc db dm) (Qdf 10 [.lst (ns.map .int),.int most,.int upto]) (Rt λd fr=>∃(m:Nat) (R L:List (Int×Int)),d=QR m R L/\fr=true/\0<m/\m<=most/\Qbg m R L):=by
  have cell:∀(ρ:En) (k:Nat),k<=1000->ρ[0]? =some (some (.lst (ns.map .int),false))->Qj 2 dc [] (Qc (Qa 0) (Qc (dC (.int k)) Qg)) ρ=some ⟨.int (F k),true,[]⟩:=λρ k hk h0=>Ql (Qq (QaX h0) (Qq (QaL _ _) (QS _))) (hF k hk).1 rfl
  refine run_seq (Qh (Qac rfl rfl (Qad (cell _ 0 (by decide) rfl) rfl rfl rfl (by omega)) rfl) ?_)
  rw[Qi,← em1]
  refine run_seq (Qh (Qad (Qhj (cell _ 1 (by decide) rfl) rfl rfl rfl (by decide) (by decide)) rfl rfl rfl (by decide)) ?_)
  rw[Qi,et]
  refine run_seq (Qh (Qad (cell _ 1 (by decide) rfl) rfl rfl rfl (by decide)) ?_)
  rw[Qi,ek]
  have m0:0<m1:=by omega
  have m8:m1<=most:=by omega
  have er:dOp Qah (Qj 2 dc [] (Qc (Qa 0) (Qc (dC (.int 2)) Qg))) (QQ (Qa 2) (dC (.int 1))) [some (.lst (ns.map .int),false),some (.int most,true),some (.int upto,true),some (.int m1,true),some (.int t,true),some (.int kind,true),none,none,none,none]=some ⟨.int n,true,[]⟩:=
   (Qad (cell _ 2 (by decide) rfl) rfl (Qac rfl rfl rfl rfl) rfl (by omega)).trans (by rw[en])
  refine run_seq (Qh (r:=⟨.lst (((List.range n).map λk=>F (3+k)).map .int),true,[]⟩) ((QN (List.range n) (Qbm er rfl (by omega)) rfl λk hk=>⟨[none,some (.int k,true),some (.lst (ns.map .int),false)],rfl,⟨.int (F (3+k)),true,[]⟩,Ql (Qq rfl (Qq (Qac (b:=k) rfl rfl rfl rfl) (QS _))) (by show dc [.lst (ns.map .int),.int (3+(k:Int))]=_;rw[show(3:Int)+k=((3+k:Nat):Int) by omega];exact(hF (3+k) (by have:=Zk.mp hk;omega)).1) rfl,rfl,rfl⟩).trans (by rw[Zaj];rfl)) ?_)
  rw[Qi]
  generalize hcs:(List.range n).map (λk=>F (3+k))=cs
  have hcl:cs.length<=20:=by rw[← hcs,Zs,Zo];omega
  have hbase:=hb m1 t kind (by omega) (by omega) t1 (by omega)
  obtain⟨W',fr,hmore,hw1,hw2⟩:=hm m1 (Qcn m1 t kind) cs kind (by omega) (by omega) (by rw[Qpu];omega) QoG
  have gW:∀w∈Qcn m1 t kind++W',GoodW m1 w:=λw hw=>(ZC.mp hw).elim (QoG w) (hw2 w)
  have easgM:∀fr,asg 7 (if fr=true then⟨Qao (Qcn m1 t kind++W'),true,[]⟩else R.norm ⟨Qao (Qcn m1 t kind++W'),false,[6]⟩) [some (.lst (ns.map .int),false),some (.int most,true),some (.int upto,true),some (.int m1,true),some (.int t,true),some (.int kind,true),some (.lst (cs.map .int),true),none,none,none]=[some (.lst (ns.map .int),false),some (.int most,true),some (.int upto,true),some (.int m1,true),some (.int t,true),some (.int kind,true),some (.lst (cs.map .int),fr),some (Qao (Qcn m1 t kind++W'),fr),none,none]:=λfr=>by cases fr<;>rfl
  refine run_seq (Qh (r:=if fr=true then⟨Qao (Qcn m1 t kind++W'),true,[]⟩else R.norm ⟨Qao (Qcn m1 t kind++W'),false,[6]⟩) ?_ ?_)
  ·have eargs:Qc (Qj 3 db [] (Qc (Qa 3) (Qc (Qa 4) (Qc (Qa 5) Qg)))) (Qc (Qa 6) (Qc (Qa 3) (Qc (Qa 5) Qg))) [some (.lst (ns.map .int),false),some (.int most,true),some (.int upto,true),some (.int m1,true),some (.int t,true),some (.int kind,true),some (.lst (cs.map .int),true),none,none,none]=some ⟨[Qao (Qcn m1 t kind),.lst (cs.map .int),.int m1,.int kind],true,[6]⟩:=
    Qq (Ql (r:=⟨[.int m1,.int t,.int kind],true,[]⟩) rfl hbase rfl) (rs:=⟨[.lst (cs.map .int),.int m1,.int kind],true,[6]⟩) rfl
   exact(QjG eargs hmore rfl).trans (by cases fr<;>rfl)
  refine(congrArg (λρ=>Run _ ρ _) (easgM fr)).mpr ?_
  refine Qar (P:=λρ=>∃W b,(∀w∈Qcn m1 t kind,w∈W)/\(∀w∈W,GoodW m1 w)/\W.length<=200/\ρ=[some (.lst (ns.map .int),false),some (.int most,true),some (.int upto,true),some (.int m1,true),some (.int t,true),some (.int kind,true),some (.lst (cs.map .int),fr),some (Qao W,b),none,none]) ?_ ?_
  ·have hlen:(Qcn m1 t kind++W').length<=200:=by rw[Zr,Qpu];omega
   refine Qaa (QL (Qa0 (Qad rfl rfl rfl rfl (by decide)) rfl rfl rfl) rfl) (λ_=>?_) (λ_=>?_)
   ·refine run_seq (Qh (QsH rfl) (Qt ?_))
    rw[Qi]
    exact⟨_,true,λw hw=>List.mem_reverse.mpr (Zd _ hw),λw hw=>gW w (List.mem_reverse.mp hw),by rw[ZbH];exact hlen,rfl⟩
   ·exact Qt ⟨_,fr,λw hw=>Zd _ hw,gW,hlen,rfl⟩
  ·rintro ρ ⟨W,b,w1,w2,w3,rfl⟩
   refine run_seq (Qh (QuW (QaX rfl) (by cases b<;>rfl)) ?_)
   rw[Qi]
   refine run_seq (Qh (QvT (QaX rfl) (by cases b<;>rfl)) ?_)
   rw[Qi]
   exact QC rfl ⟨m1,QK W,Qc1 W,rfl,rfl,m0,m8,⟨W,QtP.mono w1,w2,w3,rfl,rfl⟩⟩
 obtain⟨o,h1,h2⟩:=key
 cases o with
 | rt d fr=>
  obtain⟨m,R,L,rfl,rfl,h3,h4,h5⟩:=h2
  exact⟨m,R,L,by unfold Qn;rw[h1];rfl,h3,h4,h5⟩
 | _=>exact h2.elim
noncomputable def Qgj:DS:=(Qe (QP (Qat (Qc (Qr (Qa 0) (dC (.int 0))) (Qc (dList (Qc (Qr (Qa 0) (dC (.int 1))) Qg)) (Qc (dList (Qc (Qr (Qa 0) (dC (.int 2))) Qg)) Qg))))) Qp)
def Qly(d:Den):Prop:=∀(m:Int) (R L:List (Int×Int)),d [QR m R L]=some (QR m R L,true)
theorem QuJ:Qly (Qn 1 Qgj):=λm R L=>by
 refine QX (QC (r:=⟨QR m R L,true,[]⟩) ?_ ⟨rfl,rfl⟩)
 obtain⟨h1,h2,h3⟩:=QeW (fa:=Qa 0) (ρ:=[some (QR m R L,false)]) rfl rfl
 unfold Qat
 refine(congrArg (λz=>Option.bind z _) (Qq h1 (Qq (QjC (Qq h2 (QS _)) rfl rfl) (Qq (QjC (Qq h3 (QS _)) rfl rfl) (QS _))))).trans ?_
 rfl
theorem Rec.of{m:Nat}{T:Nat->Nat->Int}{v v' x:Nat->Int}(tp:TP m T)(h:Dbl m T v)(h':Dbl m T v'):∀j,Q5 m T v' j=Q5 m T v j:=λj=>by
 have e:=h.told.one tp h'.told
 rw[QmU,QmU]
 exact congrArg (λz=> -z) (Qm λi hi=>by rw[e i hi])
structure QBY (m:Nat) (T:Nat->Nat->Int) (f k:Nat->Int):Prop where
 ex:∃v,Dbl m T v/\Rec m T v (QG m T f k)
 stb:Stb m T (QG m T f k)
 nn:∀j,j<m->0<=QG m T f k j
def HpB(m:Nat)(h:Nat->Int):Prop:=∀j,j<m->0<=h j/\h j<=2^62
theorem HpB.up{m:Nat}{h:Nat->Int}(b:HpB m h):∀j,j<m->0<=h j/\h j<=2^100:=λj hj=>by
 have:=b j hj
 have:(2:Int)^62<=2^100:=by decide
 omega
theorem QnS{fa fb:DE}{ρ:En}{ra rb:R}{m n:Nat}{f:Nat->Int}(ha:fa ρ=some ra)(ea:ra.d=Qf m f)(hb:fb ρ=some rb)(eb:rb.d= .int n)(h:n<=m):QcI fa (Qbw fb) Qbv ρ=some ⟨Qf (m-n) λi=>f (n+i),true,[]⟩:=by
 have cut:cutD ((List.range m).map λi=>D.int (f i)) (some (n:Int)) none=(List.range (m-n)).map λi=>D.int (f (n+i)):=by
  unfold cutD
  simp only[Zs,Zo,HT.QfR,HT.Qhr]
  rw[ZaO h,← List.map_drop,← Zcm]
  have e:((List.range m).drop n).take (m-n)=(List.range (m-n)).map λi=>n+i:=by
   rw[ZaU (by simp)]
   refine Zbc λi=>?_
   rw[List.getElem?_drop,Zm]
   by_cases hi:i<m-n
   ·rw[ZH (by omega),ZH hi];rfl
   ·rw[Zt (by simp;omega),Zt (by simp;omega)];rfl
  rw[e,Zaj]
  rfl
 unfold QcI Qbv Qbw
 simp only[ha,hb,Za,ea,eb,Qf,cut,QaQ]
 have:Qak ((List.range (m-n)).map λi=>D.int (f (n+i)))=true:=by
  have:=Qry ((List.range (m-n)).map λi=>f (n+i))
  rw[Zaj]at this
  exact this
 rw[if_pos this]
theorem Qpd(ds:List D)(M:List Nat):(QaQ ds M).d= .lst ds:=by unfold QaQ;split<;>rfl
theorem QvP{fa fb:DE}{ρ:En}{ra rb:R}{xs:List D}{n:Nat}(ha:fa ρ=some ra)(ea:ra.d= .lst xs)(hb:fb ρ=some rb)(eb:rb.d= .int n)(h:n<=xs.length):∃r:HS.R,QcI fa Qbv (Qbw fb) ρ=some r/\r.d= .lst (xs.take n):=by
 unfold QcI Qbv Qbw
 simp only[ha,hb,Za,ea,eb]
 refine⟨_,rfl,?_⟩
 rw[Qpd]
 unfold cutD
 simp only[HT.QfR,HT.Qhr,Zci,Zbw]
 rw[ZaO h]
theorem Quh{fa fb:DE}{ρ:En}{ra rb:R}{xs:List D}{n:Nat}(ha:fa ρ=some ra)(ea:ra.d= .lst xs)(hb:fb ρ=some rb)(eb:rb.d= .int n)(h:n<=xs.length):∃r:HS.R,QcI fa (Qbw fb) Qbv ρ=some r/\r.d= .lst (xs.drop n):=by
 unfold QcI Qbv Qbw
 simp only[ha,hb,Za,ea,eb]
 refine⟨_,rfl,?_⟩
 rw[Qpd]
 unfold cutD
 simp only[HT.QfR,HT.Qhr]
 rw[ZaO h,ZaU (by simp)]
theorem Qul{fa fb:DE}{ρ:En}{ra rb:R}{xs ys:List D}(ha:fa ρ=some ra)(ea:ra.d= .lst xs)(hb:fb ρ=some rb)(eb:rb.d= .lst ys)(h:xs.length+ys.length<=1000):∃r:HS.R,QQ fa fb ρ=some r/\r.d= .lst (xs++ys):=by
 unfold QQ
 rw[ha,Za,hb,Za,ea,eb]
 refine⟨_,if_pos (Zi h (by decide)),Qpd _ _⟩
theorem Qt9{n k:Nat}(hk:k<n+1)(g:Nat->D):((List.range (n+1)).map g).take k++((List.range (n+1)).map g).drop (k+1)=(List.range n).map λc=>g (skp k c):=by
 refine Zbc λi=>?_
 by_cases hi:i<n
 ·rw[Zm,ZH hi,List.getElem?_append]
  have l1:(((List.range (n+1)).map g).take k).length=k:=by rw[ZbA,Zs,Zo];omega
  rw[l1]
  unfold skp
  by_cases q:i<k
  ·rw[if_pos q,List.getElem?_take,if_pos q,Zm,ZH (by omega)]
   simp[q]
  ·rw[if_neg q,List.getElem?_drop,Zm,show k+1+(i-k)=i+1 by omega,ZH (by omega)]
   simp[q]
 ·rw[Zt (by simp;omega),Zt (by simp;omega)]
noncomputable def QcE(QaZ:Den):DS:=(Qe (sIf (QO (dOp gEq (dBf QaD (Qc (Qa 0) Qg)) (dC (.int 1)))) (Qe (QP (Qr (Qr (Qa 0) (dC (.int 0))) (dC (.int 0)))) Qp) Qp) (Qe (Qo 1 (dC (.int 0))) (Qe (Qbl (QaY (dBf QaD (Qc (Qa 0) Qg))) (.nm 2) (Qe (sIf (QO (dOp gNe (Qr (Qr (Qa 0) (Qa 2)) (dC (.int 0))) (dC (.int 0)))) (Qe (Qo 3 (Qj 1 QaZ [] (Qc (QM (QY (QQ (QcI (Qa 0) Qbv (Qbw (Qa 2))) (QcI (Qa 0) (Qbw (QQ (Qa 2) (dC (.int 1)))) Qbv))) (.nm 1) [none,none] QW (QcI (Qa 1) (Qbw (dC (.int 1))) Qbv)) Qg))) (Qe (Qo 1 (QQ (Qa 1) (Qav (Qav (dOp Qa6 (dC (.int 1)) (Qav (dC (.int 2)) (dOp Qah (Qa 2) (dC (.int 2))))) (Qr (Qr (Qa 0) (Qa 2)) (dC (.int 0)))) (Qa 3)))) Qp)) Qp) Qp)) (Qe (QP (Qa 1)) Qp))))
theorem Qye(k:Nat):1-2*((k:Int) % 2)=sgn k:=by
 unfold sgn
 split<;>omega
theorem Qmo{n:Nat}{A:Nat->Nat->Int}(hA:∀j,j<n->∀r,r<n->(A j r).natAbs<=2^200)(hl:Qpg n A):det n A≠0:=by
 obtain⟨m,R,d,C⟩:=Qsa (Zh n) hA hl n (Zh n)
 have e2:det n A=d:=by
  rw[← C.clr.det]
  exact QA λj hj r _=>by rw[C.clr.own j hj]
 rw[e2]
 exact C.clr.nz
theorem Qbg.small{m:Nat}{R L:List (Int×Int)}(hw:Qbg m R L){i j:Nat}(hi:i<m)(hj:j<m):(Qz m (Qv R L) i j).natAbs<=600:=by
 have g:=hw.good
 have gs:=QdI g.1 g.2.1
 rw[Qdt hi hj λs hs=>⟨(gs s hs).1,(gs s hs).2.1⟩]
 refine Zi (QgQ i j _) ?_
 unfold Qv
 rw[Zr,Zr,Zs]
 omega
theorem Qzd{n:Nat}(h:n<=4):bnd 600 n<=2^60:=by
 have h4:∀k,k<5->bnd 600 k<=2^60:=by decide+kernel
 exact h4 n (by omega)
noncomputable def QJ(T:Nat->Nat->Int):Nat->Nat->Int:=λi j=>0-T i j
theorem Qbg.QBz{m:Nat}{R L:List (Int×Int)}(hw:Qbg m R L)(m4:m<=4):(det m (QJ (Qz m (Qv R L)))).natAbs<=2^60:=Zi (Qdb λj hj r hr=>by have:=hw.small hj hr;unfold QJ;omega) (Qzd m4)
theorem Qbg.big{m:Nat}{R L:List (Int×Int)}(hw:Qbg m R L):∀j,j<m->∀r,r<m->(QJ (Qz m (Qv R L)) j r).natAbs<=2^200:=λj hj r hr=>by
 have:=hw.small hj hr
 have:(600:Nat)<=2^200:=by decide
 unfold QJ
 omega
theorem Qkk{ρ:En}{fi:DI}{m:Nat}{T:Nat->Nat->Int}{ir:IR}(h:fi ρ=some ir)(hx:ir.items=(List.range m).map λi=>Qf m (T i)):QM fi (.nm 1) [none,none] QW (QM (QY (Qa 1)) (.nm 1) [none,none] QW (dOp Qa6 (dC (.int 0)) (Qa 1))) ρ=some ⟨Qd m m (QJ T),true,[]⟩:=
 QN (toD:=λ(i:Nat)=>Qf m (T i)) (out:=λ(i:Nat)=>Qf m (QJ T i)) (List.range m) h hx λi _=>⟨[none,some (Qf m (T i),false)],rfl,⟨Qf m (QJ T i),true,[]⟩,QN (toD:=λ(j:Nat)=> .int (T i j)) (out:=λ(j:Nat)=> .int (QJ T i j)) (List.range m) (Q0 (r:=⟨Qf m (T i),false,[]⟩) rfl rfl) rfl λj _=>⟨[none,some (.int (T i j),true)],rfl,⟨.int (QJ T i j),true,[]⟩,rfl,rfl,rfl⟩,rfl,rfl⟩
noncomputable def QkL:DS:=(Qe (QP (QM (QaY (Qa 0)) (.nm 1) [none,none,some 1] QW (dIf (QO (dOp gEq (Qa 1) (Qa 2))) (dC (.int 1)) (dC (.int 0))))) Qp)
def Qla(d:Den):Prop:=∀(n p:Nat),n<=1000->d [.int n,.int p]=some (Qf n λi=>if i=p then 1 else 0,true)
theorem Qwv:Qla (Qn 2 QkL):=λn p hn=>by
 refine QX (QC (QN (List.range n) (Qbm rfl rfl (by omega)) rfl λi _=>⟨[none,some (.int i,true),some (.int p,true)],rfl,⟨.int (if i=p then 1 else 0),true,[]⟩,?_,rfl,rfl⟩) ⟨rfl,rfl⟩)
 unfold dIf
 rw[QL (Qa0 rfl rfl rfl rfl) rfl,Za]
 by_cases z:i=p
 ·rw[if_pos z,if_pos (by rw[z];simp)];rfl
 ·rw[if_neg z,if_neg (by simp;omega)];rfl
structure Alt (n:Nat) (φ:(Nat->Nat->Int)->Int):Prop where
 congr:∀{m k:Nat->Nat->Int},(∀j,j<n->∀r,r<n->m j r=k j r)->φ m=φ k
 lin:∀(m:Nat->Nat->Int) (c:Nat),c<n->∀(x y:Int) (a b:Nat->Int),φ (cup m c λr=>x*a r+y*b r)=x*φ (cup m c a)+y*φ (cup m c b)
 alt:∀{m:Nat->Nat->Int}{i j:Nat},i<n->j<n->i≠j->m i=m j->φ m=0
section
variable {n:Nat}{φ:(Nat->Nat->Int)->Int}{m:Nat->Nat->Int}
theorem Alt.add(h:Alt n φ){c:Nat}(hc:c<n)(a b:Nat->Int):φ (cup m c λr=>a r+b r)=φ (cup m c a)+φ (cup m c b):=by
 have:=h.lin m c hc 1 1 a b
 simpa only[ZK]using this
theorem Alt.mul(h:Alt n φ){c:Nat}(hc:c<n)(x:Int)(a:Nat->Int):φ (cup m c λr=>x*a r)=x*φ (cup m c a):=by
 have:=h.lin m c hc x 0 a a
 simpa only[Zy,ZaV]using this
theorem Alt.swap(h:Alt n φ){c d:Nat}(hc:c<n)(hd:d<n)(hcd:c≠d)(a b:Nat->Int):φ (cup (cup m c a) d b)= -φ (cup (cup m c b) d a):=by
 have z:=h.alt (m:=cup (cup m c λr=>a r+b r) d λr=>a r+b r) hc hd hcd (by rw[Qw,Qu _ _ hcd,Qw])
 have za:=h.alt (m:=cup (cup m c a) d a) hc hd hcd (by rw[Qw,Qu _ _ hcd,Qw])
 have zb:=h.alt (m:=cup (cup m c b) d b) hc hd hcd (by rw[Qw,Qu _ _ hcd,Qw])
 rw[h.add hd,Q3 _ _ _ hcd,h.add hc,Q3 _ _ _ hcd,h.add hc,Q3 _ _ _ (Ne.symm hcd),Q3 _ _ _ (Ne.symm hcd),Q3 _ _ _ (Ne.symm hcd),Q3 _ _ _ (Ne.symm hcd),za,zb]at z
 omega
theorem Alt.sum(h:Alt n φ){c:Nat}(hc:c<n)(x:Nat->Int)(E:Nat->Nat->Int):∀k,φ (cup m c λr=>sm k λs=>x s*E s r)=sm k λs=>x s*φ (cup m c (E s))
 | 0=>by
  have:=h.mul (m:=m) hc 0 λ_=>0
  rw[Zy]at this
  unfold sm
  simpa using this
 | k+1=>by
  unfold sm
  rw[h.add hc,h.sum hc x E k,h.mul hc]
theorem QqA(n:Nat):Alt n (det n):=⟨QA,λm c hc x y a b=>QeK x y a b n m c hc a b,λhi hj hij e=>Qeq hi hj hij e⟩
theorem QjE(h:Alt n φ):∀(g t:Nat) (σ:Nat->Nat),t+g=n->(∀j,j<t->σ j=j)->(∀j,j<n->σ j<n)->φ (λj=>QB (σ j))=det n (λj=>QB (σ j))*φ QB
 | 0,t,σ,e,hp,hn=>by
  have h1:∀j,j<n->∀r,r<n->QB (σ j) r=QB j r:=λj hj r _=>by rw[hp j (by omega)]
  rw[h.congr h1,QA h1,QdZ,ZK]
 | g+1,t,σ,e,hp,hn=>by
  by_cases ht:σ t=t
  ·exact QjE h g (t+1) σ (by omega) (λj hj=>by
    by_cases z:j=t
    ·rw[z];exact ht
    ·exact hp j (by omega)) hn
  ·by_cases ex:∃i,i<n/\σ i=t
   ·obtain⟨i,hi,hs⟩:=ex
    have hti:t<i:=by
     rcases Nat.lt_trichotomy i t with z | z | z
     ·have:=hp i z;omega
     ·subst z;exact absurd hs ht
     ·exact z
    have hne:t≠i:=by omega
    have sw:∀{ψ:(Nat->Nat->Int)->Int},Alt n ψ->ψ (λj=>QB (σ j))= -ψ (λj=>QB (if j=t then σ i else if j=i then σ t else σ j)):=λ{ψ} hψ=>by
     have:=hψ.swap (m:=λj=>QB (σ j)) (by omega) hi hne (QB (σ t)) (QB (σ i))
     have e1:cup (cup (λj=>QB (σ j)) t (QB (σ t))) i (QB (σ i))=λj=>QB (σ j):=by
      rw[Q2 (λj=>QB (σ j)) t,Q2 (λj=>QB (σ j)) i]
     have e2:cup (cup (λj=>QB (σ j)) t (QB (σ i))) i (QB (σ t))=λj=>QB (if j=t then σ i else if j=i then σ t else σ j):=by
      funext j
      by_cases z1:j=i
      ·subst z1;rw[Qw,if_neg (Ne.symm hne),if_pos rfl]
      ·rw[Qu _ _ z1]
       by_cases z2:j=t
       ·subst z2;rw[Qw,if_pos rfl]
       ·rw[Qu _ _ z2,if_neg z2,if_neg z1]
     rw[e1,e2]at this
     exact this
    rw[sw h,sw (QqA n),Zax]
    congr 1
    refine QjE h g (t+1) _ (by omega) (λj hj=>?_) (λj hj=>?_)
    ·by_cases z:j=t
     ·rw[if_pos z,hs,z]
     ·rw[if_neg z,if_neg (by omega)];exact hp j (by omega)
    ·split
     ·exact hn i hi
     ·split
      ·exact hn t (by omega)
      ·exact hn j hj
   ·obtain⟨k,hk⟩:∃k,n=k+1:=⟨n-1,by omega⟩
    obtain⟨i,j,hi,hj,hij,he⟩:=QnE (n:=k) (λj=>if σ j<t then σ j else σ j-1) λj hj=>by
     have h1:=hn j (by omega)
     have h2:σ j≠t:=λz=>ex ⟨j,by omega,z⟩
     split<;>omega
    have hs:σ i=σ j:=by
     have h1:σ i≠t:=λz=>ex ⟨i,by omega,z⟩
     have h2:σ j≠t:=λz=>ex ⟨j,by omega,z⟩
     split at he<;>split at he<;>omega
    have e1:(λj=>QB (σ j)) i=(λj=>QB (σ j)) j:=by show QB (σ i)=QB (σ j);rw[hs]
    rw[h.alt (by omega) (by omega) hij e1,(QqA n).alt (by omega) (by omega) hij e1,Zy]
theorem QhU(h:Alt n φ)(m:Nat->Nat->Int):φ m=det n m*φ QB:=by
 have key:∀k,k<=n->∀m:Nat->Nat->Int,(∃σ:Nat->Nat,∀j,k<=j->j<n->σ j<n/\m j=QB (σ j))->φ m=det n m*φ QB:=by
  intro k
  induction k with
  | zero=>
   rintro _ m ⟨σ,hσ⟩
   have h1:∀j,j<n->∀r,r<n->m j r=(λj=>QB (σ j)) j r:=λj hj r _=>by rw[(hσ j (by omega) hj).2]
   rw[h.congr h1,QA h1]
   exact QjE h n 0 σ (by omega) (λj hj=>by omega) λj hj=>(hσ j (by omega) hj).1
  | succ k ih=>
   rintro hk m ⟨σ,hσ⟩
   have hcol:∀j,j<n->∀r,r<n->m j r=cup m k (λr=>sm n λs=>m k s*QB s r) j r:=λj hj r hr=>by
    by_cases z:j=k
    ·subst z
     rw[Qw,QdU hr λi _ ne=>by rw[show QB i r=0 by unfold QB;rw[if_neg ne],Zz],show QB r r=1 by unfold QB;rw[if_pos rfl],Zab]
    ·rw[Qu _ _ z]
   rw[h.congr hcol,QA hcol,h.sum (by omega),QeH (by omega),← Qqi]
   refine QaU λs hs=>?_
   rw[ZF]
   congr 1
   refine ih (by omega) _ ⟨λj=>if j=k then s else σ j,λj h1 h2=>?_⟩
   show(if j=k then s else σ j)<n/\cup m k (QB s) j=QB (if j=k then s else σ j)
   by_cases z:j=k
   ·subst z;rw[if_pos rfl,Qw];exact⟨hs,rfl⟩
   ·rw[if_neg z,Qu _ _ z];exact hσ j (by omega) h2
 exact key n (Zh n) m ⟨id,λj h1 h2=>by omega⟩
end
theorem Qvy(n:Nat)(x E:Nat->Nat->Int):det n (λj r=>sm n λs=>x j s*E s r)=det n x*det n E:=by
 have h:Alt n λx=>det n λj r=>sm n λs=>x j s*E s r:=by
  have hcup:∀(m:Nat->Nat->Int) (c:Nat) (a:Nat->Int),(λj r=>sm n λs=>cup m c a j s*E s r)=cup (λj r=>sm n λs=>m j s*E s r) c λr=>sm n λs=>a s*E s r:=λm c a=>by
   funext j r
   by_cases z:j=c
   ·subst z;rw[Qw,Qw]
   ·rw[Qu _ _ z,Qu _ _ z]
  refine⟨λhm=>QA λj hj r hr=>QaU λs hs=>by rw[hm j hj s hs],λm c hc x y a b=>?_,λ{m i j} hi hj hij e=>Qeq hi hj hij (by funext r;rw[e])⟩
  rw[hcup,hcup,hcup,← QeK x y (λr=>sm n λs=>a s*E s r) (λr=>sm n λs=>b s*E s r) n _ c hc]
  congr 2
  funext r
  rw[← Qhl]
  exact QaU λs hs=>by rw[ZX,ZF,ZF]
 have:=QhU h x
 rw[this]
 congr 1
 refine QA λj hj r hr=>?_
 rw[QdU hj λs _ ne=>by rw[show QB j s=0 by unfold QB;rw[if_neg (Ne.symm ne)],Zy],show QB j j=1 by unfold QB;rw[if_pos rfl],ZK]
noncomputable def rup(m:Nat->Nat->Int)(c:Nat)(a:Nat->Int):Nat->Nat->Int:=λj r=>if r=c then a j else m j r
theorem QqC(x y:Int):∀(n:Nat) (m:Nat->Nat->Int) (c:Nat),c<n->∀(a b:Nat->Int),det n (rup m c λj=>x*a j+y*b j)=x*det n (rup m c a)+y*det n (rup m c b)
 | 0,_,_,h,_,_=>by omega
 | n+1,m,c,h,a,b=>by
  unfold det
  rw[← Qhl]
  refine QaU λj hj=>?_
  cases c with
  | zero=>
   have e:∀a:Nat->Int,(λc' r=>rup m 0 a (skp j c') (r+1))=λc' r=>m (skp j c') (r+1):=λa=>by
    funext c' r
    unfold rup
    rw[if_neg (by omega)]
   rw[e,e,e]
   unfold rup
   simp only[if_pos]
   generalize det n _=q
   generalize sgn j=s
   simp only[ZaG,ZX,ZF,ZM]
  | succ c=>
   have e:∀a:Nat->Int,(λc' r=>rup m (c+1) a (skp j c') (r+1))=rup (λc' r=>m (skp j c') (r+1)) c λc'=>a (skp j c'):=λa=>by
    funext c' r
    unfold rup
    by_cases z:r=c
    ·rw[if_pos (by omega),if_pos z]
    ·rw[if_neg (by omega),if_neg z]
   rw[e,e,e,QqC x y n _ c (by omega) (λc'=>a (skp j c')) λc'=>b (skp j c')]
   have e0:∀a:Nat->Int,rup m (c+1) a j 0=m j 0:=λa=>by unfold rup;rw[if_neg (by omega)]
   rw[e0,e0,e0]
   generalize det n _=q
   generalize det n _=q'
   generalize sgn j*m j 0=s
   simp only[ZaG,ZM]
noncomputable def trp(a b r:Nat):Nat:=if r=a then b else if r=b then a else r
theorem Qvk{n:Nat}(m:Nat->Nat->Int){a b:Nat}(ha:a<n)(hb:b<n)(hab:a≠b):det n (λj r=>m j (trp a b r))= -det n m:=by
 have tb:∀r,r<n->trp a b r<n:=λr hr=>by
  unfold trp
  split
  ·exact hb
  ·split
   ·exact ha
   ·exact hr
 have h:Alt n λm=>det n λj r=>m j (trp a b r):=by
  have hcup:∀(m:Nat->Nat->Int) (c:Nat) (v:Nat->Int),(λj r=>cup m c v j (trp a b r))=cup (λj r=>m j (trp a b r)) c λr=>v (trp a b r):=λm c v=>by
   funext j r
   by_cases z:j=c
   ·subst z;rw[Qw,Qw]
   ·rw[Qu _ _ z,Qu _ _ z]
  refine⟨λhm=>QA λj hj r hr=>hm j hj _ (tb r hr),λm c hc x y v w=>?_,λ{m i j} hi hj hij e=>Qeq hi hj hij (by funext r;rw[e])⟩
  rw[hcup,hcup,hcup,← QeK x y (λr=>v (trp a b r)) (λr=>w (trp a b r)) n _ c hc]
 have e:=QhU h m
 rw[e]
 have u:det n (λj r=>QB j (trp a b r))= -1:=by
  have e1:=Qbf (m:=QB) ha hb hab (QB b) (QB a)
  rw[show cup (cup QB a (QB a)) b (QB b)=QB by rw[Q2,Q2],QdZ]at e1
  rw[← e1]
  refine QA λj hj r hr=>?_
  by_cases z1:j=b
  ·subst z1
   rw[Qw]
   unfold QB trp
   by_cases q1:r=a
   ·rw[if_pos q1,if_pos rfl,if_pos q1.symm]
   ·rw[if_neg q1]
    by_cases q2:r=j
    ·rw[if_pos q2,if_neg (Ne.symm hab),if_neg (by omega)]
    ·rw[if_neg q2,if_neg (λz=>q2 z.symm),if_neg (λz=>q1 z.symm)]
  ·rw[Qu _ _ z1]
   by_cases z2:j=a
   ·subst z2
    rw[Qw]
    unfold QB trp
    by_cases q1:r=j
    ·rw[if_pos q1,if_neg hab,if_neg (by omega)]
    ·rw[if_neg q1]
     by_cases q2:r=b
     ·rw[if_pos q2,if_pos rfl,if_pos q2.symm]
     ·rw[if_neg q2,if_neg (λz=>q1 z.symm),if_neg (λz=>q2 z.symm)]
   ·rw[Qu _ _ z2]
    unfold QB trp
    by_cases q1:r=a
    ·rw[if_pos q1,if_neg z1,if_neg (by omega)]
    ·rw[if_neg q1]
     by_cases q2:r=b
     ·rw[if_pos q2,if_neg z2,if_neg (by omega)]
     ·rw[if_neg q2]
 rw[u];omega
theorem QyM{n:Nat}{m:Nat->Nat->Int}{a b:Nat}(ha:a<n)(hb:b<n)(hab:a≠b)(e:∀j,j<n->m j a=m j b):det n m=0:=by
 have h:=Qvk m ha hb hab
 have:det n (λj r=>m j (trp a b r))=det n m:=QA λj hj r hr=>by
  unfold trp
  split
  ·rename_i z;rw[z];exact(e j hj).symm
  ·split
   ·rename_i z;rw[z];exact e j hj
   ·rfl
 omega
theorem QaV(n:Nat)(m:Nat->Nat->Int):det n (λj r=>m r j)=det n m:=by
 have h:Alt n λm=>det n λj r=>m r j:=by
  have hcup:∀(m:Nat->Nat->Int) (c:Nat) (v:Nat->Int),(λj r=>cup m c v r j)=rup (λj r=>m r j) c v:=λm c v=>by
   funext j r
   unfold rup
   by_cases z:r=c
   ·subst z;rw[Qw,if_pos rfl]
   ·rw[Qu _ _ z,if_neg z]
  refine⟨λhm=>QA λj hj r hr=>hm r hr j hj,λm c hc x y v w=>?_,λ{m i j} hi hj hij e=>QyM hi hj hij λk _=>by rw[e]⟩
  rw[hcup,hcup,hcup,QqC x y n _ c hc v w]
 have e:=QhU h m
 rw[e,QA (m:=λj r=>QB r j) (k:=QB) λj _ r _=>by
  unfold QB
  by_cases z:r=j
  ·rw[if_pos z,if_pos z.symm]
  ·rw[if_neg z,if_neg (Ne.symm z)],QdZ,Zab]
noncomputable def dia(m:Nat->Nat->Int):Nat->Int
 | 0=>1
 | n+1=>m 0 0*dia (λj r=>m (j+1) (r+1)) n
theorem Qhx:∀(n:Nat) (m:Nat->Nat->Int),(∀j r,j<n->r<n->r<j->m j r=0)->det n m=dia m n
 | 0,m,_=>rfl
 | n+1,m,h=>by
  unfold det dia
  rw[QdU (c:=0) (by omega) λj hj ne=>by rw[h j 0 hj (by omega) (by omega),Zz,Zy]]
  have e:(λc r=>m (skp 0 c) (r+1))=λc r=>m (c+1) (r+1):=by
   funext c r
   unfold skp
   rw[if_neg (by omega)]
  rw[e,Qhx n _ λj r hj hr hjr=>h (j+1) (r+1) (by omega) (by omega) (by omega)]
  unfold sgn
  simp
end HS
namespace HS
open PySem L2
noncomputable def Qen(N:Nat)(m:Nat->Nat->Int)(b:Nat):Nat->Nat->Int:=λj=>m ((j+b) % N)
theorem Qxl{N:Nat}(hN:0<N)(m:Nat->Nat->Int):det N (Qen N m 1)=sgn (N-1)*det N m:=by
 have e:=QlK (n:=N) (Qen N m 1) (m 0) (l:=N-1) (by omega) (N-1) 0 (by omega)
 have e1:det N (cyc (Qen N m 1) (m 0) (N-1) 0)=det N m:=QA λj hj r hr=>by
  unfold cyc
  rw[if_neg (by omega)]
  by_cases q:j=0
  ·rw[if_pos q,q]
  ·rw[if_neg q,if_pos (by omega)]
   unfold Qen
   rw[show j-1+1=j by omega,Nat.mod_eq_of_lt hj]
 have e2:det N (cup (Qen N m 1) (N-1) (m 0))=det N (Qen N m 1):=QA λj hj r hr=>by
  by_cases q:j=N-1
  ·subst q
   rw[Qw]
   unfold Qen
   rw[show N-1+1=N by omega,Nat.mod_self]
  ·rw[Qu _ _ q]
 rw[e1,e2]at e
 rw[e,← ZF,Qok,ZK]
theorem QwC(a b:Nat):sgn (a+b)=sgn a*sgn b:=by
 unfold sgn
 by_cases h1:a % 2=0
 ·by_cases h2:b % 2=0
  ·rw[if_pos h1,if_pos h2,if_pos (by omega)];rfl
  ·rw[if_pos h1,if_neg h2,if_neg (by omega)];rfl
 ·by_cases h2:b % 2=0
  ·rw[if_neg h1,if_pos h2,if_neg (by omega)];rfl
  ·rw[if_neg h1,if_neg h2,if_pos (by omega)];rfl
theorem Qlo{N:Nat}(hN:0<N)(m:Nat->Nat->Int):∀b,det N (Qen N m b)=sgn (b*(N-1))*det N m
 | 0=>by
  rw[Nat.zero_mul,show sgn 0=1 by unfold sgn;simp,ZK]
  refine QA λj hj r hr=>?_
  unfold Qen
  rw[Nat.add_zero,Nat.mod_eq_of_lt hj]
 | b+1=>by
  have e:det N (Qen N m (b+1))=det N (Qen N (Qen N m b) 1):=QA λj hj r hr=>by
   unfold Qen
   rw[Nat.mod_add_mod,show j+1+b=j+(b+1) by omega]
  rw[e,Qxl hN,Qlo hN m b,Zcc,QwC,← ZF,ZV (sgn (N-1))]
theorem Qz3{g1 g2:DT}{ρ:En}(h:g1 ρ=some true):bOr g1 g2 ρ=some true:=by unfold bOr;rw[h];rfl
theorem QyY{fa:DE}{ρ:En}{a b:D}{fr:Bool}{M:List Nat}(h:fa ρ=some ⟨.tup [a,b],fr,M⟩):Qr fa (dC (.int 1)) ρ=some (HS.R.norm ⟨b,fr,M⟩):=by
 unfold Qr
 rw[h];rfl
noncomputable def QdH(f:Nat->Nat->Int)(k:Nat)(p:Nat->Int)(i:Nat)(q:Nat->Int):Nat->Nat->Int:=λl j=>if l=i then q j else if l=k then p j else f l j
theorem QeO{n N k:Nat}{g:Nat->Nat->Int}{p:Nat->Int}(hk:k<n):((List.range n).map λi=>Qf N (g i)).set k (Qf N p)=(List.range n).map λi=>Qf N (λj=>if i=k then p j else g i j):=by
 refine Zbc λi=>?_
 rw[ZbO]
 by_cases h:k=i
 ·subst h
  rw[if_pos rfl,if_pos (by simpa using hk),Zm,ZH hk]
  simp
 ·rw[if_neg h,Zm,Zm]
  by_cases h2:i<n
  ·rw[ZH h2]
   simp only[Zae,if_neg (Ne.symm h)]
  ·rw[Zt (by simpa using h2)];rfl
theorem Qxd{x n N k i:Nat}{f:Nat->Nat->Int}{p q:Nat->Int}{fy f1 g1 f2 g2:DE}{ρ:En}{by' b1 b2:Bool}{Q:Out->Prop}(hx:x<ρ.length)(ey:fy (ρ.set x none)=some ⟨Qd n N f,by',[]⟩)(e1:f1 (ρ.set x none)=some ⟨.int k,true,[]⟩)(e2:g1 (ρ.set x none)=some ⟨Qf N p,b1,[]⟩)(e3:f2 (ρ.set x none)=some ⟨.int i,true,[]⟩)(e4:g2 (ρ.set x none)=some ⟨Qf N q,b2,[]⟩)(hk:k<n)(hi:i<n)
  (h:Q (.nx ((ρ.set x none).set x (some (Qd n N (QdH f k p i q),false))))):Run (QjK x fy f1 g1 f2 g2) ρ Q:=by
 refine⟨_,?_,h⟩
 unfold QjK QqQ
 rw[if_pos (by simpa using hx),ey,Za]
 simp only[Qd,e1,e2,e3,e4,Za,Zs,Zo]
 rw[Qb5 (show(0:Int)<=k by omega) (by omega),Qb5 (show(0:Int)<=i by omega) (by omega)]
 simp only[Za,ZL,QeO hk]
 rw[QeO hi]
 rfl
noncomputable def Qhc(QbH:Den):DS:=(Qe (Qo 2 (QM (QdN (Qa 1) (dBf QaD (Qc (Qa 0) Qg))) (.nm 1) [none,none,some 1,some 0] (QO (dOp gNe (Qr (Qr (Qa 3) (Qa 1)) (Qa 2)) (dC (.int 0)))) (Qa 1))) (Qe (sIf (bOr (Qck (QO (Qa 2))) (QO (dOp gEq (Qr (Qa 2) (dC (.int 0))) (Qa 1)))) (Qe (QP (Qa 0)) Qp) Qp) (Qe (QjK 3 (Qa 0) (Qa 1) (Qr (Qa 0) (Qr (Qa 2) (dC (.int 0)))) (Qr (Qa 2) (dC (.int 0))) (Qj 1 QbH [] (Qc (Qr (Qa 0) (Qa 1)) Qg))) (Qe (QP (Qa 3)) Qp))))
def QjY(d:Den):Prop:=∀(n N k:Nat) (f:Nat->Nat->Int),k<n->n<=1000->k<N->∃g,d [Qd n N f,.int k]=some (Qd n N g,false)∧
 ((g=f/\(f k k=0->∀i,k<=i->i<n->f i k=0))∨∃i,k<i/\i<n/\f i k≠0/\g=QdH f k (f i) i λj=>0-f k j)
theorem Qtt{dop:Den}(ho:Qns dop):QjY (Qn 4 (Qhc dop)):=λn N k f hk hn kN=>by
 have eI:=QeL (fi:=QdN (Qa 1) (dBf QaD (Qc (Qa 0) Qg))) (t:= .nm 1) (cap:=[none,none,some 1,some 0]) (ft:=QO (dOp gNe (Qr (Qr (Qa 3) (Qa 1)) (Qa 2)) (dC (.int 0)))) (fe:=Qa 1) (ρ:=[some (Qd n N f,false),some (.int k,true),none,none])
  (toD:=λ(i:Nat)=> .int ((k:Int)+i)) (keep:=λi=> !decide (f (k+i) k=0)) (out:=λ(i:Nat)=> .int ((k:Int)+i)) (List.range (n-k)) (Qgp (i:=k) (j:=n) (n:=n-k) (ra:=⟨.int k,true,[]⟩) rfl rfl (QcA (n:=n) (m:=N) (f:=f) (r:=⟨Qd n N f,false,[]⟩) rfl rfl) rfl (by omega) (by omega) (by omega) (by omega)) rfl λi hi=>⟨[none,some (.int ((k:Int)+i),true),some (.int k,true),some (Qd n N f,false)],rfl,by
   have hi':=Zk.mp hi
   refine QL (QcY (a:=f (k+i) k) (b:=0) (QaN (m:=N) (f:=f (k+i)) (i:=k) ((Qef (m:=n) (n:=N) (f:=f) (i:=(k:Int)+i) (ra:=⟨Qd n N f,false,[]⟩) (rb:=⟨.int ((k:Int)+i),true,[]⟩) rfl rfl rfl rfl (by omega) (by omega)).trans (by rw[show((k:Int)+i).toNat=k+i by omega])) rfl (rb:=⟨.int k,true,[]⟩) rfl rfl kN) rfl rfl rfl) rfl,λ_=>⟨⟨.int ((k:Int)+i),true,[]⟩,rfl,rfl,rfl⟩⟩
 have hmem:∀i,i∈(List.range (n-k)).filter (λi=> !decide (f (k+i) k=0))↔i<n-k/\f (k+i) k≠0:=λi=>by simp
 have hfst:∀i,f (k+i) k≠0->i<n-k->∀a l,(List.range (n-k)).filter (λi=> !decide (f (k+i) k=0))=a::l->f k k≠0->a=0:=λi _ hi a l e h0=>by
  have hr:List.range (n-k)=0::(List.range (n-k-1)).map (· +1):=by
   rw[show n-k=(n-k-1)+1 by omega,Zbv];rfl
  rw[hr,List.filter_cons,if_pos (by show(!decide (f (k+0) k=0))=true;rw[Nat.add_zero,decide_eq_false h0];rfl)]at e
  exact(List.cons.inj e).1.symm
 generalize (List.range (n-k)).filter (λi=> !decide (f (k+i) k=0))=xs at eI hmem hfst
 cases xs with
 | nil=>
  refine⟨f,?_,.inl ⟨rfl,λ_ i h1 h2=>?_⟩⟩
  ·refine QX ?_
   refine run_seq (Qh eI ?_)
   rw[Qi]
   refine QH (Qaa (b:=true) ((Qz3 (QbB (b:=false) (show QO (Qa 2) _=some false from rfl)))) (λ_=>?_) (λh=>by cases h))
   exact QH (Qca (r:=⟨Qd n N f,false,[]⟩) rfl ⟨rfl,rfl⟩)
  ·by_cases z:f i k=0
   ·exact z
   ·have:=(hmem (i-k)).mpr ⟨by omega,by rw[show k+(i-k)=i by omega];exact z⟩
    simp at this
 | cons a l=>
  obtain⟨ha,hz⟩:=(hmem a).mp Zp
  have eidx:∀ρ:En,ρ[2]? =some (some (.lst ((a::l).map λ(i:Nat)=>D.int ((k:Int)+i)),true))->Qr (Qa 2) (dC (.int 0)) ρ=some ⟨.int ((k:Int)+a),true,[]⟩:=λρ hρ=>by
   unfold Qr
   rw[show Qa 2 ρ=some ⟨.lst ((a::l).map λ(i:Nat)=>D.int ((k:Int)+i)),true,[2]⟩ by unfold Qa;rw[hρ];rfl,Za,show dC (.int 0) ρ=some ⟨.int 0,true,[]⟩from rfl,Za]
   dsimp only
   simp only[D.items,ZJ,Za]
   rw[Qi9 (show(0:Int)<=0 by decide) (by simp)]
   rfl
  by_cases h0:a=0
  ·subst h0
   refine⟨f,?_,.inl ⟨rfl,λz=>absurd z (by simpa using hz)⟩⟩
   refine QX ?_
   refine run_seq (Qh eI ?_)
   rw[Qi]
   refine QH (Qaa (b:=true) ((Qcp (a:=false) (b:=true) (QbB (b:=true) (show QO (Qa 2) _=some true from rfl)) (QL (b:=true) (Qa0 (a:=k) (b:=k) (ra:=⟨.int k,true,[]⟩) ?_ rfl (rb:=⟨.int k,true,[]⟩) rfl rfl) (by simp))).trans rfl) (λ_=>?_) (λh=>by cases h))
   ·rw[eidx _ rfl]
    show some (HS.R.mk (.int ((k:Int)+(0:Nat))) true [])=_
    rw[show(k:Int)+(0:Nat)=k by omega]
   ·exact QH (Qca (r:=⟨Qd n N f,false,[]⟩) rfl ⟨rfl,rfl⟩)
  ·have hkk:f k k=0:=by
    by_cases z:f k k=0
    ·exact z
    ·exact absurd (hfst a hz ha a l rfl z) h0
   refine⟨_,?_,.inr ⟨k+a,by omega,by omega,hz,rfl⟩⟩
   refine QX ?_
   refine run_seq (Qh eI ?_)
   rw[Qi]
   refine QH (Qaa (b:=false) ((Qcp (a:=false) (b:=false) (QbB (show QO (Qa 2) _=some true from rfl)) (QL (Qa0 (eidx _ rfl) rfl rfl rfl) ?_)).trans rfl) (λh=>by cases h) (λ_=>Qt ?_))
   ·show D.bl _=_
    rw[decide_eq_false (by omega)]
   refine run_seq (Qxd (i:=k+a) (p:=f (k+a)) (q:=λj=>0-f k j) (by':=false) (b1:=false) (b2:=true) (show 3<4 by decide) rfl rfl ?_ ?_ ?_ hk (by omega) ?_)
   ·exact(Qef rfl rfl (eidx _ rfl) rfl (by omega) (by omega)).trans (by rw[show((k:Int)+a).toNat=k+a by omega])
   ·exact(eidx _ rfl).trans (by rw[show((k+a:Nat):Int)=(k:Int)+a by simp])
   ·exact Ql (r:=⟨[Qf N (f k)],false,[]⟩) (Qq ((Qef (i:=k) (ra:=⟨Qd n N f,false,[]⟩) rfl rfl rfl rfl (by omega) (by omega)).trans (by rw[ZL])) (QS _)) (ho N (f k)) rfl
   ·exact QH (Qca rfl ⟨rfl,rfl⟩)
def QqS(n:Nat)(m:Nat->Nat->Int):Prop:=∀j,j<n->∀r,r<n->(m j r).natAbs<=2^240
theorem QhR{n:Nat}(hn:n<=8):bnd (2^240) n<2^2000:=by
 have h:∀k,k<9->bnd (2^240) k<2^2000:=by decide+kernel
 exact h n (by omega)
theorem QqS.put{n:Nat}{m:Nat->Nat->Int}(h:QqS n m){i:Nat}{a:Nat->Int}(ha:∀r,r<n->(a r).natAbs<=2^240):QqS n (cup m i a):=λj hj r hr=>by
 by_cases e:j=i
 ·subst e;rw[Qw];exact ha r hr
 ·rw[Qu _ _ e];exact h j hj r hr
structure Qdm (n N k:Nat) (A m R:Nat->Nat->Int) (d:Int):Prop where
 clr:Clr n N k A m R d
 col:QqS n m
theorem Qdm.start(n N:Nat)(A:Nat->Nat->Int):Qdm n N 0 A QB (λi j=>A j i) 1:=⟨Clr.start n N A,λj _ r _=>by unfold QB;split<;>decide⟩
theorem Qdm.small{n N k:Nat}{A m R:Nat->Nat->Int}{d:Int}(h:Qdm n N k A m R d)(hn:n<=8)(hA:∀j,j<N->∀r,r<n->(A j r).natAbs<=2^240):d.natAbs<2^2000/\∀i j,i<n->j<N->(R i j).natAbs<2^2000:=by
 have b:=QhR hn
 refine⟨?_,λi j hi hj=>?_⟩
 ·rw[← h.clr.det];exact ZR (Qdb h.col) b
 ·rw[h.clr.ent i j hi hj];exact ZR (Qdb (h.col.put (hA j hj))) b
theorem Qdm.step{n N k:Nat}{A m R R':Nat->Nat->Int}{d:Int}(h:Qdm n N k A m R d)(hk:k<n)(kN:k<N)(hA:∀j,j<N->∀r,r<n->(A j r).natAbs<=2^240)(hp:R k k≠0)(h1:∀j,j<N->R' k j=R k j)(h2:∀i j,i<n->i≠k->j<N->∀q,R k k*R i j-R i k*R k j=d*q->R' i j=q):Qdm n N (k+1) A (cup m k (A k)) R' (R k k):=
 ⟨h.clr.step hk kN hp h1 h2,h.col.put (hA k kN)⟩
theorem Qdm.swap{n N k:Nat}{A m R:Nat->Nat->Int}{d:Int}(h:Qdm n N k A m R d){i:Nat}(hk:k<n)(hi:i<n)(hki:k<i):∃m',Qdm n N k A m' (QdH R k (R i) i λj=>0-R k j) d:=by
 have ne:k≠i:=by omega
 have neg:∀(c:Nat),c<n->∀(M:Nat->Nat->Int) (a:Nat->Int),HS.det n (cup M c λr=> -a r)= -HS.det n (cup M c a):=λc hc M a=>by
  have:=QdC (m:=M) hc (-1) a
  simpa only[Zax,ZK]using this
 obtain⟨c1,c2⟩:=h
 refine⟨cup (cup m k (m i)) i λr=> -m k r,⟨c1.le,?_,c1.nz,λl j hl hj=>?_,λj hj=>?_⟩,λj hj r hr=>?_⟩
 ·rw[neg i hi,Qbf hk hi ne,Zbq,Q2,Q2];exact c1.det
 ·unfold QdH
  by_cases e2:l=i
  ·subst e2
   rw[if_pos rfl]
   show 0-R k j=_
   rw[c1.ent k j hk hj,Qht,Qbf hk hl ne,Q3 _ _ _ ne]
   have:=Q2 m l
   rw[this];omega
  ·rw[if_neg e2]
   by_cases e1:l=k
   ·subst e1
    rw[if_pos rfl,c1.ent i j hi hj,Q3 _ _ _ (Ne.symm ne),Qht,neg i hi,Qbf hl hi ne,Zbq,Q2]
   ·rw[if_neg e1,c1.ent l j hl hj,Q3 _ _ _ (Ne.symm e2),neg i hi,Q3 _ _ _ (Ne.symm e1),Qbf hk hi ne,Zbq]
    rw[Q3 _ _ _ e1,Q2,Q3 _ _ _ e2,Q2]
 ·rw[Qu _ _ (by omega),Qu _ _ (by omega)];exact c1.own j hj
 ·by_cases e1:j=i
  ·subst e1;rw[Qw,Int.natAbs_neg];exact c2 k hk r hr
  ·rw[Qu _ _ e1]
   by_cases e2:j=k
   ·subst e2;rw[Qw];exact c2 i hi r hr
   ·rw[Qu _ _ e2];exact c2 j hj r hr
theorem Clr.stuck{n N k:Nat}{A m R:Nat->Nat->Int}{d:Int}(h:Clr n N k A m R d)(hk:k<n)(kN:k<N)(hz:∀i,k<=i->i<n->R i k=0):HS.det n A=0:=by
 have t:∀r,r<n->d*A k r=sm k λl=>R l k*A l r:=λr hr=>by
  rw[h.tell kN hr,QfL (k:=k) (by omega) λl h1 h2=>by rw[hz l h1 h2,Zy]]
  exact QaU λl hl=>by rw[h.own l hl]
 have e:d*HS.det n A=0:=by
  have e1:HS.det n (cup A k λr=>d*A k r)=d*HS.det n A:=by rw[QdC hk,Q2]
  rw[← e1]
  have e2:HS.det n (cup A k λr=>d*A k r)=HS.det n (cup A k λr=>sm k λl=>R l k*A l r):=QA λj hj r hr=>by
   by_cases q:j=k
   ·subst q;rw[Qw,Qw];exact t r hr
   ·rw[Qu _ _ q,Qu _ _ q]
  rw[e2,QeH hk (λl=>R l k) A k]
  exact QiT λi hi=>by rw[Qeq (show i<n by omega) hk (by omega) (by rw[Qw,Qu _ _ (by omega)]),Zz]
 rcases Int.mul_eq_zero.mp e with z | z
 ·exact absurd z h.nz
 ·exact z
theorem Clr.all{n N:Nat}{A m R:Nat->Nat->Int}{d:Int}(h:Clr n N n A m R d):d=HS.det n A:=by
 rw[← h.det]
 exact QA λj hj r _=>by rw[h.own j hj]
def Qfr(d:Den):Prop:=∀(n N:Nat) (A:Nat->Nat->Int),n<=8->n<=N->(∀j,j<N->∀r,r<n->(A j r).natAbs<=2^240)->∃R,d [Qd n N (λi j=>A j i)]=some (.tup [Qd n N R,.int (det n A)],false)/\(det n A≠0->∃m,Qdm n N n A m R (det n A))
theorem QpK{dp dt:Den}(hp:QjY dp)(ht:Qmr dt):Qfr (Qn 5 (Qgx dp dt)):=λn N A n8 hN hA=>by
 have key:Run (Qgx dp dt) [some (Qd n N (λi j=>A j i),false),none,none,none,none] λo=>match o with | .rt d fr=>fr=false/\∃R,d= .tup [Qd n N R,.int (det n A)]/\(det n A≠0->∃m,Qdm n N n A m R (det n A)) | _=>False:=by
  refine run_seq (Qh (QaA rfl) ?_)
  refine run_seq (Qh rfl ?_)
  rw[Qi]
  refine QH (QaF (List.range n) (λk ρ=>∃m R b j3 j4,Qdm n N k A m R b/\ρ=[some (Qd n N (λi j=>A j i),false),some (Qd n N R,false),some (.int b,true),j3,j4]) (Qbm (QcA rfl rfl) rfl (by omega)) rfl ⟨_,_,_,none,none,Qdm.start n N A,rfl⟩ ?_ ?_)
  ·rintro k k' ρ hk ⟨m0,R0,b,j3,j4,C0,rfl⟩
   have hk':k<n/\k=k':=by
    obtain⟨h1,h2⟩:=Zg.mp hk
    simp at h1 h2;exact⟨h1,h2⟩
   obtain⟨hkn,rfl⟩:=hk'
   have kN:k<N:=by omega
   obtain⟨R,ep,hR⟩:=hp n N k R0 hkn (by omega) kN
   have hC:∃m,Qdm n N k A m R b/\(R k k=0->det n A=0):=by
    rcases hR with⟨rfl,hz⟩ | ⟨i,h1,h2,h3,rfl⟩
    ·exact⟨m0,C0,λz=>C0.clr.stuck hkn kN (hz z)⟩
    ·obtain⟨m',C'⟩:=C0.swap hkn h2 h1
     refine⟨m',C',λz=>absurd z ?_⟩
     unfold QdH
     rw[if_neg (by omega),if_pos rfl]
     exact h3
   obtain⟨m,C,hzero⟩:=hC
   obtain⟨sb,sR⟩:=C.small n8 hA
   refine⟨[some (Qd n N (λi j=>A j i),false),some (Qd n N R0,false),some (.int b,true),some (.int k,true),j4],rfl,?_⟩
   refine run_seq (Qh (r:=⟨Qd n N R,false,[]⟩) ((Qf5 (r:=⟨[Qd n N R0,.int k],false,[]⟩) rfl ep rfl).trans rfl) ?_)
   refine run_seq (Qh ((QaA (Qef rfl rfl rfl rfl (by omega) (by omega))).trans rfl) ?_)
   refine QH (Qaa (QL (Qa0 (QaN rfl rfl rfl rfl kN) rfl rfl rfl) rfl) (λh=>?_) (λh=>Qt ?_))
   ·have dz:=hzero (of_decide_eq_true h)
    refine QH (Qca rfl ?_)
    exact⟨rfl,R,by rw[dz],λz=>absurd dz z⟩
   have pv:R k k≠0:=of_decide_eq_false h
   have ex:∀i j,∃q,i<n->i≠k->j<N->R k k*R i j-R i k*R k j=b*q:=λi j=>by
    by_cases h:i<n/\i≠k/\j<N
    ·exact⟨_,λh1 h2 h3=>C.clr.exact hkn kN h1 h3 h2⟩
    ·exact⟨0,λh1 h2 h3=>absurd ⟨h1,h2,h3⟩ h⟩
   have zz:∀j,R k k*R k j-R k k*R k j=b*0:=λj=>by rw[Zbi,Zz]
   have eT:∀i,i<n->dt [Qf N (R i),Qf N (R k),.int k,.int b]=some (Qf N (λj=>if i=k then 0 else(ex i j).choose),true):=λi hi=>
    ht N k (R i) (R k) _ b kN C.clr.nz sb (λj hj=>⟨sR i j hi hj,sR k j hkn hj⟩) λj hj=>by
     by_cases e:i=k
     ·rw[if_pos e,e];exact zz j
     ·rw[if_neg e];exact(ex i j).choose_spec hi e hj
   refine run_seq (Qh (QN (List.range n) (Q0 rfl rfl) rfl λi hi=>⟨[none,some (Qf N (R i),false),some (.int k,true),some (.int b,true),some (Qf N (R k),false)],rfl,⟨Qf N (λj=>if i=k then 0 else(ex i j).choose),true,[]⟩,Ql rfl (eT i (Zk.mp hi)) rfl,rfl,rfl⟩) ?_)
   rw[Qi]
   refine run_seq (Qtl rfl rfl rfl hkn ?_)
   refine run_seq (Qh ((QaA (QaN rfl rfl rfl rfl kN)).trans rfl) (Qt ?_))
   rw[Qa7 rfl]
   refine⟨_,_,_,_,_,C.step (R':=λi j=>if i=k then R k j else(λi j=>if i=k then 0 else(ex i j).choose) i j) hkn kN hA pv (λj _=>by show(if k=k then R k j else _)=_;rw[if_pos rfl]) (λi j hi ne hj q hq=>?_),rfl⟩
   show(if i=k then R k j else if i=k then 0 else(ex i j).choose)=q
   rw[if_neg ne,if_neg ne]
   exact Zas C.clr.nz (((ex i j).choose_spec hi ne hj).symm.trans hq)
  ·rintro ρ ⟨m,R,b,j3,j4,C,rfl⟩
   rw[Zo]at C
   have hb:=C.clr.all
   subst hb
   exact QC rfl ⟨rfl,R,rfl,λ_=>⟨m,C⟩⟩
 obtain⟨o,h1,h2⟩:=key
 cases o with
 | rt d fr=>
  obtain⟨rfl,R,rfl,C⟩:=h2
  exact⟨R,by show Option.bind (Qgx dp dt [some (Qd n N (λi j=>A j i),false),none,none,none,none]) outD=_;rw[h1];rfl,C⟩
 | _=>exact h2.elim
noncomputable def QmA(Qcg:Den):DS:=(Qe (QP (Qr (Qj 1 Qcg [] (Qc (Qa 0) Qg)) (dC (.int 1)))) Qp)
def Qiu(d:Den):Prop:=∀(n:Nat) (f:Nat->Nat->Int),n<=8->(∀i,i<n->∀j,j<n->(f i j).natAbs<=2^240)->d [Qd n n f]=some (.int (det n λj i=>f i j),true)
theorem Qrn{dc:Den}(hc:Qfr dc):Qiu (Qn 1 (QmA dc)):=λn f n8 hf=>by
 obtain⟨R,e,_⟩:=hc n n (λj i=>f i j) n8 (Zh n) (λj hj r hr=>hf r hr j hj)
 refine QX ?_
 refine QC (r:=⟨.int (det n λj i=>f i j),true,[]⟩) ?_ ⟨rfl,rfl⟩
 have e1:=Qf5 (fs:=Qc (Qa 0) Qg) (ρ:=[some (Qd n n f,false)]) rfl e rfl
 exact(QyY (e1.trans rfl)).trans rfl
def QdG(N:Nat)(d:Den):Prop:=∀(n:Nat) (A:Nat->Nat->Int),1<=n->n<=N->n<=8->(∀j,j<n->∀r,r<n->(A j r).natAbs<=2^240)->d [Qd n n A]=some (.int (det n A),true)
theorem Qw7:QdG 0 (λ_=>none):=λn A h1 h2=>by omega
set_option maxHeartbeats 0 in
theorem Qfq{N:Nat}{d:Den}(ih:QdG N d):QdG (N+1) (Qn 4 (QcE d)):=λn A h1 hN h8 hA=>by
 have len:∀{ρ:En},ρ[0]? =some (some (Qd n n A,false))->dBf QaD (Qc (Qa 0) Qg) ρ=some ⟨.int n,true,[]⟩:=λ{ρ} h=>QcA (n:=n) (m:=n) (f:=A) (QaX h) rfl
 have entry:∀{ρ:En}{fk:DE}{k:Nat},ρ[0]? =some (some (Qd n n A,false))->fk ρ=some ⟨.int k,true,[]⟩->k<n->Qr (Qr (Qa 0) fk) (dC (.int 0)) ρ=some ⟨.int (A k 0),true,[]⟩:=λ{ρ fk k} h hk hkn=>QaN (m:=n) (f:=A k) (i:=0) (Qef (m:=n) (n:=n) (f:=A) (i:=k) (QaX h) rfl hk rfl (by omega) (by omega)) rfl (QaL _ _) rfl (by omega)
 refine QX ?_
 refine QH (Qaa (QL (Qa0 (a:=n) (b:=1) (len rfl) rfl (QaL _ _) rfl) rfl) (λh=>?_) (λh=>Qt ?_))
 ·have e:n=1:=by have:=of_decide_eq_true h;omega
  subst e
  refine QH (Qca (entry (k:=0) rfl (QaL _ _) (by decide)) ⟨?_,rfl⟩)
  show D.int (A 0 0)= .int (sm 1 λj=>sgn j*A j 0*1)
  congr 1
  show A 0 0=0+1*A 0 0*1
  omega
 have n2:2<=n:=by have:=of_decide_eq_false h;omega
 obtain⟨p,rfl⟩:∃p,n=p+1:=⟨n-1,by omega⟩
 refine run_seq (Qh (r:=⟨.int 0,true,[]⟩) rfl ?_)
 rw[Qi]
 refine Qar (P:=λρ=>∃j2 j3,ρ=[some (Qd (p+1) (p+1) A,false),some (.int (det (p+1) A),true),j2,j3]) ?_ ?_
 ·refine QaF (toD:=λ(k:Nat)=> .int (k:Int)) (List.range (p+1)) (λi ρ=>∃j2 j3,ρ=[some (Qd (p+1) (p+1) A,false),some (.int (sm i λj=>sgn j*A j 0*det p λc r=>A (skp j c) (r+1)),true),j2,j3]) (Qbm (n:=p+1) (len rfl) rfl (by omega)) rfl ⟨none,none,rfl⟩ ?_ ?_
  ·rintro k k' ρ hk ⟨j2,j3,rfl⟩
   have hk':k<p+1/\k=k':=by
    obtain⟨h1,h2⟩:=Zg.mp hk
    simp at h1 h2;exact⟨h1,h2⟩
   obtain⟨hkp,rfl⟩:=hk'
   have bm:(det p λc r=>A (skp k c) (r+1)).natAbs<2^2000:=ZR (Qdb λc hc r hr=>hA (skp k c) (by unfold skp;split<;>omega) (r+1) (by omega)) (QhR (by omega))
   refine⟨_,rfl,?_⟩
   refine run_seq (Qaa (QL (QcY (a:=A k 0) (b:=0) (entry (k:=k) rfl rfl hkp) rfl (QaL _ _) rfl) rfl) (λh=>?_) (λh=>?_))
   ·obtain⟨r1,q1,d1⟩:=QvP (fa:=Qa 0) (fb:=Qa 2) (ρ:=[some (Qd (p+1) (p+1) A,false),some (.int (sm k λj=>sgn j*A j 0*det p λc r=>A (skp j c) (r+1)),true),some (.int k,true),j3]) (ra:=⟨Qd (p+1) (p+1) A,false,[]⟩) (xs:=(List.range (p+1)).map λi=>Qf (p+1) (A i)) (n:=k) rfl rfl (rb:=⟨.int k,true,[]⟩) rfl rfl (by simp;omega)
    obtain⟨r2,q2,d2⟩:=Quh (fa:=Qa 0) (fb:=QQ (Qa 2) (dC (.int 1))) (ρ:=[some (Qd (p+1) (p+1) A,false),some (.int (sm k λj=>sgn j*A j 0*det p λc r=>A (skp j c) (r+1)),true),some (.int k,true),j3]) (ra:=⟨Qd (p+1) (p+1) A,false,[]⟩) (xs:=(List.range (p+1)).map λi=>Qf (p+1) (A i)) (n:=k+1) rfl rfl (Qac (a:=(k:Int)) (b:=1) (ra:=⟨.int k,true,[]⟩) rfl rfl (QaL _ _) rfl) rfl (by simp;omega)
    obtain⟨r3,q3,d3⟩:=Qul q1 d1 q2 d2 (by simp;omega)
    rw[Qt9 hkp]at d3
    refine run_seq (Qh (Ql (Qq (QN (toD:=λ(c:Nat)=>Qf (p+1) (A (skp k c))) (out:=λ(c:Nat)=>Qf p λr=>A (skp k c) (1+r)) (List.range p) (Q0 q3 d3) rfl λc _=>⟨[none,some (Qf (p+1) (A (skp k c)),false)],rfl,⟨Qf p λr=>A (skp k c) (1+r),true,[]⟩,QnS (m:=p+1) (n:=1) (f:=A (skp k c)) (ra:=⟨Qf (p+1) (A (skp k c)),false,[]⟩) rfl rfl (QaL _ _) rfl (by omega),rfl,rfl⟩) (QS _)) (d:= .int (det p λc r=>A (skp k c) (r+1))) ?_ rfl) ?_)
    ·have:=ih p (λc r=>A (skp k c) (r+1)) (by omega) (by omega) (by omega) λc hc r hr=>hA (skp k c) (by unfold skp;split<;>omega) (r+1) (by omega)
     have e:(List.range p).map (λc=>Qf p λr=>A (skp k c) (1+r))=(List.range p).map λc=>Qf p λr=>A (skp k c) (r+1):=ZO λc _=>Qi3 λr _=>by rw[Nat.add_comm]
     show d [.lst ((List.range p).map λc=>Qf p λr=>A (skp k c) (1+r))]=_
     rw[e]
     exact this
    rw[Qi]
    refine run_seq (Qh (Qac (a:=sm k λj=>sgn j*A j 0*det p λc r=>A (skp j c) (r+1)) (b:=sgn k*A k 0*det p λc r=>A (skp k c) (r+1)) rfl rfl (QaH (a:=sgn k*A k 0) (b:=det p λc r=>A (skp k c) (r+1)) (QaH (a:=sgn k) (b:=A k 0) ((QfP (a:=1) (b:=2*((k:Int) % 2)) (ra:=⟨.int 1,true,[]⟩) rfl rfl (QaH (a:=2) (b:=(k:Int) % 2) rfl rfl (Qad (a:=(k:Int)) (b:=2) (ra:=⟨.int k,true,[]⟩) rfl rfl (QaL _ _) rfl (by decide)) rfl (Qe2 (by decide))) rfl).trans (by rw[Qye])) rfl (entry (k:=k) rfl rfl hkp) rfl (Qe2 (by unfold sgn;split<;>decide))) rfl (rb:=⟨.int (det p λc r=>A (skp k c) (r+1)),true,[]⟩) rfl rfl (Qc9 (QaO ?_) (QaO bm))) rfl) (Qt (Qt ?_)))
    ·have:=hA k hkp 0 (by omega)
     have b:(2:Nat)^200<2^2000:=Nat.pow_lt_pow_right (by decide) (by decide)
     rw[Zaa]
     have s:(sgn k).natAbs=1:=by unfold sgn;split<;>rfl
     rw[s,Nat.one_mul]
     omega
    rw[Qi]
    exact⟨_,_,rfl⟩
   ·have z:A k 0=0:=by simpa using h
    refine Qt (Qt ⟨some (.int k,true),j3,?_⟩)
    have e:(sm (k+1) λj=>sgn j*A j 0*det p λc r=>A (skp j c) (r+1))=sm k λj=>sgn j*A j 0*det p λc r=>A (skp j c) (r+1):=by
     show(sm k λj=>sgn j*A j 0*det p λc r=>A (skp j c) (r+1))+sgn k*A k 0*(det p λc r=>A (skp k c) (r+1))=_
     rw[z,Zz,Zy,ZaV]
    rw[e]
    rfl
  ·rintro ρ ⟨j2,j3,rfl⟩
   rw[Zo]
   exact⟨_,_,rfl⟩
 rintro ρ ⟨j2,j3,rfl⟩
 exact QC (r:=⟨.int (det (p+1) A),true,[]⟩) rfl ⟨rfl,rfl⟩
theorem QrZ{x y:Nat}{fa:DE}{ρ:En}{d:D}{xs:List D}{Q:Out->Prop}(hx:ρ[x]? =some (some (.lst xs,true)))(ha:fa ρ=some ⟨d,true,[y]⟩)(hf:d.flat=false)(hxy:x≠y)(hl:xs.length<16777216)(q:Q (.nx ((ρ.set y none).set x (some (.lst (xs++[d]),true))))):Run (QdS x Qal fa) ρ Q:=by
 refine⟨_,?_,q⟩
 have hn:(HS.R.mk d true [y]).norm=⟨d,true,[y]⟩:=by unfold R.norm;rw[if_neg (by rw[hf];exact Zan)]
 unfold QdS
 rw[hx]
 simp only[Qal,Za,ha,Qa9,Qku,hn,Qgo]
 simp[hl,kill,Qbt,hxy]
end HS
namespace HS
open PySem PySem.Spec L2
end HS
namespace HS
open PySem L2
def QgO(d:Den):Prop:=∀(n N:Nat) (A:Nat->Nat->Int),n<=8->n<=N->(∀j,j<N->∀r,r<n->(A j r).natAbs<=2^240)->det n A≠0->∃m R b,d [Qd n N (λi j=>A j i)]=some (.tup [Qd n N R,.int b],false)/\Qdm n N n A m R b
theorem Qps{dc:Den}(hc:Qfr dc):QgO (Qn 2 (Qgi dc)):=λn N A n8 hN hA hd=>by
 obtain⟨R,ec,hC⟩:=hc n N A n8 hN hA
 obtain⟨m,C⟩:=hC hd
 refine⟨m,R,det n A,QX ?_,C⟩
 refine run_seq (Qh ((Qf5 (r:=⟨[Qd n N (λi j=>A j i)],false,[]⟩) rfl ec rfl).trans rfl) ?_)
 refine QH (Qaa (b:=false) (QL (Qa0 rfl rfl rfl rfl) (by simp[hd])) (λh=>by cases h) (λ_=>Qt ?_))
 exact QC rfl ⟨rfl,rfl⟩
def Qsj(d:Den):Prop:=∀(n:Nat) (f:Nat->Nat->Int) (row:Nat->Int),n<=8->(∀j r,j<n->r<n->(f j r).natAbs<=2^240)->(∀r,r<n->(row r).natAbs<=2^240)->det n f≠0->∃tops q,d [Qd n n f,Qf n row]=some (.tup [Qf n tops,.int q],true)/\0<q/\q.natAbs<2^2000/\(∀r,r<n->q*row r=sm n λl=>tops l*f l r)/\(∀l,l<n->(tops l).natAbs<2^2000)/\(∀t,t∣q->(∀l,l<n->t∣tops l)->t.natAbs=1)
structure QBO (xd:List D->Option Str):Prop where
 row:∀(n:Nat) (f:Nat->Nat->Int) (xs:List D),xs.length≠n->xd [Qd n n f,.lst xs]=some "NoRow"
 rings:∀(n:Nat) (f:Nat->Nat->Int) (row:Nat->Int),n<=8->(∀j r,j<n->r<n->(f j r).natAbs<=2^240)->(∀r,r<n->(row r).natAbs<=2^240)->det n f=0->xd [Qd n n f,Qf n row]=some "NoRings"
noncomputable def Qdy:DS:=(Qe (Qo 0 (dBf Qis (Qc (Qa 0) Qg))) (Qe (Qo 1 (dBf Qis (Qc (Qa 1) Qg))) (Qe (Qcv (QO (dOp gGt (Qa 1) (dC (.int 0)))) (Qe (Qo 2 (dOp Qah (Qa 0) (Qa 1))) (Qe (Qo 0 (Qaf (Qa 1))) (Qe (Qo 1 (Qaf (Qa 2))) Qp)))) (Qe (QP (Qa 0)) Qp))))
def Ql8(d:Den):Prop:=∀a b:Int,∃g,d [.int a,.int b]=some (.int g,true)/\0<=g/\∀t,t∣g↔(t∣a/\t∣b)
theorem QsD{fa:DE}{ρ:En}{a:Int}{r:R}(h:fa ρ=some r)(e:r.d= .int a):dBf Qis (Qc fa Qg) ρ=some ⟨.int (if a<0 then-a else a),true,[]⟩:=by
 unfold dBf
 rw[Qq h (QS _),Za,e];rfl
theorem QvN:Ql8 (Qn 3 Qdy):=λa b=>by
 have key:Run Qdy [some (.int a,true),some (.int b,true),none] λo=>match o with | .rt d fr=>fr=true/\∃g,d= .int g/\0<=g/\∀t,t∣g↔(t∣a/\t∣b) | _=>False:=by
  refine run_seq (Qh (QsD (a:=a) (r:=⟨.int a,true,[]⟩) rfl rfl) ?_)
  rw[Qi]
  refine run_seq (Qh (QsD (a:=b) (r:=⟨.int b,true,[]⟩) rfl rfl) ?_)
  rw[Qi]
  have da:∀(x t:Int),t∣(if x<0 then-x else x)↔t∣x:=λx t=>by
   split
   ·exact Int.dvd_neg
   ·exact Iff.rfl
  have a0:0<=(if a<0 then-a else a):=by split<;>omega
  have b0:0<=(if b<0 then-b else b):=by split<;>omega
  have hab:∀t,(t∣(if a<0 then-a else a)/\t∣(if b<0 then-b else b))↔(t∣a/\t∣b):=λt=>by rw[da a,da b]
  generalize (if a<0 then-a else a)=x at a0 hab
  generalize (if b<0 then-b else b)=y at b0 hab
  refine Qar (P:=λρ=>∃g j2,0<=g/\(∀t,t∣g↔(t∣a/\t∣b))/\ρ=[some (.int g,true),some (.int 0,true),j2]) ?_ ?_
  ·refine Qgr (λn ρ=>∃g r j2,n=r.natAbs/\0<=g/\0<=r/\(∀t,(t∣g/\t∣r)↔(t∣a/\t∣b))/\ρ=[some (.int g,true),some (.int r,true),j2]) ?_ y.natAbs _ ⟨x,y,none,rfl,a0,b0,hab,rfl⟩
   rintro n ρ ⟨g,r,j2,rfl,g0,r0,hd,rfl⟩
   refine⟨decide (0<r),QL (Qbb (d:= .bl (decide (0<r))) (ra:=⟨.int r,true,[]⟩) (rb:=⟨.int 0,true,[]⟩) rfl rfl rfl) rfl,λh=>?_,λh=>?_⟩
   ·have hr:r=0:=by have:=of_decide_eq_false h;omega
    subst hr
    exact⟨g,j2,g0,λt=>by rw[← hd t];simp,rfl⟩
   ·have hr:0<r:=of_decide_eq_true h
    refine run_seq (Qh (Qad (a:=g) (b:=r) (ra:=⟨.int g,true,[]⟩) rfl rfl (rb:=⟨.int r,true,[]⟩) rfl rfl hr) ?_)
    rw[Qi]
    refine run_seq (Qh (r:=⟨.int r,false,[]⟩) rfl ?_)
    rw[Qa7 rfl]
    refine run_seq (Qh (r:=⟨.int (g % r),false,[]⟩) rfl (Qt ?_))
    rw[Qa7 rfl]
    have l1:=ZI g (by omega:r≠0)
    have l2:=ZE g hr
    refine⟨_,by omega,r,g % r,_,rfl,r0,l1,λt=>?_,rfl⟩
    rw[← hd t]
    refine⟨λ⟨h1,h2⟩=>⟨?_,h1⟩,λ⟨h1,h2⟩=>⟨h2,?_⟩⟩
    ·have:=Int.mul_ediv_add_emod g r
     rw[← this]
     exact ZaC (Int.dvd_trans h1 ⟨_,rfl⟩) h2
    ·have:=Int.mul_ediv_add_emod g r
     have e:g % r=g-r*(g / r):=by omega
     rw[e]
     exact Zbf h1 (Int.dvd_trans h2 ⟨_,rfl⟩)
  ·rintro ρ ⟨g,j2,g0,hg,rfl⟩
   exact QC (r:=⟨.int g,true,[]⟩) rfl ⟨rfl,g,rfl,g0,hg⟩
 obtain⟨o,h1,h2⟩:=key
 cases o with
 | rt d fr=>
  obtain⟨rfl,g,rfl,g0,hg⟩:=h2
  exact⟨g,by show Option.bind (Qdy [some (.int a,true),some (.int b,true),none]) outD=_;rw[h1];rfl,g0,hg⟩
 | _=>exact h2.elim
structure QBV (n:Nat) (f:Nat->Nat->Int) (row tops:Nat->Int) (q:Int):Prop where
 pos:0<q
 sq:q.natAbs<2^2000
 eq:∀r,r<n->q*row r=sm n λl=>tops l*f l r
 st:∀l,l<n->(tops l).natAbs<2^2000
 low:∀t,t∣q->(∀l,l<n->t∣tops l)->t.natAbs=1
structure Drawn (n:Nat) (f:Nat->Nat->Int) (row:Nat->Int):Prop where
 n1:1<=n
 n8:n<=8
 tab:∀i j,i<n->j<n->(f i j).natAbs<=2^240
 row:∀j,j<n->(row j).natAbs<=2^240
structure QBT (sub:Str->Str->Option Bool):Prop where
 rh:sub "NoRow" "HeapError" =some true
 rv:sub "NoRow" "ValueError" =some true
 rr:sub "NoRow" "NoRow" =some true
 rg:sub "NoRow" "NoRings" =some false
 gh:sub "NoRings" "HeapError" =some true
 gv:sub "NoRings" "ValueError" =some true
 gr:sub "NoRings" "NoRow" =some false
 gg:sub "NoRings" "NoRings" =some true
theorem QuP{n:Nat}{f g:Nat->Int}{a b:Nat}(ha:a<n)(hb:b<n)(hab:a≠b)(h:∀k,k<n->k≠a->k≠b->f k=g k)(e:f a+f b=g a+g b):Qk n f=Qk n g:=by
 have e1:Qk n f=Qk n λk=>g k+((if k=a then f a-g a else 0)*1+(if k=b then f b-g b else 0)*1):=Qm λk hk=>by
  by_cases k1:k=a
  ·subst k1;rw[if_pos rfl,if_neg hab];omega
  ·by_cases k2:k=b
   ·subst k2;rw[if_neg k1,if_pos rfl];omega
   ·rw[if_neg k1,if_neg k2,h k hk k1 k2];omega
 rw[e1,QaJ,QaJ,QaS ha _ λ_=>1,QaS hb _ λ_=>1]
 omega
theorem QbY{n:Nat}{f:Nat->Int}{a:Nat}(ha:a<n)(h:∀k,k<n->k≠a->f k=0):Qk n f=f a:=by
 have e1:Qk n f=Qk n λk=>(if k=a then f a else 0)*1:=Qm λk hk=>by
  by_cases k1:k=a
  ·subst k1;rw[if_pos rfl];omega
  ·rw[if_neg k1,h k hk k1];omega
 rw[e1,QaS ha _ λ_=>1];omega
theorem QmP(n:Nat)(c:Int)(f:Nat->Int):Qk n (λi=>f i*c)=Qk n f*c:=by
 rw[ZV,← Q7]
 exact Qm λi _=>ZV _ _
theorem QjF(n:Nat)(f g:Nat->Int):Qk n (λi=>f i-g i)=Qk n f-Qk n g:=by
 have:=QaJ n (λi=>f i-g i) g
 rw[Qm (g:=f) λi _=>by omega]at this
 omega
theorem QfI{n:Nat}{f:Nat->Int}{t:Int}(h:∀k,k<n->t∣f k):t∣Qk n f:=by
 induction n with
 | zero=>exact Int.dvd_zero t
 | succ n ih=>rw[Qaz];exact ZaC (ih λk hk=>h k (by omega)) (h n (by omega))
theorem QuN{n:Nat}{f:Nat->Int}{C:Nat}(h:∀k,k<n->(f k).natAbs<=C):(Qk n f).natAbs<=n*C:=by
 induction n with
 | zero=>exact Zac _
 | succ n ih=>
  rw[Qaz,Zcc]
  have h1:=ih λk hk=>h k (by omega)
  have h2:=h n (by omega)
  have h3:=Zby (Qk n f) (f n)
  omega
noncomputable def idF(i j:Nat):Int:=if i=j then 1 else 0
theorem Q8(n:Nat)(a b c:Nat->Nat->Int):prodF n (prodF n a b) c=prodF n a (prodF n b c):=by
 funext i j
 unfold prodF
 have e1:(Qk n λk=>(Qk n λl=>a i l*b l k)*c k j)=Qk n λk=>Qk n λl=>a i l*(b l k*c k j):=Qm λk _=>by
  rw[← QmP];exact Qm λl _=>ZF _ _ _
 rw[e1,Qff]
 exact Qm λl _=>Q7 n _ _
theorem Qae{n:Nat}{a a' b b':Nat->Nat->Int}{i j:Nat}(h1:∀k,k<n->a i k=a' i k)(h2:∀k,k<n->b k j=b' k j):prodF n a b i j=prodF n a' b' i j:=
 Qm λk hk=>by rw[h1 k hk,h2 k hk]
theorem Qas{n:Nat}(a:Nat->Nat->Int){i:Nat}(j:Nat)(hi:i<n):prodF n idF a i j=a i j:=by
 unfold prodF idF
 rw[QbY hi λk _ hk=>by rw[if_neg (Ne.symm hk),Zy],if_pos rfl,ZK]
theorem Qd9{n:Nat}(a:Nat->Nat->Int)(i:Nat){j:Nat}(hj:j<n):prodF n a idF i j=a i j:=by
 unfold prodF idF
 rw[QbY hj λk _ hk=>by rw[if_neg hk,Zz],if_pos rfl,Zab]
def Qan(n:Nat)(a b:Nat->Nat->Int):Prop:=∀i j,i<n->j<n->prodF n a b i j=idF i j
theorem Qan.prod{n:Nat}{a b c d:Nat->Nat->Int}(h1:Qan n a b)(h2:Qan n c d):Qan n (prodF n a c) (prodF n d b):=λi j hi hj=>by
 rw[Q8,Qae (a':=a) (b':=prodF n (prodF n c d) b) (λ_ _=>rfl) λk hk=>by rw[Q8]]
 rw[Qae (a':=a) (b':=b) (λ_ _=>rfl) λk hk=>?_]
 ·exact h1 i j hi hj
 ·rw[Qae (a':=idF) (b':=b) (λl hl=>h2 k l hk hl) λ_ _=>rfl,Qas b j hk]
theorem split_len:∀(L h:Nat),0<L->∃L1 L2 N,L=L1*L2/\Nat.Coprime L1 h/\L2∣h^N:=by
 intro L
 induction L using Nat.strongRecOn with
 | _ L ih=>
  intro h hL
  by_cases g:Nat.gcd L h=1
  ·exact⟨L,1,0,by omega,g,Nat.one_dvd _⟩
  ·have hg:0<Nat.gcd L h:=Nat.gcd_pos_of_pos_left h hL
   obtain⟨M,hM⟩:=Nat.gcd_dvd_left L h
   have hM0:0<M:=by
    rcases Nat.eq_zero_or_pos M with z | z
    ·rw[z,Nat.mul_zero]at hM;omega
    ·exact z
   have hlt:M<L:=by
    have:2*M<=Nat.gcd L h*M:=ZbF M (by omega)
    omega
   obtain⟨L1,L2,N,e,c,d⟩:=ih M hlt h hM0
   refine⟨L1,Nat.gcd L h*L2,N+1,?_,c,?_⟩
   ·rw[Nat.mul_left_comm,← e];exact hM
   ·rw[Zcd,ZaQ (h^N)]
    exact Nat.mul_dvd_mul (Nat.gcd_dvd_right L h) d
theorem Qe8{t:Nat}{x:Int}:(t:Int)∣x↔t∣x.natAbs:=by rw[← Zav,Int.natAbs_natCast]
noncomputable def Qb0:Nat->(Nat->Int)->Nat
 | 0,_=>0
 | n+1,u=>Nat.gcd (Qb0 n u) (u n).natAbs
theorem QbJ{u:Nat->Int}{t:Nat}:∀{n:Nat},t∣Qb0 n u↔∀i,i<n->(t:Int)∣u i
 | 0=>⟨λ_ i hi=>by omega,λ_=>Nat.dvd_zero t⟩
 | n+1=>by
  unfold Qb0
  rw[Nat.dvd_gcd_iff,QbJ (n:=n)]
  constructor
  ·rintro⟨h1,h2⟩ i hi
   by_cases e:i=n
   ·subst e;exact Qe8.mpr h2
   ·exact h1 i (by omega)
  ·exact λh=>⟨λi hi=>h i (by omega),Qe8.mp (h n (by omega))⟩
theorem Qvq{n:Nat}{u v:Nat->Int}{L:Nat}(hL:0<L)(hc:∀t:Nat,t∣L->(∀i,i<n->(t:Int)∣u i)->(∀i,i<n->(t:Int)∣v i)->t=1):
  ∃T:Nat,∀t:Nat,t∣L->(∀i,i<n->(t:Int)∣u i+T*v i)->t=1:=by
 obtain⟨L1,L2,N,e,c,d⟩:=split_len L (Nat.gcd (Qb0 n u) L) hL
 refine⟨L1,λt ht hu=>?_⟩
 have c1:Nat.Coprime t L1:=by
  have a1:Nat.gcd t L1∣t:=Nat.gcd_dvd_left _ _
  have a2:Nat.gcd t L1∣L1:=Nat.gcd_dvd_right _ _
  have hui:∀i,i<n->((Nat.gcd t L1:Nat):Int)∣u i:=λi hi=>by
   have h1:=Int.dvd_trans (Int.natCast_dvd_natCast.mpr a1) (hu i hi)
   have h2:((Nat.gcd t L1:Nat):Int)∣(L1:Int)*v i:=Zay (Int.natCast_dvd_natCast.mpr a2)
   have:=Zbf h1 h2
   rwa[Int.add_sub_cancel]at this
  have h3:Nat.gcd t L1∣Nat.gcd (Qb0 n u) L:=Nat.dvd_gcd (QbJ.mpr hui) (Nat.dvd_trans a1 ht)
  exact Nat.eq_one_of_dvd_one (by rw[← c];exact Nat.dvd_gcd a2 h3)
 have t2:t∣L2:=by
  rw[e]at ht
  exact Nat.Coprime.dvd_of_dvd_mul_left c1 ht
 have c2:Nat.Coprime t (Nat.gcd (Qb0 n u) L):=by
  have a1:Nat.gcd t (Nat.gcd (Qb0 n u) L)∣t:=Nat.gcd_dvd_left _ _
  have a2:Nat.gcd t (Nat.gcd (Qb0 n u) L)∣Qb0 n u:=Nat.dvd_trans (Nat.gcd_dvd_right _ _) (Nat.gcd_dvd_left _ _)
  show Nat.gcd t (Nat.gcd (Qb0 n u) L)=1
  generalize Nat.gcd t (Nat.gcd (Qb0 n u) L)=D at a1 a2 ⊢
  have hui:=QbJ.mp a2
  have cD:Nat.Coprime D L1:=Nat.Coprime.coprime_dvd_left a1 c1
  refine hc D (Nat.dvd_trans a1 ht) hui λi hi=>?_
  have h1:=Zbf (Int.dvd_trans (Int.natCast_dvd_natCast.mpr a1) (hu i hi)) (hui i hi)
  rw[show u i+(L1:Int)*v i-u i=(L1:Int)*v i by omega]at h1
  have h2:=Qe8.mp h1
  rw[Zaa,Int.natAbs_natCast]at h2
  exact Qe8.mpr (Nat.Coprime.dvd_of_dvd_mul_left cD h2)
 exact Nat.Coprime.eq_one_of_dvd (Nat.Coprime.pow_right N c2) (Nat.dvd_trans t2 d)
theorem QzW{n:Nat}(u v:Nat->Int){L:Nat}(hL:0<L):
  ∃T:Nat,∀t:Nat,t∣L->(∀i,i<n->(t:Int)∣u i+T*v i)->(∀i,i<n->(t:Int)∣u i)/\∀i,i<n->(t:Int)∣v i:=by
 obtain⟨g,hg⟩:∃g,g=Nat.gcd (Nat.gcd (Qb0 n u) (Qb0 n v)) L:=⟨_,rfl⟩
 have gL:g∣L:=by rw[hg];exact Nat.gcd_dvd_right _ _
 have gu:∀i,i<n->(g:Int)∣u i:=QbJ.mp (by rw[hg];exact Nat.dvd_trans (Nat.gcd_dvd_left _ _) (Nat.gcd_dvd_left _ _))
 have gv:∀i,i<n->(g:Int)∣v i:=QbJ.mp (by rw[hg];exact Nat.dvd_trans (Nat.gcd_dvd_left _ _) (Nat.gcd_dvd_right _ _))
 have g0:0<g:=Nat.pos_of_dvd_of_pos gL hL
 obtain⟨L',eL⟩:=gL
 have hL':0<L':=by
  rcases Nat.eq_zero_or_pos L' with z | z
  ·rw[z,Nat.mul_zero]at eL;omega
  ·exact z
 have eu:∀i,i<n->u i=(g:Int)*(u i / g):=λi hi=>(Int.mul_ediv_cancel' (gu i hi)).symm
 have ev:∀i,i<n->v i=(g:Int)*(v i / g):=λi hi=>(Int.mul_ediv_cancel' (gv i hi)).symm
 have gz:(g:Int)≠0:=by omega
 obtain⟨T,hT⟩:=Qvq hL' λt h1 h2 h3=>by
  have a1:g*t∣L:=by rw[eL];exact Nat.mul_dvd_mul_left g h1
  have a2:g*t∣Qb0 n u:=QbJ.mpr λi hi=>by rw[eu i hi,Zak];exact Int.mul_dvd_mul_left _ (h2 i hi)
  have a3:g*t∣Qb0 n v:=QbJ.mpr λi hi=>by rw[ev i hi,Zak];exact Int.mul_dvd_mul_left _ (h3 i hi)
  have a4:g*t∣g:=by
   have:=Nat.dvd_gcd (Nat.dvd_gcd a2 a3) a1
   rwa[← hg]at this
  exact Nat.eq_one_of_dvd_one (Nat.dvd_of_mul_dvd_mul_left g0 (by rw[Nat.mul_one];exact a4))
 refine⟨T,λt ht hu=>?_⟩
 have hD:Nat.gcd (Qb0 n λi=>u i+T*v i) L∣g:=by
  obtain⟨D',hD'⟩:g∣Nat.gcd (Qb0 n λi=>u i+T*v i) L:=Nat.dvd_gcd (QbJ.mpr λi hi=>ZaC (gu i hi) (Int.dvd_mul_of_dvd_right (gv i hi))) ⟨L',eL⟩
  have b1:D'∣L':=by
   have:=Nat.gcd_dvd_right (Qb0 n λi=>u i+T*v i) L
   rw[hD',eL]at this
   exact Nat.dvd_of_mul_dvd_mul_left g0 this
  have b2:=hT D' b1 λi hi=>by
   have h1:((g*D':Nat):Int)∣u i+T*v i:=by rw[← hD'];exact(QbJ).mp (Nat.gcd_dvd_left _ _) i hi
   rw[eu i hi,ev i hi,show(g:Int)*(u i / g)+T*((g:Int)*(v i / g))=g*(u i / g+T*(v i / g)) by rw[ZaG,ZM],Zak]at h1
   exact Int.dvd_of_mul_dvd_mul_left gz h1
  rw[hD',b2,Nat.mul_one];exact Nat.dvd_refl g
 have tg:t∣g:=Nat.dvd_trans (Nat.dvd_gcd (QbJ.mpr hu) ht) hD
 exact⟨λi hi=>Int.dvd_trans (Int.natCast_dvd_natCast.mpr tg) (gu i hi),λi hi=>Int.dvd_trans (Int.natCast_dvd_natCast.mpr tg) (gv i hi)⟩
theorem QxE{L g y:Int}(h:∀t:Int,t∣L->t∣g->t.natAbs=1)(hd:L∣g*y):L∣y:=by
 have c:Nat.Coprime L.natAbs g.natAbs:=by
  have:=h (Nat.gcd L.natAbs g.natAbs) (Qe8.mpr (Nat.gcd_dvd_left _ _)) (Qe8.mpr (Nat.gcd_dvd_right _ _))
  rwa[Int.natAbs_natCast]at this
 have h2:=Zav.mpr hd
 rw[Zaa]at h2
 exact Zav.mp (Nat.Coprime.dvd_of_dvd_mul_left c h2)
structure Qi0 (n:Nat) (A P:Nat->Nat->Int) (w:Int) (R Rb:Nat->Nat->Int) (len:Nat->Int):Prop where
 u1:Qan n R Rb
 u2:Qan n Rb R
 pos:∀j,j<n->0<len j
 col:∀i j,i<n->j<n->len j∣prodF n A R i j
 row:∀i j,i<n->j<n->w∣len j*prodF n Rb P j i
 nxt:∀j,j+1<n->len j∣len (j+1)
structure RT (n k:Nat) (A P:Nat->Nat->Int) (w c L:Int) (R Rb S:Nat->Nat->Int) (len:Nat->Int):Prop where
 kn:k<=n
 u1:Qan n R Rb
 u2:Qan n Rb R
 L0:0<L
 cL:c*L=w
 low:∀i j,k<=i->i<n->j<n->S i j=0
 i1:∀i j,i<n->j<n->L∣prodF n (prodF n A R) S i j
 i2:∀i j,i<k->j<n->w∣prodF n Rb P i j-c*S i j
 one:∀j,j<k->len j=1
 pos:∀j,k<=j->j<n->0<len j
 col:∀i j,k<=j->j<n->i<n->len j∣prodF n A R i j
 row:∀i j,k<=j->j<n->i<n->w∣len j*prodF n Rb P j i
 nxt:∀j,k<=j->j+1<n->len j∣len (j+1)
 top:k<n->len k=L
theorem RT.stop{n k:Nat}{A P:Nat->Nat->Int}{w c L:Int}{R Rb S:Nat->Nat->Int}{len:Nat->Int}(h:RT n k A P w c L R Rb S len)(hp:∀i j,i<n->j<n->L∣S i j):Qi0 n A P w R Rb len where
 u1:=h.u1
 u2:=h.u2
 pos:=λj hj=>by
  by_cases z:j<k
  ·rw[h.one j z];decide
  ·exact h.pos j (by omega) hj
 col:=λi j hi hj=>by
  by_cases z:j<k
  ·rw[h.one j z];exact Int.one_dvd _
  ·exact h.col i j (by omega) hj hi
 row:=λi j hi hj=>by
  by_cases z:j<k
  ·rw[h.one j z,ZK]
   have h1:=h.i2 j i z hi
   have h2:w∣c*S j i:=by rw[← h.cL];exact Int.mul_dvd_mul_left c (hp j i hj hi)
   have:=ZaC h1 h2
   rwa[ZaF]at this
  ·exact h.row i j (by omega) hj hi
 nxt:=λj hj=>by
  by_cases z:j<k
  ·rw[h.one j z];exact Int.one_dvd _
  ·exact h.nxt j (by omega) hj
theorem RT.done{n:Nat}{A P:Nat->Nat->Int}{w c L:Int}{R Rb S:Nat->Nat->Int}{len:Nat->Int}(h:RT n 0 A P w c L R Rb S len):Qi0 n A P w R Rb len:=
 ⟨h.u1,h.u2,λj hj=>h.pos j (by omega) hj,λi j hi hj=>h.col i j (by omega) hj hi,λi j hi hj=>h.row i j (by omega) hj hi,λj hj=>h.nxt j (by omega) hj⟩
structure Qnt (n last:Nat) (x:Nat->Int) (T B:Nat->Nat->Int) (g:Int):Prop where
 u1:Qan n T B
 u2:Qan n B T
 tl:∀i j,last<i->i<n->j<n->T i j=idF i j
 tu:∀i j,i<=last->last<j->j<n->T i j=0
 bl:∀i j,i<n->last<j->j<n->B i j=idF i j
 hit:∀i,i<=last->Qk n (λj=>T i j*x j)=if i=last then g else 0
theorem RT.step{n last:Nat}{A P:Nat->Nat->Int}{w c L part L':Int}{R Rb S Sq S1:Nat->Nat->Int}{len x cc:Nat->Int}{T B:Nat->Nat->Int}{g:Int}(h:RT n (last+1) A P w c L R Rb S len)
  (p0:0<part) (eL:L=part*L') (hS:∀i j,i<n->j<n->S i j=part*Sq i j) (h1:∀i j,i<n->j<n->L'∣Sq i j-S1 i j) (hz:∀i j,last<i->i<n->j<n->S1 i j=0)
  (cop:∀t,t∣L'->(∀i j,i<n->j<n->t∣Sq i j)->t.natAbs=1) (hx:∀i,i<n->L'∣x i-Qk n λj=>cc j*S1 i j) (hx0:∀i,last<i->i<n->x i=0)
  (hxc:∀t,t∣L'->(∀i,i<n->t∣x i)->∀i j,i<n->j<n->t∣S1 i j) (sp:Qnt n last x T B g):
  RT n last A P w (c*part) L' (prodF n R B) (prodF n T Rb) (λi j=>if i=last then 0 else prodF n T S1 i j) (λj=>if j=last then L' else len j):=by
 have hn:last<n:=h.kn
 have L0':0<L':=by
  refine Zah λz=>?_
  have:=Zbm (a:=part) (b:=L') (by omega) (by omega)
  have:=h.L0
  omega
 have pz:part≠0:=by omega
 have ew:w=c*part*L':=by rw[← h.cL,eL,ZF]
 obtain⟨M,hM⟩:∃M,M=prodF n A R:=⟨_,rfl⟩
 obtain⟨Q,hQ⟩:∃Q,Q=prodF n Rb P:=⟨_,rfl⟩
 have aM:prodF n A (prodF n R B)=prodF n M B:=by rw[hM,Q8]
 have aQ:prodF n (prodF n T Rb) P=prodF n T Q:=by rw[hQ,Q8]
 have i1:=h.i1
 have i2:=h.i2
 have col:=h.col
 have row:=h.row
 rw[← hM]at i1 col
 rw[← hQ]at i2 row
 have F1:∀i j,i<n->j<n->L'∣prodF n M S1 i j:=λi j hi hj=>by
  have a1:=i1 i j hi hj
  have a2:prodF n M S i j=part*prodF n M Sq i j:=by
   unfold prodF
   rw[← Q7]
   exact Qm λl hl=>by rw[hS l j hl hj,ZM]
  rw[a2,eL]at a1
  have a3:=Int.dvd_of_mul_dvd_mul_left pz a1
  have a4:L'∣Qk n λl=>M i l*(Sq l j-S1 l j):=QfI λl hl=>Int.dvd_mul_of_dvd_right (h1 l j hl hj)
  have a5:(Qk n λl=>M i l*(Sq l j-S1 l j))=prodF n M Sq i j-prodF n M S1 i j:=by
   unfold prodF
   rw[← QjF]
   exact Qm λl _=>Zcj _ _ _
  rw[a5]at a4
  have:=Zbf a3 a4
  rwa[Int.sub_sub_self]at this
 have F2:∀i,i<n->L'∣Qk n λl=>M i l*x l:=λi hi=>by
  have a1:L'∣Qk n λl=>M i l*(x l-Qk n λj=>cc j*S1 l j):=QfI λl hl=>Int.dvd_mul_of_dvd_right (hx l hl)
  have a2:L'∣Qk n λj=>cc j*prodF n M S1 i j:=QfI λj hj=>Int.dvd_mul_of_dvd_right (F1 i j hi hj)
  have a3:(Qk n λj=>cc j*prodF n M S1 i j)=Qk n λl=>M i l*Qk n λj=>cc j*S1 l j:=by
   unfold prodF
   rw[Qm (g:=λj=>Qk n λl=>M i l*(cc j*S1 l j)) λj _=>by rw[← Q7];exact Qm λl _=>ZM _ _ _,Qff]
   exact Qm λl _=>Q7 n _ _
  rw[a3]at a2
  have:=ZaC a1 a2
  rw[← QaJ,Qm λl _=>by rw[← ZaG,ZaF]]at this
  exact this
 have F3:∀l,l<n->x l=g*B l last:=λl hl=>by
  have a1:(Qk n λj=>prodF n B T l j*x j)=x l:=by
   rw[QbY hl λj hj e=>by rw[sp.u2 l j hl hj];unfold idF;rw[if_neg (Ne.symm e),Zy],sp.u2 l l hl hl]
   unfold idF
   rw[if_pos rfl,ZK]
  have a2:(Qk n λj=>prodF n B T l j*x j)=Qk n λm=>B l m*Qk n λj=>T m j*x j:=by
   unfold prodF
   rw[Qm (g:=λj=>Qk n λm=>B l m*(T m j*x j)) λj _=>by rw[← QmP];exact Qm λm _=>ZF _ _ _,Qff]
   exact Qm λm _=>Q7 n _ _
  rw[← a1,a2,QbY hn λm hm ne=>?_]
  ·rw[sp.hit last (Zh _),if_pos rfl,ZV]
  ·by_cases z:m<=last
   ·rw[sp.hit m z,if_neg ne,Zz]
   ·have:(Qk n λj=>T m j*x j)=0:=by
     rw[QbY hm λj hj e=>by rw[sp.tl m j (by omega) hm hj];unfold idF;rw[if_neg (Ne.symm e),Zy],hx0 m (by omega) hm,Zz]
    rw[this,Zz]
 have F4:∀t,t∣L'->t∣g->t.natAbs=1:=λt t1 t2=>cop t t1 λi j hi hj=>by
  have a1:=hxc t t1 (λl hl=>by rw[F3 l hl];exact Zay t2) i j hi hj
  have a2:=ZaC (Int.dvd_trans t1 (h1 i j hi hj)) a1
  rwa[ZaF]at a2
 have F5:∀i,i<n->L'∣prodF n M B i last:=λi hi=>QxE F4 (by
  have:g*prodF n M B i last=Qk n λl=>M i l*x l:=by
   unfold prodF
   rw[← Q7]
   exact Qm λl hl=>by rw[F3 l hl,ZM]
  rw[this];exact F2 i hi)
 have F6:∀i j,i<=last->j<n->w∣prodF n T Q i j-c*part*prodF n T S1 i j:=λi j hi hj=>by
  have e:prodF n T Q i j-c*part*prodF n T S1 i j=Qk n λl=>T i l*(Q l j-c*part*S1 l j):=by
   unfold prodF
   rw[← Q7,← QjF]
   exact Qm λl _=>by rw[Zcj,ZM (c*part)]
  rw[e]
  refine QfI λl hl=>?_
  by_cases z:l<=last
  ·refine Int.dvd_mul_of_dvd_right ?_
   have a1:=i2 l j (by omega) hj
   have a2:w∣c*S l j-c*part*S1 l j:=by
    rw[hS l j hl hj,← ZF,← Zcj,ew]
    exact Int.mul_dvd_mul_left _ (h1 l j hl hj)
   have:=ZaC a1 a2
   rwa[show Q l j-c*S l j+(c*S l j-c*part*S1 l j)=Q l j-c*part*S1 l j by omega]at this
  ·rw[sp.tu i l hi (by omega) hl,Zy];exact Int.dvd_zero _
 refine⟨by omega,Qan.prod h.u1 sp.u2,Qan.prod sp.u1 h.u2,L0',ew.symm,λi j hi hin hj=>?_,λi j hi hj=>?_,λi j hi hj=>?_,λj hj=>?_,λj hj hjn=>?_,λi j hj hjn hi=>?_,λi j hj hjn hi=>?_,λj hj hjn=>?_,λ_=>by rw[if_pos rfl]⟩
 ·by_cases z:i=last
  ·show(if i=last then 0 else _)=(0:Int);rw[if_pos z]
  ·show(if i=last then 0 else prodF n T S1 i j)=0
   rw[if_neg z,Qae (a':=idF) (b':=S1) (λl hl=>sp.tl i l (by omega) hin hl) (λ_ _=>rfl),Qas _ _ hin]
   exact hz i j (by omega) hin hj
 ·rw[aM]
  have e1:prodF n (prodF n M B) (λi j=>if i=last then 0 else prodF n T S1 i j) i j=prodF n (prodF n M B) (prodF n T S1) i j-prodF n M B i last*prodF n T S1 last j:=by
   have s1:prodF n (prodF n M B) (prodF n T S1) i j=Qk n (λl=>prodF n M B i l*(if l=last then 0 else prodF n T S1 l j))+Qk n (λl=>(if l=last then prodF n M B i last*prodF n T S1 last j else 0)*1):=by
    rw[← QaJ]
    show(Qk n λl=>prodF n M B i l*prodF n T S1 l j)=_
    exact Qm λl _=>by
     by_cases z:l=last
     ·subst z;rw[if_pos rfl,if_pos rfl];omega
     ·rw[if_neg z,if_neg z];omega
   rw[s1,QaS hn _ λ_=>1]
   show(Qk n λl=>prodF n M B i l*(if l=last then 0 else prodF n T S1 l j))=_
   omega
  rw[e1,← Q8]
  refine Zbf ?_ (Zay (F5 i hi))
  rw[Qae (a':=M) (b':=S1) (λl hl=>?_) (λ_ _=>rfl)]
  ·exact F1 i j hi hj
  ·rw[Q8,Qae (a':=M) (b':=idF) (λ_ _=>rfl) (λm hm=>sp.u2 m l hm hl),Qd9 _ _ hl]
 ·rw[aQ,if_neg (by omega)]
  exact F6 i j (by omega) hj
 ·rw[if_neg (by omega)];exact h.one j (by omega)
 ·by_cases z:j=last
  ·rw[if_pos z];exact L0'
  ·rw[if_neg z];exact h.pos j (by omega) hjn
 ·rw[aM]
  by_cases z:j=last
  ·rw[if_pos z,z];exact F5 i hi
  ·rw[if_neg z,Qae (a':=M) (b':=idF) (λ_ _=>rfl) (λl hl=>sp.bl l j hl (by omega) hjn),Qd9 _ _ hjn]
   exact col i j (by omega) hjn hi
 ·rw[aQ]
  by_cases z:j=last
  ·rw[if_pos z,z]
   have a1:w∣L'*(prodF n T Q last i-c*part*prodF n T S1 last i):=Int.dvd_mul_of_dvd_right (F6 last i (Zh _) hi)
   have a2:w∣L'*(c*part*prodF n T S1 last i):=by rw[ew];exact⟨prodF n T S1 last i,by rw[← ZF,ZV L']⟩
   have:=ZaC a1 a2
   rwa[← ZaG,ZaF]at this
  ·rw[if_neg z,Qae (a':=idF) (b':=Q) (λl hl=>sp.tl j l (by omega) hjn hl) (λ_ _=>rfl),Qas _ _ hjn]
   exact row i j (by omega) hjn hi
 ·by_cases z:j=last
  ·rw[if_pos z,if_neg (by omega),z]
   rw[h.top (by omega),eL]
   exact Int.dvd_mul_left _ _
  ·rw[if_neg z,if_neg (by omega)]
   exact h.nxt j (by omega) hjn
theorem QnT{i:Int}{k:Nat}(h:i.natAbs<2^k)(hk:k<=2^20):QaK i:=Zi (Zbp h) hk
noncomputable def QiE(QbG:Den):DS:=(Qe (QP (QM (QaY (Qa 0)) (.nm 1) [none,none,some 0] QW (Qj 2 QbG [] (Qc (Qa 2) (Qc (Qa 1) Qg))))) Qp)
def Qg9(d:Den):Prop:=∀n:Nat,n<=1000->d [.int n]=some (Qd n n idF,true)
theorem Quc{du:Den}(hu:Qla du):Qg9 (Qn 1 (QiE du)):=λn hn=>by
 have e:Qd n n idF=Qd n n λi j=>if j=i then 1 else 0:=by
  unfold Qd
  refine congrArg D.lst (ZO λi _=>Qi3 λj _=>?_)
  show idF i j=if j=i then 1 else 0
  unfold idF
  by_cases z:i=j
  ·rw[if_pos z,if_pos z.symm]
  ·rw[if_neg z,if_neg (Ne.symm z)]
 rw[e]
 exact QX (QC (QN (List.range n) (Qbm rfl rfl (by omega)) rfl λi _=>⟨[none,some (.int i,true),some (.int n,true)],rfl,⟨Qf n λj=>if j=i then 1 else 0,true,[]⟩,Ql rfl (hu n i hn) rfl,rfl,rfl⟩) ⟨rfl,rfl⟩)
noncomputable def QqH:DS:=(Qe (QP (QM (Qe3 (Qa 1) (Qa 3)) (.tp [1,2]) [none,none,none,some 0,some 2] QW (QQ (Qav (Qa 3) (Qa 1)) (Qav (Qa 4) (Qa 2))))) Qp)
def Qi7(d:Den):Prop:=∀(n:Nat) (p q:Int) (a b:Nat->Int),QaK p->QaK q->(∀i,i<n->QaK (a i)/\QaK (b i))->d [.int p,Qf n a,.int q,Qf n b]=some (Qf n λi=>p*a i+q*b i,true)
theorem QvM:Qi7 (Qn 4 QqH):=λn p q a b hp hq hb=>
 QX (QC (QN (List.range n) (QfA rfl rfl rfl rfl) rfl λi hi=>⟨[none,some (.int (a i),true),some (.int (b i),true),some (.int p,true),some (.int q,true)],rfl,⟨.int (p*a i+q*b i),true,[]⟩,Qac (QaH rfl rfl rfl rfl (Qc9 hp (hb i (Zk.mp hi)).1)) rfl (QaH rfl rfl rfl rfl (Qc9 hq (hb i (Zk.mp hi)).2)) rfl,rfl,rfl⟩) ⟨rfl,rfl⟩)
noncomputable def QcF(r x y:Int):Nat->Int
 | 0=>r
 | 1=>x
 | _=>y
theorem QmM{r x y:Int}(h1:r.natAbs<2^2000)(h2:x.natAbs<2^2000)(h3:y.natAbs<2^2000):∀i,QaK (QcF r x y i)
 | 0=>QaO h1
 | 1=>QaO h2
 | _+2=>QaO h3
noncomputable def Qgv(Qb9:Den):DS:=(Qe (Qo 2 (QaC (Qc (Qa 0) (Qc (dC (.int 1)) (Qc (dC (.int 0)) Qg))))) (Qe (Qo 3 (QaC (Qc (Qa 1) (Qc (dC (.int 0)) (Qc (dC (.int 1)) Qg))))) (Qe (Qcv (QO (dOp gNe (Qr (Qa 3) (dC (.int 0))) (dC (.int 0)))) (Qe (Qo 4 (Qj 4 Qb9 [] (Qc (dC (.int 1)) (Qc (Qa 2) (Qc (dOp Qa6 (dC (.int 0)) (dOp QbF (Qr (Qa 2) (dC (.int 0))) (Qr (Qa 3) (dC (.int 0))))) (Qc (Qa 3) Qg)))))) (Qe (Qo 2 (Qaf (Qa 3))) (Qe (Qo 3 (Qaf (Qa 4))) Qp)))) (Qe (QP (QqX (Qc (Qa 2) Qg))) Qp))))
structure Wgh (a b R0 R1:Nat) (x0 y0 x1 y1:Int):Prop where
 e0:(R0:Int)=x0*a+y0*b
 e1:(R1:Int)=x1*a+y1*b
 dv:∀t:Nat,(t∣R0/\t∣R1)↔(t∣a/\t∣b)
 l0:R0<2^2000
 l1:R1<2^2000
 bx:x1.natAbs*R0+x0.natAbs*R1<=b
 by':y1.natAbs*R0+y0.natAbs*R1<=a
 x0l:x0.natAbs<=b+1
 x1l:x1.natAbs<=b+1
 y0l:y0.natAbs<=a+1
 y1l:y1.natAbs<=a+1
theorem Qqf{p0 p1:Int}{q R0 R1 R2 c:Nat}(e:q*R1+R2=R0)(h:p1.natAbs*R0+p0.natAbs*R1<=c):(1*p0+(0-(q:Int))*p1).natAbs*R1+p1.natAbs*R2<=c:=by
 have h1:(1*p0+(0-(q:Int))*p1).natAbs<=p0.natAbs+q*p1.natAbs:=by
  have:=Zby (1*p0) ((0-(q:Int))*p1)
  rw[ZK,ZaI,Zax,Int.natAbs_neg,Zaa,Int.natAbs_natCast]at this
  rw[ZK,ZaI,Zax]
  exact this
 have h2:=ZbF R1 h1
 have h3:(p0.natAbs+q*p1.natAbs)*R1+p1.natAbs*R2=p1.natAbs*R0+p0.natAbs*R1:=by
  rw[← e,Nat.add_mul,Nat.mul_add]
  have:q*p1.natAbs*R1=p1.natAbs*(q*R1):=by rw[ZaQ q,Nat.mul_assoc]
  omega
 omega
theorem Wgh.step{a b R0 R1:Nat}{x0 y0 x1 y1:Int}(h:Wgh a b R0 R1 x0 y0 x1 y1)(hr:R1≠0):Wgh a b R1 (R0 % R1) x1 y1 (1*x0+(0-((R0 / R1:Nat):Int))*x1) (1*y0+(0-((R0 / R1:Nat):Int))*y1):=by
 have e:R0 / R1*R1+R0 % R1=R0:=by rw[ZaQ];exact Nat.div_add_mod R0 R1
 have bx:=Qqf e h.bx
 have by':=Qqf e h.by'
 have r1:1<=R1:=by omega
 refine⟨h.e1,?_,λt=>?_,h.l1,Zu (Nat.mod_lt _ (by omega)) (Zbg h.l1),bx,by',h.x1l,?_,h.y1l,?_⟩
 ·have e':((R0 / R1:Nat):Int)*R1+((R0 % R1:Nat):Int)=R0:=by rw[← Zak,← Zaf,e]
  have h0:=h.e0
  have h1:=h.e1
  generalize ((R0 / R1:Nat):Int)=q at *
  generalize ((R0 % R1:Nat):Int)=z at *
  grind
 ·rw[← h.dv t]
  constructor
  ·rintro⟨h1,h2⟩
   exact⟨(Nat.dvd_mod_iff h1).mp h2,h1⟩
  ·rintro⟨h1,h2⟩
   exact⟨h2,(Nat.dvd_mod_iff h2).mpr h1⟩
 ·have:=Nat.mul_le_mul_left (1*x0+(0-((R0 / R1:Nat):Int))*x1).natAbs r1
  omega
 ·have:=Nat.mul_le_mul_left (1*y0+(0-((R0 / R1:Nat):Int))*y1).natAbs r1
  omega
def Qlu(d:Den):Prop:=∀a b:Nat,a<2^1999->b<2^1999->∃(g:Nat) (x y:Int),d [.int a,.int b]=some (.tup [.int g,.int x,.int y],true)/\(g:Int)=x*a+y*b/\g∣a/\g∣b/\x.natAbs<=2^1999/\y.natAbs<=2^1999
theorem Qu0{da:Den}(ha:Qi7 da):Qlu (Qn 5 (Qgv da)):=λa b la lb=>by
 have p:(2:Nat)^2000=2*2^1999:=by rw[Zcd,ZaQ]
 have key:Run (Qgv da) [some (.int a,true),some (.int b,true),none,none,none] λo=>match o with | .rt d fr=>fr=true/\∃(g:Nat) (x y:Int),d= .tup [.int g,.int x,.int y]/\(g:Int)=x*a+y*b/\g∣a/\g∣b/\x.natAbs<=2^1999/\y.natAbs<=2^1999 | _=>False:=by
  refine run_seq (Qh (r:=⟨Qf 3 (QcF a 1 0),true,[]⟩) rfl ?_)
  rw[Qi]
  refine run_seq (Qh (r:=⟨Qf 3 (QcF b 0 1),true,[]⟩) rfl ?_)
  rw[Qi]
  refine Qar (P:=λρ=>∃(g:Nat) (x y z u:Int) (b2:Bool) (j3 j4:Option (D×Bool)),Wgh a b g 0 x y z u/\ρ=[some (.int a,true),some (.int b,true),some (Qf 3 (QcF g x y),b2),j3,j4]) ?_ ?_
  ·refine Qgr (λn ρ=>∃(R0 R1:Nat) (x0 y0 x1 y1:Int) (b2 b3:Bool) (j4:Option (D×Bool)),R1=n/\Wgh a b R0 R1 x0 y0 x1 y1/\ρ=[some (.int a,true),some (.int b,true),some (Qf 3 (QcF R0 x0 y0),b2),some (Qf 3 (QcF R1 x1 y1),b3),j4]) ?_ b _ ⟨a,b,1,0,0,1,true,true,none,rfl,⟨by omega,by omega,λt=>Iff.rfl,by omega,by omega,by simp,by simp,by simp,by simp,by simp,by simp⟩,rfl⟩
   rintro n ρ ⟨R0,R1,x0,y0,x1,y1,b2,b3,j4,rfl,W,rfl⟩
   obtain⟨r2,v2,d2⟩:∃r:HS.R,Qa 2 [some (.int a,true),some (.int b,true),some (Qf 3 (QcF R0 x0 y0),b2),some (Qf 3 (QcF R1 x1 y1),b3),j4]=some r/\r.d=Qf 3 (QcF R0 x0 y0):=by cases b2<;>exact⟨_,rfl,rfl⟩
   obtain⟨r3,v3,d3⟩:∃r:HS.R,Qa 3 [some (.int a,true),some (.int b,true),some (Qf 3 (QcF R0 x0 y0),b2),some (Qf 3 (QcF R1 x1 y1),b3),j4]=some r/\r.d=Qf 3 (QcF R1 x1 y1):=by cases b3<;>exact⟨_,rfl,rfl⟩
   refine⟨!decide ((R1:Int)=0),QL (QcY (QaN v3 d3 rfl rfl (by decide)) rfl rfl rfl) rfl,λh=>?_,λh=>?_⟩
   ·have hr:R1=0:=by
     have:(R1:Int)=0:=by simpa using h
     omega
    subst hr
    exact⟨R0,x0,y0,x1,y1,b2,_,_,W,rfl⟩
   ·have hr:R1≠0:=by
     have:¬(R1:Int)=0:=by simpa using h
     omega
    have hq:(R0 / R1)<2^2000:=ZR (Nat.div_le_self R0 R1) W.l0
    have x0l:=W.x0l
    have x1l:=W.x1l
    have y0l:=W.y0l
    have y1l:=W.y1l
    have W':=W.step hr
    have er:(Qf 3 λi=>1*QcF R0 x0 y0 i+(0-((R0 / R1:Nat):Int))*QcF R1 x1 y1 i)=Qf 3 (QcF ((R0 % R1:Nat):Int) (1*x0+(0-((R0 / R1:Nat):Int))*x1) (1*y0+(0-((R0 / R1:Nat):Int))*y1)):=Qi3 λi hi=>by
     match i,hi with
     | 0,_=>
      show 1*(R0:Int)+(0-((R0 / R1:Nat):Int))*R1=((R0 % R1:Nat):Int)
      have e:R0 / R1*R1+R0 % R1=R0:=by rw[ZaQ];exact Nat.div_add_mod R0 R1
      have e':((R0 / R1:Nat):Int)*R1+((R0 % R1:Nat):Int)=R0:=by rw[← Zak,← Zaf,e]
      generalize ((R0 / R1:Nat):Int)=q at *
      generalize ((R0 % R1:Nat):Int)=z at *
      grind
     | 1,_=>rfl
     | 2,_=>rfl
    have ec:=ha 3 1 (0-((R0 / R1:Nat):Int)) (QcF R0 x0 y0) (QcF R1 x1 y1) (QaO (by decide)) (QaO (by rw[ZaI,Int.natAbs_neg,Int.natAbs_natCast];exact hq)) λi _=>⟨QmM (by have:=W.l0;omega) (by omega) (by omega) i,QmM (by have:=W.l1;omega) (by omega) (by omega) i⟩
    rw[er]at ec
    refine run_seq (Qh (Ql (r:=⟨[.int 1,Qf 3 (QcF R0 x0 y0),.int (0-((R0 / R1:Nat):Int)),Qf 3 (QcF R1 x1 y1)],_,_⟩) ((Qq rfl (Qq v2 (Qq (QfP (b:=((R0 / R1:Nat):Int)) rfl rfl (QwL (b:=R1) (QaN v2 d2 rfl rfl (by decide)) rfl (QaN v3 d3 rfl rfl (by decide)) rfl (by omega) (by have:=W.l1;omega)) rfl) (Qq v3 (QS _))))).trans (by rw[d2,d3])) ec rfl) ?_)
    rw[Qi]
    generalize hnf:QcF ((R0 % R1:Nat):Int) (1*x0+(0-((R0 / R1:Nat):Int))*x1) (1*y0+(0-((R0 / R1:Nat):Int))*y1)=nf at ec er ⊢
    cases b3
    ·refine run_seq (Qh (QaA rfl) ?_)
     refine run_seq (Qh (QaA rfl) (Qt ?_))
     refine⟨R0 % R1,Nat.mod_lt _ (by omega),R1,R0 % R1,x1,y1,_,_,false,false,some (Qf 3 nf,false),rfl,W',?_⟩
     rw[hnf];rfl
    ·refine run_seq (Qh (QaA rfl) ?_)
     refine run_seq (Qh (QaA rfl) (Qt ?_))
     refine⟨R0 % R1,Nat.mod_lt _ (by omega),R1,R0 % R1,x1,y1,_,_,false,false,some (Qf 3 nf,false),rfl,W',?_⟩
     rw[hnf];rfl
  ·rintro ρ ⟨g,x,y,z,u,b2,j3,j4,W,rfl⟩
   have hd:=(W.dv g).mp ⟨Nat.dvd_refl g,Nat.dvd_zero g⟩
   have x0l:=W.x0l
   have y0l:=W.y0l
   refine QH (Qca (by cases b2<;>rfl) ⟨rfl,g,x,y,rfl,W.e0,hd.1,hd.2,by omega,by omega⟩)
 obtain⟨o,h1,h2⟩:=key
 cases o with
 | rt d fr=>
  obtain⟨rfl,g,x,y,rfl,h⟩:=h2
  exact⟨g,x,y,by show Option.bind (Qgv da [some (.int a,true),some (.int b,true),none,none,none]) outD=_;rw[h1];rfl,h⟩
 | _=>exact h2.elim
noncomputable def QgR(T:Nat->Nat->Int)(l a:Nat)(p q r s:Int):Nat->Nat->Int:=QdH T l (λj=>p*T l j+q*T a j) a λj=>r*T l j+s*T a j
noncomputable def QeT(B:Nat->Nat->Int)(l a:Nat)(p q r s:Int):Nat->Nat->Int:=λi j=>if j=a then(0-q)*B i l+p*B i a else if j=l then s*B i l+(0-r)*B i a else B i j
theorem Qif{T:Nat->Nat->Int}{l a:Nat}{p q r s:Int}(j:Nat):QgR T l a p q r s a j=r*T l j+s*T a j:=by unfold QgR QdH;rw[if_pos rfl]
theorem Qio{T:Nat->Nat->Int}{l a:Nat}{p q r s:Int}(h:l≠a)(j:Nat):QgR T l a p q r s l j=p*T l j+q*T a j:=by unfold QgR QdH;rw[if_neg h,if_pos rfl]
theorem Qf3{T:Nat->Nat->Int}{l a i:Nat}{p q r s:Int}(h1:i≠a)(h2:i≠l)(j:Nat):QgR T l a p q r s i j=T i j:=by unfold QgR QdH;rw[if_neg h1,if_neg h2]
theorem QoM{B:Nat->Nat->Int}{l a:Nat}{p q r s:Int}(i:Nat):QeT B l a p q r s i a=(0-q)*B i l+p*B i a:=by unfold QeT;rw[if_pos rfl]
theorem QoJ{B:Nat->Nat->Int}{l a:Nat}{p q r s:Int}(h:l≠a)(i:Nat):QeT B l a p q r s i l=s*B i l+(0-r)*B i a:=by unfold QeT;rw[if_neg h,if_pos rfl]
theorem Qle{B:Nat->Nat->Int}{l a j:Nat}{p q r s:Int}(h1:j≠a)(h2:j≠l)(i:Nat):QeT B l a p q r s i j=B i j:=by unfold QeT;rw[if_neg h1,if_neg h2]
theorem Qqx(n:Nat)(α β:Int)(f g:Nat->Int):(Qk n λk=>α*f k+β*g k)=α*Qk n f+β*Qk n g:=by rw[QaJ,Q7,Q7]
theorem QhM(n:Nat)(α β:Int)(f g h:Nat->Int):(Qk n λk=>(α*f k+β*g k)*h k)=α*(Qk n λk=>f k*h k)+β*Qk n λk=>g k*h k:=by
 rw[← Qqx];exact Qm λk _=>by rw[ZX,ZF,ZF]
theorem Qmz(n:Nat)(α β:Int)(f g h:Nat->Int):(Qk n λk=>h k*(α*f k+β*g k))=α*(Qk n λk=>h k*f k)+β*Qk n λk=>h k*g k:=by
 rw[← Qqx];exact Qm λk _=>by rw[ZaG,ZM,ZM (h k)]
theorem QwH{n:Nat}{T B:Nat->Nat->Int}{l a:Nat}{p q r s:Int}(hl:l<n)(ha:a<n)(hla:l≠a)(hd:p*s-q*r=1)(u1:Qan n T B)(u2:Qan n B T):
  Qan n (QgR T l a p q r s) (QeT B l a p q r s)/\Qan n (QeT B l a p q r s) (QgR T l a p q r s):=by
 constructor
 ·intro i j hi hj
  have two:∀c d:Nat,c<n->d<n->(Qk n λk=>T c k*B k d)=idF c d:=λc d hc hd=>u1 c d hc hd
  have right:∀c,c<n->(Qk n λk=>T c k*QeT B l a p q r s k j)=if j=a then(0-q)*idF c l+p*idF c a else if j=l then s*idF c l+(0-r)*idF c a else idF c j:=λc hc=>by
   by_cases ja:j=a
   ·subst ja
    rw[if_pos rfl,Qm λk _=>by rw[QoM],Qmz,two c l hc hl,two c j hc hj]
   ·by_cases jl:j=l
    ·subst jl
     rw[if_neg ja,if_pos rfl,Qm λk _=>by rw[QoJ hla],Qmz,two c j hc hj,two c a hc ha]
    ·rw[if_neg ja,if_neg jl,Qm λk _=>by rw[Qle ja jl],two c j hc hj]
  have ll:idF l l=1:=by unfold idF;rw[if_pos rfl]
  have aa:idF a a=1:=by unfold idF;rw[if_pos rfl]
  have la:idF l a=0:=by unfold idF;rw[if_neg hla]
  have al:idF a l=0:=by unfold idF;rw[if_neg (Ne.symm hla)]
  have ne:∀c d:Nat,c≠d->idF c d=0:=λc d h=>by unfold idF;rw[if_neg h]
  show(Qk n λk=>QgR T l a p q r s i k*QeT B l a p q r s k j)=idF i j
  by_cases ia:i=a
  ·subst ia
   rw[Qm λk _=>by rw[Qif],QhM,right l hl,right i hi]
   by_cases ja:j=i
   ·subst ja;rw[if_pos rfl,if_pos rfl,ll,la,al,aa];grind
   ·rw[if_neg ja,if_neg ja]
    by_cases jl:j=l
    ·subst jl;rw[if_pos rfl,if_pos rfl,ll,la,al,aa];grind
    ·rw[if_neg jl,if_neg jl,ne l j (Ne.symm jl),ne i j (Ne.symm ja)];omega
  ·by_cases il:i=l
   ·subst il
    rw[Qm λk _=>by rw[Qio hla],QhM,right i hi,right a ha]
    by_cases ja:j=a
    ·subst ja;rw[if_pos rfl,if_pos rfl,ll,la,al,aa];grind
    ·rw[if_neg ja,if_neg ja]
     by_cases jl:j=i
     ·subst jl;rw[if_pos rfl,if_pos rfl,ll,la,al,aa];grind
     ·rw[if_neg jl,if_neg jl,ne i j (Ne.symm jl),ne a j (Ne.symm ja)];omega
   ·rw[Qm λk _=>by rw[Qf3 ia il],right i hi,ne i l il,ne i a ia]
    by_cases ja:j=a
    ·subst ja;rw[if_pos rfl,ne i j ia];omega
    ·rw[if_neg ja]
     by_cases jl:j=l
     ·subst jl;rw[if_pos rfl,ne i j il];omega
     ·rw[if_neg jl]
 ·intro i j hi hj
  rw[← u2 i j hi hj]
  refine QuP hl ha hla (λk _ k1 k2=>by rw[Qle k2 k1,Qf3 k2 k1]) ?_
  rw[QoJ hla,QoM,Qio hla,Qif]
  generalize B i l=bl
  generalize B i a=ba
  generalize T l j=tl
  generalize T a j=ta
  grind
structure Qfk (n last at':Nat) (x:Nat->Int) (T B:Nat->Nat->Int) (wh:Nat):Prop where
 u1:Qan n T B
 u2:Qan n B T
 tl:∀i j,last<i->i<n->j<n->T i j=idF i j
 tu:∀i j,i<=last->last<j->j<n->T i j=0
 bl:∀i j,i<n->last<j->j<n->B i j=idF i j
 un:∀i j,at'<=i->i<last->j<n->T i j=idF i j
 h0:∀i,i<at'->(Qk n λj=>T i j*x j)=0
 hl:(Qk n λj=>T last j*x j)=wh
 wl:wh<2^1999
 bT:∀i j,i<n->j<n->(T i j).natAbs<=2^(2000*at')
 bB:∀i j,i<n->j<n->(B i j).natAbs<=2^(2000*at')
theorem QrB{p q a b:Int}{k:Nat}(hp:p.natAbs<=2^1999)(hq:q.natAbs<=2^1999)(ha:a.natAbs<=2^(2000*k))(hb:b.natAbs<=2^(2000*k)):(p*a+q*b).natAbs<=2^(2000*(k+1)):=by
 have h1:=Zby (p*a) (q*b)
 rw[Zaa,Zaa]at h1
 have h2:=Zbe hp ha
 have h3:=Zbe hq hb
 have h4:(2:Nat)^(2000*(k+1))=2*(2^1999*2^(2000*k)):=by
  rw[← Nat.pow_add,← Nat.pow_succ']
  congr 1;omega
 omega
theorem Qfk.skip{n last at':Nat}{x:Nat->Int}{T B:Nat->Nat->Int}{wh:Nat}(h:Qfk n last at' x T B wh)(hl:last<n)(ha:at'<last)(hx:x at'=0):Qfk n last (at'+1) x T B wh:=by
 have up:(2:Nat)^(2000*at')<=2^(2000*(at'+1)):=ZD (by decide) (by omega)
 refine⟨h.u1,h.u2,h.tl,h.tu,h.bl,λi j h1 h2=>h.un i j (by omega) h2,λi hi=>?_,h.hl,h.wl,λi j hi hj=>Zi (h.bT i j hi hj) up,λi j hi hj=>Zi (h.bB i j hi hj) up⟩
 by_cases e:i=at'
 ·subst e
  rw[QbY (a:=i) (by omega) λj hj ne=>by rw[h.un i j (Zh _) ha hj];unfold idF;rw[if_neg (Ne.symm ne),Zy],hx,Zz]
 ·exact h.h0 i (by omega)
theorem Qfk.step{n last at':Nat}{x:Nat->Int}{T B:Nat->Nat->Int}{wh g one other:Nat}{p q:Int}(h:Qfk n last at' x T B wh)(hl:last<n)(ha:at'<last)(g0:g≠0)(hw:wh=g*one)(hx:x at'=(g*other:Nat))(hxl:g*other<2^1999)(hg:(g:Int)=p*wh+q*x at')
  (pl:p.natAbs<=2^1999) (ql:q.natAbs<=2^1999):Qfk n last (at'+1) x (QgR T last at' p q (0-(other:Int)) one) (QeT B last at' p q (0-(other:Int)) one) g:=by
 have hla:last≠at':=by omega
 have an:at'<n:=by omega
 have g0':(g:Int)≠0:=by omega
 have onel:one<2^1999:=by
  have:=h.wl
  have:one<=g*one:=Nat.le_mul_of_pos_left one (by omega)
  omega
 have otherl:other<2^1999:=by
  have:other<=g*other:=Nat.le_mul_of_pos_left other (by omega)
  omega
 have gl:g<2^1999∨one=0:=by
  by_cases z:one=0
  ·exact .inr z
  ·have:=h.wl
   have:g<=g*one:=ZbZ g (by omega)
   exact .inl (by omega)
 have hd:p*one-q*(0-(other:Int))=1:=by
  rw[hw,hx,Zak,Zak]at hg
  have:(g:Int)*(p*one-q*(0-(other:Int)))=g*1:=by grind
  exact Zas g0' this
 have gl:g<2^1999:=by
  rcases gl with z | z
  ·exact z
  ·rw[z]at hd
   have:other≠0:=λz=>by rw[z]at hd;simp at hd
   have:g<=g*other:=ZbZ g (by omega)
   omega
 obtain⟨v1,v2⟩:=QwH hl an hla hd h.u1 h.u2
 have tA:∀j,j<n->T at' j=idF at' j:=λj hj=>h.un at' j (Zh _) ha hj
 have hA:(Qk n λj=>T at' j*x j)=x at':=by
  rw[QbY an λj hj ne=>by rw[tA j hj];unfold idF;rw[if_neg (Ne.symm ne),Zy],tA at' an]
  unfold idF;rw[if_pos rfl,ZK]
 have ol:(0-(other:Int)).natAbs<=2^1999:=by rw[ZaI,Int.natAbs_neg,Int.natAbs_natCast];omega
 have ol':(0-(0-(other:Int))).natAbs<=2^1999:=by rw[ZaI,Int.natAbs_neg];exact ol
 have ql':(0-q).natAbs<=2^1999:=by rw[ZaI,Int.natAbs_neg];exact ql
 have oneb:(one:Int).natAbs<=2^1999:=by rw[Int.natAbs_natCast];omega
 have up:(2:Nat)^(2000*at')<=2^(2000*(at'+1)):=ZD (by decide) (by omega)
 refine⟨v1,v2,λi j h1 h2 h3=>by rw[Qf3 (by omega) (by omega)];exact h.tl i j h1 h2 h3,λi j h1 h2 h3=>?_,λi j h1 h2 h3=>by rw[Qle (by omega) (by omega)];exact h.bl i j h1 h2 h3,λi j h1 h2 h3=>by rw[Qf3 (by omega) (by omega)];exact h.un i j (by omega) h2 h3,λi hi=>?_,?_,gl,λi j hi hj=>?_,λi j hi hj=>?_⟩
 ·by_cases e1:i=at'
  ·subst e1;rw[Qif,h.tu last j (Zh _) h2 h3,h.tu i j (by omega) h2 h3];omega
  ·by_cases e2:i=last
   ·subst e2;rw[Qio hla,h.tu i j (Zh _) h2 h3,h.tu at' j (by omega) h2 h3];omega
   ·rw[Qf3 e1 e2];exact h.tu i j h1 h2 h3
 ·by_cases e1:i=at'
  ·subst e1
   rw[Qm λj _=>by rw[Qif],QhM,h.hl,hA,hw,hx,Zak,Zak]
   grind
  ·rw[Qm λj _=>by rw[Qf3 e1 (by omega)]]
   exact h.h0 i (by omega)
 ·rw[Qm λj _=>by rw[Qio hla],QhM,h.hl,hA]
  exact hg.symm
 ·by_cases e1:i=at'
  ·subst e1;rw[Qif];exact QrB ol oneb (h.bT last j hl hj) (h.bT i j hi hj)
  ·by_cases e2:i=last
   ·subst e2;rw[Qio hla];exact QrB pl ql (h.bT i j hi hj) (h.bT at' j an hj)
   ·rw[Qf3 e1 e2];exact Zi (h.bT i j hi hj) up
 ·by_cases e1:j=at'
  ·subst e1;rw[QoM];exact QrB ql' pl (h.bB i last hi hl) (h.bB i j hi hj)
  ·by_cases e2:j=last
   ·subst e2;rw[QoJ hla];exact QrB oneb ol' (h.bB i j hi hj) (h.bB i at' hi an)
   ·rw[Qle e1 e2];exact Zi (h.bB i j hi hj) up
theorem Qfk.start{n last:Nat}{x:Nat->Int}(hl:last<n){wh:Nat}(hw:x last=wh)(wl:wh<2^1999):Qfk n last 0 x idF idF wh:=by
 have u:Qan n idF idF:=λi j hi hj=>Qas _ _ hi
 have b1:∀i j,(idF i j).natAbs<=2^(2000*0):=λi j=>by unfold idF;split<;>decide
 refine⟨u,u,λ_ _ _ _ _=>rfl,λi j h1 h2 _=>by unfold idF;rw[if_neg (by omega)],λ_ _ _ _ _=>rfl,λ_ _ _ _ _=>rfl,λi hi=>by omega,?_,wl,λi j _ _=>b1 i j,λi j _ _=>b1 i j⟩
 rw[QbY hl λj _ ne=>by unfold idF;rw[if_neg (Ne.symm ne),Zy]]
 unfold idF
 rw[if_pos rfl,ZK];exact hw
theorem Qfk.tell{n last:Nat}{x:Nat->Int}{T B:Nat->Nat->Int}{wh:Nat}(h:Qfk n last last x T B wh):Qnt n last x T B wh:=⟨h.u1,h.u2,h.tl,h.tu,h.bl,λi hi=>by
 by_cases e:i=last
 ·rw[if_pos e,e];exact h.hl
 ·rw[if_neg e];exact h.h0 i (by omega)⟩
theorem QhD{n N i:Nat}{f:Nat->Nat->Int}(h:i<n):((List.range n).map λi=>Qf N (f i))[i]? =some (Qf N (f i)):=by
 rw[Zm,ZH h];rfl
theorem QwS{t b ln n i k:Nat}{T B:Nat->Nat->Int}{a1 a2 a3 a4:Nat->Int}{fi fk g1 g2 g3 g4:DE}{ρ ρ1:En}{Q:Out->Prop}(ht:ρ[t]? =some (some (Qd n n T,true)))(hb:ρ[b]? =some (some (Qd n n B,true)))(h1:t≠b)(h2:ln≠t)(h3:ln≠b)(h4:ln<ρ.length)
  (ei:fi ρ=some ⟨.int i,true,[]⟩) (ek:fk ρ=some ⟨.int k,true,[]⟩) (hi:i<n) (hk:k<n) (e1:(((ρ.set t none).set b none).set ln none).set ln (some (.tup [Qf n (T i),Qf n (T k),Qf n (B i),Qf n (B k)],false))=ρ1)
  (ei':fi ρ1=some ⟨.int i,true,[]⟩) (ek':fk ρ1=some ⟨.int k,true,[]⟩) (c1:g1 ρ1=some ⟨Qf n a1,true,[]⟩) (c2:g2 ρ1=some ⟨Qf n a2,true,[]⟩) (c3:g3 ρ1=some ⟨Qf n a3,true,[]⟩) (c4:g4 ρ1=some ⟨Qf n a4,true,[]⟩)
  (q:Q (.nx (((((ρ.set t none).set b none).set ln none).set t (some (Qd n n (QdH T i a1 k a2),true))).set b (some (Qd n n (QdH B i a3 k a4),true))))):Run (Qj8 t b ln fi fk g1 g2 g3 g4) ρ Q:=by
 refine⟨_,?_,q⟩
 unfold Qj8
 rw[ht,hb]
 simp only[Qd]
 rw[if_pos ⟨h1,h2,h3,h4⟩,ei,Za,ek,Za]
 simp only[Zs,Zo]
 rw[Qb5 (show(0:Int)<=i by omega) (by omega),Qb5 (show(0:Int)<=k by omega) (by omega)]
 simp only[Za,ZL]
 rw[QhD hi,QhD hk,QhD hi,QhD hk]
 simp only[Za]
 have fl:(D.tup [Qf n (T i),Qf n (T k),Qf n (B i),Qf n (B k)]).flat=false:=rfl
 rw[fl,e1]
 unfold QnQ
 rw[ei',Za,ek',Za,c1,Za,c2,Za,c3,Za,c4,Za]
 have o0:∀a:Nat->Int,Qin (HS.R.mk (Qf n a) true [])=true:=λa=>rfl
 simp only[o0,and_self,if_true]
 rw[QeO hi,QeO hk,QeO hi,QeO hk]
 rfl
noncomputable def QdE(Qaj:Den)(Qeb:Den)(Qb9:Den)(Qbi:Den):DS:=(Qe (Qo 2 (Qj 1 Qaj [] (Qc (dBf QaD (Qc (Qa 0) Qg)) Qg))) (Qe (Qo 3 (Qj 1 Qaj [] (Qc (dBf QaD (Qc (Qa 0) Qg)) Qg))) (Qe (Qo 4 (Qaf (Qr (Qa 0) (Qa 1)))) (Qe (Qbl (QaY (Qa 1)) (.nm 5) (Qe (Qo 6 (Qj 2 Qeb [] (Qc (Qa 4) (Qc (Qr (Qa 0) (Qa 5)) Qg)))) (Qe (sIf (QO (dOp gEq (Qr (Qa 6) (dC (.int 0))) (dC (.int 0)))) (Qe QqY Qp) Qp) (Qe (Qo 7 (dOp QbF (Qa 4) (Qr (Qa 6) (dC (.int 0))))) (Qe (Qo 8 (dOp QbF (Qr (Qa 0) (Qa 5)) (Qr (Qa 6) (dC (.int 0))))) (Qe (Qj8 2 3 9 (Qa 1) (Qa 5) (Qj 4 Qb9 [] (Qc (Qr (Qa 6) (dC (.int 1))) (Qc (Qr (Qa 9) (dC (.int 0))) (Qc (Qr (Qa 6) (dC (.int 2))) (Qc (Qr (Qa 9) (dC (.int 1))) Qg))))) (Qj 4 Qb9 [] (Qc (dOp Qa6 (dC (.int 0)) (Qa 8)) (Qc (Qr (Qa 9) (dC (.int 0))) (Qc (Qa 7) (Qc (Qr (Qa 9) (dC (.int 1))) Qg))))) (Qj 4 Qb9 [] (Qc (Qa 7) (Qc (Qr (Qa 9) (dC (.int 2))) (Qc (Qa 8) (Qc (Qr (Qa 9) (dC (.int 3))) Qg))))) (Qj 4 Qb9 [] (Qc (dOp Qa6 (dC (.int 0)) (Qr (Qa 6) (dC (.int 2)))) (Qc (Qr (Qa 9) (dC (.int 2))) (Qc (Qr (Qa 6) (dC (.int 1))) (Qc (Qr (Qa 9) (dC (.int 3))) Qg)))))) (Qe (Qo 4 (Qaf (Qr (Qa 6) (dC (.int 0))))) Qp))))))) (Qe (QP (Qat (Qc (Qa 2) (Qc (Qj 1 Qbi [] (Qc (Qa 3) Qg)) Qg)))) Qp)))))
def QlJ(d:Den):Prop:=∀(n last:Nat) (x:Nat->Int),last<n->n<=8->(∀i,i<n->0<=x i/\x i<2^1999)->∃(T B:Nat->Nat->Int) (g:Nat),d [Qf n x,.int last]=some (.tup [Qd n n T,Qd n n B],true)/\Qnt n last x T B g/\(∀i j,i<n->j<n->(T i j).natAbs<=2^16000)/\(∀i j,i<n->j<n->(B i j).natAbs<=2^16000)
theorem Quf{du dw da dt:Den}(hu:Qg9 du)(hw:Qlu dw)(ha:Qi7 da)(ht:QfT dt):QlJ (Qn 10 (QdE du dw da dt)):=λn last x hl n8 hx=>by
 obtain⟨X,hX⟩:∃X:Nat->Nat,∀i,i<n->x i=X i:=⟨λi=>(x i).toNat,λi hi=>by have:=(hx i hi).1;show x i=((x i).toNat:Int);omega⟩
 have hXl:∀i,i<n->X i<2^1999:=λi hi=>by have:=(hx i hi).2;rw[hX i hi]at this;omega
 have key:Run (QdE du dw da dt) [some (Qf n x,false),some (.int last,true),none,none,none,none,none,none,none,none] λo=>match o with | .rt d fr=>fr=true/\∃(T B:Nat->Nat->Int) (g:Nat),d= .tup [Qd n n T,Qd n n B]/\Qnt n last x T B g/\(∀i j,i<n->j<n->(T i j).natAbs<=2^16000)/\(∀i j,i<n->j<n->(B i j).natAbs<=2^16000) | _=>False:=by
  have elen:∀ρ:En,ρ[0]? =some (some (Qf n x,false))->dBf QaD (Qc (Qa 0) Qg) ρ=some ⟨.int n,true,[]⟩:=λρ hρ=>Qi2 (QaX hρ) rfl
  refine run_seq (Qh (Ql (Qq (elen _ rfl) (QS _)) (hu n (by omega)) rfl) ?_)
  rw[Qi]
  refine run_seq (Qh (Ql (Qq (elen _ rfl) (QS _)) (hu n (by omega)) rfl) ?_)
  rw[Qi]
  refine run_seq (Qh ((QaA (QaN rfl rfl rfl rfl hl)).trans (by rw[hX last hl])) ?_)
  rw[Qa7 rfl]
  have symm:(λi j=>idF j i)=idF:=by
   funext i j;unfold idF
   by_cases z:i=j
   ·rw[if_pos z,if_pos z.symm]
   ·rw[if_neg z,if_neg (Ne.symm z)]
  refine QH (QaF (List.range last) (λat' ρ=>∃(T B:Nat->Nat->Int) (wh:Nat) (j5 j6 j7 j8 j9:Option (D×Bool)),Qfk n last at' x T B wh/\ρ=[some (Qf n x,false),some (.int last,true),some (Qd n n T,true),some (Qd n n (λi j=>B j i),true),some (.int wh,true),j5,j6,j7,j8,j9]) (Qbm rfl rfl (by omega)) rfl ⟨idF,idF,X last,none,none,none,none,none,Qfk.start hl (hX last hl) (hXl last hl),by rw[symm];rfl⟩ ?_ ?_)
  ·rintro k k' ρ hk ⟨T,B,wh,j5,j6,j7,j8,j9,C,rfl⟩
   have hk':k<last/\k=k':=by
    obtain⟨h1,h2⟩:=Zg.mp hk
    simp at h1 h2;exact⟨h1,h2⟩
   obtain⟨hkl,rfl⟩:=hk'
   have kn:k<n:=by omega
   obtain⟨g,p,q,ew,eg,g1,g2,pl,ql⟩:=hw wh (X k) C.wl (hXl k kn)
   refine⟨[some (Qf n x,false),some (.int last,true),some (Qd n n T,true),some (Qd n n (λi j=>B j i),true),some (.int wh,true),some (.int k,true),j6,j7,j8,j9],rfl,?_⟩
   refine run_seq (Qh (Ql (r:=⟨[.int wh,.int (X k)],true,[]⟩) (Qq (r:=⟨.int wh,true,[]⟩) rfl (Qq ((QaN (f:=x) rfl rfl rfl rfl kn).trans (by rw[hX k kn])) (QS _))) ew rfl) ?_)
   rw[Qi]
   change Nx _ (.nx [some (Qf n x,false),some (.int last,true),some (Qd n n T,true),some (Qd n n (λi j=>B j i),true),some (.int wh,true),some (.int k,true),some (.tup [.int g,.int p,.int q],true),j7,j8,j9])
   refine QH (Qaa (QL (Qa0 rfl rfl rfl rfl) rfl) (λh=>?_) (λh=>Qt ?_))
   ·have hg:g=0:=by
     have:(g:Int)=0:=of_decide_eq_true h
     omega
    subst hg
    have hxk:x k=0:=by rw[hX k kn,Nat.eq_zero_of_zero_dvd g2];rfl
    exact QH ⟨_,rfl,T,B,wh,_,_,_,_,_,C.skip hl hkl hxk,rfl⟩
   have g0:g≠0:=λz=>by
    have:=of_decide_eq_false h
    omega
   obtain⟨one,hone⟩:=g1
   obtain⟨other,hother⟩:=g2
   have gl:g<2^2000:=by
    have p:(2:Nat)^2000=2*2^1999:=by rw[Zcd,ZaQ]
    have w1:=C.wl
    have w2:=hXl k kn
    by_cases z:wh=0
    ·by_cases z2:X k=0
     ·rw[z,z2]at eg;simp at eg;omega
     ·have:=Nat.le_of_dvd (by omega) (⟨other,hother⟩:g∣X k);omega
    ·have:=Nat.le_of_dvd (by omega) (⟨one,hone⟩:g∣wh);omega
   refine run_seq (Qh (Qez rfl rfl rfl rfl (by omega) (by rw[Int.natAbs_natCast];exact gl) (by rw[hone,Zak])) ?_)
   rw[Qi]
   refine run_seq (Qh (Qez ((QaN rfl rfl rfl rfl kn).trans (by rw[hX k kn])) rfl rfl rfl (by omega) (by rw[Int.natAbs_natCast];exact gl) (by rw[hother,Zak])) ?_)
   rw[Qi]
   change Nx _ (.nx [some (Qf n x,false),some (.int last,true),some (Qd n n T,true),some (Qd n n (λi j=>B j i),true),some (.int wh,true),some (.int k,true),some (.tup [.int g,.int p,.int q],true),some (.int one,true),some (.int other,true),j9])
   have C':=C.step hl hkl g0 hone (by rw[hX k kn,hother]) (by rw[← hother];exact hXl k kn) (by rw[hX k kn];exact eg) pl ql
   have b8:∀z:Int,z.natAbs<=2^(2000*k)->QaK z:=λz hz=>QnT (k:=16001) (by
    have:(2:Nat)^(2000*k)<2^16001:=Nat.pow_lt_pow_right (by decide) (by omega)
    omega) (by decide)
   have bS:∀z:Int,z.natAbs<=2^1999->QaK z:=λz hz=>QaO (by
    have:(2:Nat)^1999<2^2000:=Nat.pow_lt_pow_right (by decide) (by decide)
    omega)
   have w1:=C.wl
   have onel:(one:Int).natAbs<=2^1999:=by
    rw[Int.natAbs_natCast]
    have:one<=g*one:=Nat.le_mul_of_pos_left one (by omega)
    omega
   have otherl:(other:Int).natAbs<=2^1999:=by
    rw[Int.natAbs_natCast]
    have:other<=g*other:=Nat.le_mul_of_pos_left other (by omega)
    have:=hXl k kn
    omega
   have neg:∀z:Int,z.natAbs<=2^1999->(0-z).natAbs<=2^1999:=λz hz=>by rw[ZaI,Int.natAbs_neg];exact hz
   have eb:QdH (λi j=>B j i) last (λj=>(one:Int)*B j last+(other:Int)*B j k) k (λj=>(0-q)*B j last+p*B j k)=λi j=>QeT B last k p q (0-(other:Int)) one j i:=by
    funext i j
    unfold QdH QeT
    by_cases e1:i=k
    ·rw[if_pos e1,if_pos e1]
    ·rw[if_neg e1,if_neg e1]
     by_cases e2:i=last
     ·rw[if_pos e2,if_pos e2,show(0-(0-(other:Int)))=other by omega]
     ·rw[if_neg e2,if_neg e2]
   refine run_seq (QwS
    rfl rfl (by decide) (by decide) (by decide) (show 9<10 by decide) rfl rfl hl kn rfl rfl rfl
    (Ql rfl (ha n p q (T last) (T k) (bS p pl) (bS q ql) λi hi=>⟨b8 _ (C.bT last i hl hi),b8 _ (C.bT k i kn hi)⟩) rfl)
    (Ql rfl (ha n (0-other) one (T last) (T k) (bS _ (neg _ otherl)) (bS _ onel) λi hi=>⟨b8 _ (C.bT last i hl hi),b8 _ (C.bT k i kn hi)⟩) rfl)
    (Ql rfl (ha n one other (λj=>B j last) (λj=>B j k) (bS _ onel) (bS _ otherl) λi hi=>⟨b8 _ (C.bB i last hi hl),b8 _ (C.bB i k hi kn)⟩) rfl)
    (Ql rfl (ha n (0-q) p (λj=>B j last) (λj=>B j k) (bS _ (neg _ ql)) (bS p pl) λi hi=>⟨b8 _ (C.bB i last hi hl),b8 _ (C.bB i k hi kn)⟩) rfl) ?_)
   rw[eb]
   refine run_seq (Qh rfl (Qt ?_))
   rw[Qa7 rfl]
   exact⟨_,_,g,_,_,_,_,_,C',rfl⟩
  ·rintro ρ ⟨T,B,wh,j5,j6,j7,j8,j9,C,rfl⟩
   rw[Zo]at C
   have bound:(2:Nat)^(2000*last)<=2^16000:=ZD (by decide) (by omega)
   refine QC (r:=⟨.tup [Qd n n T,Qd n n B],true,[2]⟩) ?_ ⟨rfl,T,B,wh,rfl,C.tell,λi j hi hj=>Zi (C.bT i j hi hj) bound,λi j hi hj=>Zi (C.bB i j hi hj) bound⟩
   have ec:Qj 1 dt [] (Qc (Qa 3) Qg) [some (Qf n x,false),some (.int last,true),some (Qd n n T,true),some (Qd n n λi j=>B j i,true),some (.int wh,true),j5,j6,j7,j8,j9]=some ⟨Qd n n B,true,[]⟩:=Ql rfl (ht n _ (by omega)) rfl
   unfold Qat
   rw[Qq rfl (Qq ec (QS _))]
   rfl
 obtain⟨o,h1,h2⟩:=key
 cases o with
 | rt d fr=>
  obtain⟨rfl,T,B,g,rfl,h⟩:=h2
  exact⟨T,B,g,by show Option.bind (QdE du dw da dt [some (Qf n x,false),some (.int last,true),none,none,none,none,none,none,none,none]) outD=_;rw[h1];rfl,h⟩
 | _=>exact h2.elim
noncomputable def Qje(Qd4:Den):DS:=(Qe (QP (Qj 1 Qd4 [] (Qc (QQ (QM (QY (Qa 0)) (.nm 1) [none,none] QW (Qj 1 Qd4 [] (Qc (Qa 1) Qg))) (QaC (Qc (Qa 1) Qg))) Qg))) Qp)
def QiX(d:Den):Prop:=∀(k n:Nat) (f:Nat->Nat->Int) (L:Int),k<=100->∃g:Int,d [Qd k n f,.int L]=some (.int g,true)/\0<=g/\∀t,t∣g↔((∀i j,i<k->j<n->t∣f i j)/\t∣L)
theorem QvG{dc:Den}(hc:QjP dc):QiX (Qn 2 (Qje dc)):=λk n f L hk=>by
 obtain⟨gi,hgi⟩:=ZbX λi:Nat=>hc ((List.range n).map (f i))
 have hrow:∀i t,t∣gi i↔∀j,j<n->t∣f i j:=λi t=>by
  rw[(hgi i).2.2 t]
  exact⟨λh j hj=>h _ (ZS.mpr ⟨j,Zk.mpr hj,rfl⟩),λh x hx=>by obtain⟨j,hj,rfl⟩:=ZS.mp hx;exact h j (Zk.mp hj)⟩
 obtain⟨g,eg,g0,hg⟩:=hc ((List.range (k+1)).map (up gi k L))
 rw[← QoE]at eg
 refine⟨g,QX (QC (Ql (Qq (Qvl (QN (List.range k) (Q0 rfl rfl) rfl λi _=>⟨[none,some (Qf n (f i),false)],rfl,⟨.int (gi i),true,[]⟩,Ql rfl (by rw[QoE];exact(hgi i).1) rfl,rfl,rfl⟩) rfl rfl (by omega)) (QS _)) eg rfl) ⟨rfl,rfl⟩),g0,λt=>?_⟩
 rw[hg t]
 constructor
 ·intro h
  refine⟨λi j hi hj=>(hrow i t).mp (h _ (ZS.mpr ⟨i,Zk.mpr (by omega),by rw[Qhd,if_neg (by omega)]⟩)) j hj,h _ (ZS.mpr ⟨k,Zk.mpr (by omega),by rw[Qhd,if_pos rfl]⟩)⟩
 ·rintro⟨h1,h2⟩ x hx
  obtain⟨i,hi,rfl⟩:=ZS.mp hx
  have hi:=Zk.mp hi
  rw[Qhd]
  by_cases e:i=k
  ·rw[if_pos e];exact h2
  ·rw[if_neg e];exact(hrow i t).mpr λj hj=>h1 i j (by omega) hj
noncomputable def Qo8:DS:=(Qe (QP (QM (QY (Qa 0)) (.nm 1) [none,none,some 1] QW (dOp Qah (Qa 1) (Qa 2)))) Qp)
def QhN(d:Den):Prop:=∀(n:Nat) (a:Nat->Int) (L:Int),0<L->d [Qf n a,.int L]=some (Qf n λi=>a i % L,true)
theorem Qto:QhN (Qn 2 Qo8):=λn a L hL=>
 QX (QC (QN (List.range n) (Q0 rfl rfl) rfl λi _=>⟨[none,some (.int (a i),true),some (.int L,true)],rfl,⟨.int (a i % L),true,[]⟩,Qad rfl rfl rfl rfl hL,rfl,rfl⟩) ⟨rfl,rfl⟩)
noncomputable def Qpk:DS:=(Qe (QP (QM (QY (Qa 0)) (.nm 1) [none,none,some 1] QW (dOp QbF (Qa 1) (Qa 2)))) Qp)
def QhE(d:Den):Prop:=∀(n:Nat) (a q:Nat->Int) (b:Int),b≠0->b.natAbs<2^2000->(∀i,i<n->a i=b*q i)->d [Qf n a,.int b]=some (Qf n q,true)
theorem QsG:QhE (Qn 2 Qpk):=λn a q b b0 bl h=>
 QX (QC (QN (List.range n) (Q0 rfl rfl) rfl λi hi=>⟨[none,some (.int (a i),true),some (.int b,true)],rfl,⟨.int (q i),true,[]⟩,Qez rfl rfl rfl rfl b0 bl (h i (Zk.mp hi)),rfl,rfl⟩) ⟨rfl,rfl⟩)
noncomputable def Qjz:DS:=(Qe (QP (QM (QY (Qa 0)) (.nm 1) [none,none,some 1] QW (Qav (Qa 2) (Qa 1)))) Qp)
def QlC(d:Den):Prop:=∀(n:Nat) (a:Nat->Int) (c:Int),QaK c->(∀i,i<n->QaK (a i))->d [Qf n a,.int c]=some (Qf n λi=>c*a i,true)
theorem Qvr:QlC (Qn 2 Qjz):=λn a c hc ha=>
 QX (QC (QN (List.range n) (Q0 rfl rfl) rfl λi hi=>⟨[none,some (.int (a i),true),some (.int c,true)],rfl,⟨.int (c*a i),true,[]⟩,QaH rfl rfl rfl rfl (Qc9 hc (ha i (Zk.mp hi))),rfl,rfl⟩) ⟨rfl,rfl⟩)
noncomputable def pairF(u v:Nat->Int):Nat->Nat->Int
 | 0=>u
 | _=>v
noncomputable def QiY(Qa3:Den)(QcK:Den):DS:=(Qe (Qo 3 (Qj 2 Qa3 [] (Qc (QaC (Qc (Qa 0) (Qc (Qa 1) Qg))) (Qc (Qa 2) Qg)))) (Qe (Qo 4 (Qaf (Qa 0))) (Qe (Qcv (QO (dOp gNe (Qj 2 Qa3 [] (Qc (QaC (Qc (Qa 4) Qg)) (Qc (Qa 2) Qg))) (Qa 3))) (Qe (Qo 4 (Qj 2 QcK [] (Qc (QM (Qe3 (Qa 4) (Qa 1)) (.tp [1,2]) [none,none,none] QW (QQ (Qa 1) (Qa 2))) (Qc (Qa 2) Qg)))) Qp)) (Qe (QP (Qa 4)) Qp))))
def Qlw(d:Den):Prop:=∀(n:Nat) (u v:Nat->Int) (L:Int),0<L->(∀i,i<n->0<=u i/\u i<L)->∃(x:Nat->Int) (fr:Bool) (k:Nat),d [Qf n u,Qf n v,.int L]=some (Qf n x,fr)/\(∀i,i<n->0<=x i/\x i<L)/\(∀i,i<n->L∣x i-(u i+k*v i))/\∀t,t∣L->(∀i,i<n->t∣x i)->(∀i,i<n->t∣u i)/\∀i,i<n->t∣v i
theorem Qvu{di dw:Den}(hi:QiX di)(hw:QhN dw):Qlw (Qn 5 (QiY di dw)):=λn u v L hL hu=>by
 obtain⟨w,ew,w0,hwd⟩:=hi 2 n (pairF u v) L (by decide)
 have hwd:∀t,t∣w↔((∀i,i<n->t∣u i)/\(∀i,i<n->t∣v i)/\t∣L):=λt=>by
  rw[hwd t]
  constructor
  ·rintro⟨h1,h2⟩
   exact⟨λi hi=>h1 0 i (by decide) hi,λi hi=>h1 1 i (by decide) hi,h2⟩
  ·rintro⟨h1,h2,h3⟩
   refine⟨λi j hi hj=>?_,h3⟩
   match i,hi with
   | 0,_=>exact h1 j hj
   | 1,_=>exact h2 j hj
 obtain⟨Ln,hLn⟩:∃Ln:Nat,L=Ln:=⟨L.toNat,by omega⟩
 obtain⟨T,hT⟩:=QzW u v (L:=Ln) (by omega)
 have hT:∀t:Int,t∣L->(∀i,i<n->t∣u i+T*v i)->(∀i,i<n->t∣u i)/\∀i,i<n->t∣v i:=λt h1 h2=>by
  have:=hT t.natAbs (by rw[hLn]at h1;have:=Zav.mpr h1;rwa[Int.natAbs_natCast]at this) λi hi=>Int.natAbs_dvd.mpr (h2 i hi)
  exact⟨λi hi=>Int.natAbs_dvd.mp (this.1 i hi),λi hi=>Int.natAbs_dvd.mp (this.2 i hi)⟩
 have key:Run (QiY di dw) [some (Qf n u,false),some (Qf n v,false),some (.int L,true),none,none] λo=>match o with | .rt d fr=>∃(x:Nat->Int) (k:Nat),d=Qf n x/\(∀i,i<n->0<=x i/\x i<L)/\(∀i,i<n->L∣x i-(u i+k*v i))/\∀t,t∣L->(∀i,i<n->t∣x i)->(∀i,i<n->t∣u i)/\∀i,i<n->t∣v i | _=>False:=by
  refine run_seq (Qh (Ql rfl ew rfl) ?_)
  rw[Qi]
  refine run_seq (Qh (QaA rfl) ?_)
  refine Qar (P:=λρ=>∃(x:Nat->Int) (k:Nat) (b4:Bool),(∀i,i<n->0<=x i/\x i<L)/\(∀i,i<n->L∣x i-(u i+k*v i))/\(∀t,t∣L->(∀i,i<n->t∣x i)->(∀i,i<n->t∣u i)/\∀i,i<n->t∣v i)/\ρ=[some (Qf n u,false),some (Qf n v,false),some (.int L,true),some (.int w,true),some (Qf n x,b4)]) ?_ ?_
  ·refine Qgr (λm ρ=>∃(x:Nat->Int) (k:Nat) (b4:Bool),k+m=T/\(∀i,i<n->0<=x i/\x i<L)/\(∀i,i<n->L∣x i-(u i+k*v i))/\ρ=[some (Qf n u,false),some (Qf n v,false),some (.int L,true),some (.int w,true),some (Qf n x,b4)]) ?_ T _ ⟨u,0,false,by omega,hu,λi hi=>by simp,rfl⟩
   rintro m ρ ⟨x,k,b4,hk,hx,hd,rfl⟩
   obtain⟨g,eg,g0,hg⟩:=hi 1 n (pairF x x) L (by decide)
   have hg:∀t,t∣g↔((∀i,i<n->t∣x i)/\t∣L):=λt=>by
    rw[hg t]
    refine⟨λh=>⟨λi hi=>h.1 0 i (by decide) hi,h.2⟩,λh=>⟨λi j hi hj=>?_,h.2⟩⟩
    match i,hi with
    | 0,_=>exact h.1 j hj
   have back:∀t,t∣L->((∀i,i<n->t∣x i)↔∀i,i<n->t∣u i+k*v i):=λt ht=>by
    constructor
    ·intro h i hi
     have:=Zbf (h i hi) (Int.dvd_trans ht (hd i hi))
     rwa[Int.sub_sub_self]at this
    ·intro h i hi
     have:=ZaC (Int.dvd_trans ht (hd i hi)) (h i hi)
     rwa[ZaF]at this
   obtain⟨r4,v4,d4⟩:∃r:HS.R,Qa 4 [some (Qf n u,false),some (Qf n v,false),some (.int L,true),some (.int w,true),some (Qf n x,b4)]=some r/\r.d=Qf n x:=by cases b4<;>exact⟨_,rfl,rfl⟩
   have ecall:Qj 2 di [] (Qc (QaC (Qc (Qa 4) Qg)) (Qc (Qa 2) Qg)) [some (Qf n u,false),some (Qf n v,false),some (.int L,true),some (.int w,true),some (Qf n x,b4)]=some ⟨.int g,true,[]⟩:=Ql (r:=⟨[Qd 1 n (pairF x x),.int L],r4.fr && true && (true && true),r4.M++[]++([]++[])⟩) ((Qq (Qk0 (Qq v4 (QS _)) (show 1<=64 by decide)) (Qq rfl (QS _))).trans (by rw[d4];rfl)) eg rfl
   refine⟨!decide (g=w),QL (QcY ecall rfl rfl rfl) rfl,λh=>?_,λh=>?_⟩
   ·have e:g=w:=by simpa using h
    refine⟨x,k,b4,hx,hd,λt h1 h2=>?_,rfl⟩
    have:=(hg t).mpr ⟨h2,h1⟩
    rw[e,hwd t]at this
    exact⟨this.1,this.2.1⟩
   ·have e:g≠w:=by simpa using h
    have hkT:k≠T:=λz=>e (Int.dvd_antisymm g0 w0 ((hwd g).mpr (by
     have h1:=(hg g).mp (Int.dvd_refl g)
     have h2:=(back g h1.2).mp h1.1
     rw[z]at h2
     have h3:=hT g h1.2 h2
     exact⟨h3.1,h3.2,h1.2⟩)) ((hg w).mpr (by
     have h1:=(hwd w).mp (Int.dvd_refl w)
     exact⟨(back w h1.2.2).mpr λi hi=>ZaC (h1.1 i hi) (Int.dvd_mul_of_dvd_right (h1.2.1 i hi)),h1.2.2⟩)))
    refine run_seq (Qh (Ql (Qq (QN (List.range n) (QfA v4 d4 rfl rfl) rfl λi hi=>⟨[none,some (.int (x i),true),some (.int (v i),true)],rfl,⟨.int (x i+v i),true,[]⟩,rfl,rfl,rfl⟩) (Qq rfl (QS _))) (hw n _ L hL) rfl) (Qt ?_))
    rw[Qi]
    refine⟨m-1,by omega,λi=>(x i+v i) % L,k+1,true,by omega,λi hi=>⟨ZI _ (by omega),ZE _ hL⟩,λi hi=>?_,rfl⟩
    have h1:=hd i hi
    have h2:L∣(x i+v i)-(x i+v i) % L:=Int.dvd_self_sub_emod
    have:=Zbf h1 h2
    rwa[show x i-(u i+(k:Int)*v i)-(x i+v i-(x i+v i) % L)=(x i+v i) % L-(u i+((k+1:Nat):Int)*v i) by rw[Zaf,ZX];omega]at this
  ·rintro ρ ⟨x,k,b4,hx,hd,hc,rfl⟩
   cases b4
   ·exact QH (Qca rfl ⟨x,k,rfl,hx,hd,hc⟩)
   ·exact QH (Qca rfl ⟨x,k,rfl,hx,hd,hc⟩)
 obtain⟨o,h1,h2⟩:=key
 cases o with
 | rt d fr=>
  obtain⟨x,k,rfl,h⟩:=h2
  exact⟨x,fr,k,by show Option.bind (QiY di dw [some (Qf n u,false),some (Qf n v,false),some (.int L,true),none,none]) outD=_;rw[h1];rfl,h⟩
 | _=>exact h2.elim
noncomputable def QdY(Qch:Den)(Qfy:Den):DS:=(Qe (Qo 2 (Qj 2 Qch [] (Qc (Qa 0) (Qc (dC (.int 0)) Qg)))) (Qe (Qbl (QdN (dC (.int 1)) (dBf QaD (Qc (Qa 0) Qg))) (.nm 3) (Qe (Qo 2 (Qj 3 Qfy [] (Qc (Qa 2) (Qc (Qj 2 Qch [] (Qc (Qa 0) (Qc (Qa 3) Qg))) (Qc (Qa 1) Qg))))) Qp)) (Qe (QP (Qa 2)) Qp)))
structure QrF (n m:Nat) (f:Nat->Nat->Int) (L:Int) (x cc:Nat->Int):Prop where
 bd:∀i,i<n->0<=x i/\x i<L
 mix:∀i,i<n->L∣x i-Qk n λj=>cc j*f i j
 cop:∀t,t∣L->(∀i,i<n->t∣x i)->∀i j,i<n->j<m->t∣f i j
def Qom(d:Den):Prop:=∀(n:Nat) (f:Nat->Nat->Int) (L:Int),0<n->n<=8->0<L->(∀i j,i<n->j<n->0<=f i j/\f i j<L)->∃(x cc:Nat->Int) (fr:Bool),d [Qd n n f,.int L]=some (Qf n x,fr)/\QrF n n f L x cc
theorem Qxh{dl dm:Den}(hl:QhJ dl)(hm:Qlw dm):Qom (Qn 4 (QdY dl dm)):=λn f L n0 n8 hL hf=>by
 have key:Run (QdY dl dm) [some (Qd n n f,false),some (.int L,true),none,none] λo=>match o with | .rt d fr=>∃(x cc:Nat->Int),d=Qf n x/\QrF n n f L x cc | _=>False:=by
  refine run_seq (Qh (Ql rfl (hl n n f 0 n0) rfl) ?_)
  rw[Qi]
  refine QH (QaF (List.range (n-1)) (λk ρ=>∃(x cc:Nat->Int) (b2:Bool) (j3:Option (D×Bool)),QrF n (k+1) f L x cc/\ρ=[some (Qd n n f,false),some (.int L,true),some (Qf n x,b2),j3]) (Qgp rfl rfl (QcA rfl rfl) rfl (by omega) (by omega) (by decide) (by decide)) rfl ⟨λi=>f i 0,λj=>if j=0 then 1 else 0,true,none,⟨λi hi=>hf i 0 hi n0,λi hi=>?_,λt h1 h2 i j hi hj=>?_⟩,rfl⟩ ?_ ?_)
  ·rw[QaS n0,ZK,Zbi];exact Int.dvd_zero _
  ·rw[show j=0 by omega];exact h2 i hi
  ·rintro k k' ρ hk ⟨x,cc,b2,j3,I,rfl⟩
   have hk':k<n-1/\k=k':=by
    obtain⟨h1,h2⟩:=Zg.mp hk
    simp at h1 h2;exact⟨h1,h2⟩
   obtain⟨hkn,rfl⟩:=hk'
   refine⟨[some (Qd n n f,false),some (.int L,true),some (Qf n x,b2),some (.int ((1:Int)+k),true)],rfl,?_⟩
   obtain⟨y,fr,K,em,y1,y2,y3⟩:=hm n x (λi=>f i (k+1)) L hL I.bd
   have eK:(1:Int)+k=((k+1:Nat):Int):=by omega
   obtain⟨r2,v2,d2⟩:∃r:HS.R,Qa 2 [some (Qd n n f,false),some (.int L,true),some (Qf n x,b2),some (.int ((1:Int)+k),true)]=some r/\r.d=Qf n x:=by cases b2<;>exact⟨_,rfl,rfl⟩
   have ecol:Qj 2 dl [] (Qc (Qa 0) (Qc (Qa 3) Qg)) [some (Qd n n f,false),some (.int L,true),some (Qf n x,b2),some (.int ((1:Int)+k),true)]=some ⟨Qf n λi=>f i (k+1),true,[]⟩:=Ql (r:=⟨[Qd n n f,.int ((k+1:Nat):Int)],false,[]⟩) (by rw[← eK];rfl) (hl n n f (k+1) (by omega)) rfl
   have ecl:=QjG (fs:=Qc (Qa 2) (Qc (Qj 2 dl [] (Qc (Qa 0) (Qc (Qa 3) Qg))) (Qc (Qa 1) Qg))) (r:=⟨[Qf n x,Qf n λi=>f i (k+1),.int L],r2.fr && (true && (true && true)),r2.M++([]++([]++[]))⟩) ((Qq v2 (Qq ecol (Qq rfl (QS _)))).trans (by rw[d2])) em rfl
   refine run_seq (Qh ecl (Qt ?_))
   refine⟨y,λj=>cc j+(if j=k+1 then(K:Int)else 0),fr,some (.int ((1:Int)+k),true),⟨y1,λi hi=>?_,λt h1 h2 i j hi hj=>?_⟩,?_⟩
   ·have h1:=y2 i hi
    have h2:=I.mix i hi
    have:=ZaC h1 h2
    rw[Qm λj _=>ZX _ _ _,QaJ,QaS (by omega)]
    rwa[show y i-(x i+(K:Int)*f i (k+1))+(x i-Qk n λj=>cc j*f i j)=y i-((Qk n λj=>cc j*f i j)+(K:Int)*f i (k+1)) by omega]at this
   ·obtain⟨h3,h4⟩:=y3 t h1 h2
    by_cases e:j=k+1
    ·rw[e];exact h4 i hi
    ·exact I.cop t h1 h3 i j hi (by omega)
   ·cases fr
    ·cases b2
     ·have:r2=⟨Qf n x,false,[]⟩:=by injection v2 with z;exact z.symm
      rw[this];rfl
     ·have:r2=⟨Qf n x,true,[2]⟩:=by injection v2 with z;exact z.symm
      rw[this];rfl
    ·rfl
  ·rintro ρ ⟨x,cc,b2,j3,I,rfl⟩
   rw[Zo,show n-1+1=n by omega]at I
   cases b2
   ·exact QH (Qca rfl ⟨x,cc,rfl,I⟩)
   ·exact QH (Qca rfl ⟨x,cc,rfl,I⟩)
 obtain⟨o,h1,h2⟩:=key
 cases o with
 | rt d fr=>
  obtain⟨x,cc,rfl,h⟩:=h2
  exact⟨x,cc,fr,by show Option.bind (QdY dl dm [some (Qd n n f,false),some (.int L,true),none,none]) outD=_;rw[h1];rfl,h⟩
 | _=>exact h2.elim
theorem Qnz{fa:DE}{ρ:En}{ra:HS.R}{n m:Nat}{f:Nat->Nat->Int}(ha:fa ρ=some ra)(ea:ra.d=Qd n m f):QgZ fa ρ=some ⟨(List.range n).map λ(i:Nat)=> .tup [.int i,Qf m (f i)],ra.M⟩:=by
 unfold QgZ
 rw[ha,Za,ea]
 have:Qft ((List.range n).map λi=>Qf m (f i))=(List.range n).map λ(i:Nat)=>D.tup [.int i,Qf m (f i)]:=by
  unfold Qft
  refine List.ext_getElem (by simp) λi h1 h2=>?_
  simp
 show some (IR.mk (Qft ((List.range n).map λi=>Qf m (f i))) ra.M)=_
 rw[this]
theorem QtM{x n N k:Nat}{g:Nat->Nat->Int}{p:Nat->Int}{fi fa:DE}{ρ:En}{Q:Out->Prop}(hx:ρ[x]? =some (some (Qd n N g,true)))(hi:fi ρ=some ⟨.int k,true,[]⟩)(ha:fa ρ=some ⟨Qf N p,true,[]⟩)(hk:k<n)
  (q:Q (.nx (ρ.set x (some (Qd n N (λi j=>if i=k then p j else g i j),true))))):Run (Qcj x Qal fi fa) ρ Q:=by
 refine⟨_,?_,q⟩
 unfold Qcj
 rw[ha,Za,hx]
 have hn:(HS.R.mk (Qf N p) true []).norm=⟨Qf N p,true,[]⟩:=by unfold R.norm Qf;rfl
 simp only[Qal,Za,hi,Qd,Qa9,Zs,Zo,hn]
 rw[Qb5 (show(0:Int)<=k by omega) (by omega)]
 simp only[Za,ZL]
 rw[QeO hk]
 simp[kill,Qbt]
theorem QyT{n:Nat}(hn:n<=8):bnd (2^240) n<2^1999:=by
 have h:∀k,k<9->bnd (2^240) k<2^1999:=by decide+kernel
 exact h n (by omega)
theorem Qdm.QwV{n N k:Nat}{A m R:Nat->Nat->Int}{d:Int}(h:Qdm n N k A m R d)(hn:n<=8)(hA:∀j,j<N->∀r,r<n->(A j r).natAbs<=2^240):d.natAbs<2^1999/\∀i j,i<n->j<N->(R i j).natAbs<2^1999:=by
 have b:=QyT hn
 refine⟨?_,λi j hi hj=>?_⟩
 ·rw[← h.clr.det];exact ZR (Qdb h.col) b
 ·rw[h.clr.ent i j hi hj];exact ZR (Qdb (h.col.put (hA j hj))) b
noncomputable def Qh5(QbG:Den)(Qby:Den):DS:=(Qe (Qo 1 (dBf QaD (Qc (Qa 0) Qg))) (Qe (Qo 2 (Qj 1 Qby [] (Qc (QM (QgZ (Qa 0)) (.tp [1,2]) [none,none,none,some 1] QW (QQ (Qa 2) (Qj 2 QbG [] (Qc (Qa 3) (Qc (Qa 1) Qg))))) Qg))) (Qe (QP (Qat (Qc (QM (QY (Qr (Qa 2) (dC (.int 0)))) (.nm 1) [none,none,some 1] QW (QcI (Qa 1) (Qbw (Qa 2)) Qbv)) (Qc (Qr (Qa 2) (dC (.int 1))) Qg)))) Qp)))
def Qmg(d:Den):Prop:=∀(n:Nat) (f:Nat->Nat->Int),n<=8->(∀i j,i<n->j<n->(f i j).natAbs<=2^240)->(det n λj i=>f i j)≠0->∃P:Nat->Nat->Int,d [Qd n n f]=some (.tup [Qd n n P,.int (det n λj i=>f i j)],true)/\(∀i j,i<n->j<n->prodF n f P i j=(det n λj i=>f i j)*idF i j)/\(∀i j,i<n->j<n->(P i j).natAbs<2^1999)/\(det n λj i=>f i j).natAbs<2^1999
theorem Qt7{du dc:Den}(hu:Qla du)(hc:QgO dc):Qmg (Qn 3 (Qh5 du dc)):=λn f n8 hf hd=>by
 obtain⟨A,hA⟩:∃A:Nat->Nat->Int,A=λj r=>if j<n then f r j else if j-n=r then 1 else 0:=⟨_,rfl⟩
 have aLow:∀j r,j<n->A j r=f r j:=λj r hj=>by rw[hA];show(if j<n then _ else _)=_;rw[if_pos hj]
 have aUp:∀c r,A (n+c) r=idF c r:=λc r=>by rw[hA];show(if n+c<n then _ else if n+c-n=r then 1 else 0)=_;rw[if_neg (by omega),show n+c-n=c by omega];rfl
 have bA:∀j,j<n+n->∀r,r<n->(A j r).natAbs<=2^240:=λj hj r hr=>by
  by_cases z:j<n
  ·rw[aLow j r z];exact hf r j hr z
  ·rw[show j=n+(j-n) by omega,aUp];unfold idF;split<;>decide
 have dA:det n A=det n λj i=>f i j:=QA λj hj r _=>aLow j r hj
 obtain⟨m,R,b,ec,C⟩:=hc n (n+n) A n8 (by omega) bA (by rw[dA];exact hd)
 obtain⟨sb,sR⟩:=C.QwV n8 bA
 have hb:b=det n λj i=>f i j:=by rw[← dA];exact C.clr.all
 subst hb
 refine⟨λi j=>R i (n+j),QX ?_,λi j hi hj=>?_,λi j hi hj=>sR i (n+j) hi (by omega),sb⟩
 ·refine run_seq (Qh (QcA rfl rfl) ?_)
  rw[Qi]
  have et:Qd n (n+n) (λi j=>A j i)= .lst ((List.range n).map λi=>Qf (n+n) λj=>if j<n then f i j else(λk=>if k=i then 1 else 0) (j-n)):=by
   unfold Qd
   refine congrArg D.lst (ZO λi _=>Qi3 λj _=>?_)
   rw[hA]
  refine run_seq (Qh ((Qf5 (Qq (r:=⟨Qd n (n+n) λi j=>A j i,true,[]⟩) ?_ (QS _)) ec rfl).trans rfl) ?_)
  ·rw[et]
   exact QN (List.range n) (Qnz rfl rfl) rfl λi _=>⟨[none,some (.int i,true),some (Qf n (f i),false),some (.int n,true)],rfl,⟨Qf (n+n) λj=>if j<n then f i j else(λk=>if k=i then 1 else 0) (j-n),true,[]⟩,Qvd (g:=λk=>if k=i then 1 else 0) rfl rfl (Ql rfl (hu n i (by omega)) rfl) rfl (by omega),rfl,rfl⟩
  ·refine QC (r:=⟨.tup [Qd n n λi j=>R i (n+j),.int (det n λj i=>f i j)],true,[]⟩) ?_ ⟨rfl,rfl⟩
   have e1:QM (QY (Qr (Qa 2) (dC (.int 0)))) (.nm 1) [none,none,some 1] QW (QcI (Qa 1) (Qbw (Qa 2)) Qbv) [some (Qd n n f,false),some (.int n,true),some (.tup [Qd n (n+n) R,.int (det n λj i=>f i j)],false)]=some ⟨Qd n n λi j=>R i (n+j),true,[]⟩:=
    QN (List.range n) (Q0 rfl rfl) rfl λi _=>⟨[none,some (Qf (n+n) (R i),false),some (.int n,true)],rfl,⟨Qf n λj=>R i (n+j),true,[]⟩,(QnS rfl rfl rfl rfl (by omega)).trans (by rw[show n+n-n=n by omega]),rfl,rfl⟩
   change Qat (Qc (QM (QY (Qr (Qa 2) (dC (.int 0)))) (.nm 1) [none,none,some 1] QW (QcI (Qa 1) (Qbw (Qa 2)) Qbv)) (Qc (Qr (Qa 2) (dC (.int 1))) Qg)) [some (Qd n n f,false),some (.int n,true),some (.tup [Qd n (n+n) R,.int (det n λj i=>f i j)],false)]=_
   unfold Qat
   rw[Qq e1 (Qq rfl (QS _))]
   rfl
 ·have t:=C.clr.tell (j:=n+j) (by omega) hi
  rw[aUp]at t
  have e:idF j i=idF i j:=by
   unfold idF
   by_cases z:i=j
   ·rw[if_pos z,if_pos z.symm]
   ·rw[if_neg z,if_neg (Ne.symm z)]
  rw[← e,t,QdP]
  exact Qm λl hl=>by rw[C.clr.own l hl,aLow l i hl,ZV]
theorem RT.start{n:Nat}{A P:Nat->Nat->Int}{w W:Int}(hW:0<W)(hw:W∣w)(hA:∀i j,i<n->j<n->prodF n A P i j=w*idF i j):RT n n A P W 1 W idF idF P λ_=>1:=by
 have u:Qan n idF idF:=λi j hi hj=>Qas _ _ hi
 refine⟨Zh n,u,u,hW,ZK W,λi j h1 h2=>by omega,λi j hi hj=>?_,λi j hi hj=>?_,λ_ _=>rfl,λj h1 h2=>by omega,λi j h1 h2=>by omega,λi j h1 h2=>by omega,λj h1 h2=>by omega,λh=>by omega⟩
 ·rw[Qae (a':=A) (b':=P) (λk hk=>Qd9 A i hk) (λ_ _=>rfl),hA i j hi hj]
  exact Zay hw
 ·rw[Qas P j hi,ZK,Zbi];exact Int.dvd_zero _
noncomputable def QdK(Qaj:Den)(Qa3:Den)(Qci:Den)(QcK:Den)(Qb6:Den)(QbU:Den)(QaW:Den):DS:=(Qe (Qo 2 (dBf QaD (Qc (Qa 0) Qg))) (Qe (Qo 3 (Qj 1 Qaj [] (Qc (Qa 2) Qg))) (Qe (Qo 4 (Qj 1 Qaj [] (Qc (Qa 2) Qg))) (Qe (Qo 5 (Qav (QaC (Qc (dC (.int 1)) Qg)) (Qa 2))) (Qe (Qo 6 (Qaf (Qa 0))) (Qe (Qo 7 (dBf Qis (Qc (Qa 1) Qg))) (Qe (Qbl (Qhn (dOp Qa6 (Qa 2) (dC (.int 1))) (Qlz (dC (.int 1))) (Qlz (dC (.int 1)))) (.nm 8) (Qe (Qo 9 (Qj 2 Qa3 [] (Qc (Qa 6) (Qc (Qa 7) Qg)))) (Qe (Qo 7 (dOp QbF (Qa 7) (Qa 9))) (Qe (sIf (QO (dOp gEq (Qa 7) (dC (.int 1)))) (Qe QrV Qp) Qp) (Qe (Qo 6 (QM (QY (Qa 6)) (.nm 1) [none,none,some 7,some 9] QW (Qj 2 QcK [] (Qc (Qj 2 Qci [] (Qc (Qa 1) (Qc (Qa 3) Qg))) (Qc (Qa 2) Qg))))) (Qe (Qcj 5 Qal (Qa 8) (Qa 7)) (Qe (Qo 10 (Qj 2 QbU [] (Qc (Qj 2 Qb6 [] (Qc (Qa 6) (Qc (Qa 7) Qg))) (Qc (Qa 8) Qg)))) (Qe (Qo 3 (Qj 2 QaW [] (Qc (Qa 3) (Qc (Qr (Qa 10) (dC (.int 1))) Qg)))) (Qe (Qo 4 (Qj 2 QaW [] (Qc (Qr (Qa 10) (dC (.int 0))) (Qc (Qa 4) Qg)))) (Qe (Qo 6 (Qj 2 QaW [] (Qc (Qr (Qa 10) (dC (.int 0))) (Qc (Qa 6) Qg)))) (Qe (Qcj 6 Qal (Qa 8) (Qav (QaC (Qc (dC (.int 0)) Qg)) (Qa 2))) Qp))))))))))) (Qe (QP (Qat (Qc (Qa 3) (Qc (Qa 4) (Qc (Qa 5) Qg))))) Qp))))))))
def QaI(n k:Nat)(f:Nat->Nat->Int):Prop:=∀i j,i<n->j<n->(f i j).natAbs<=2^k
theorem QaI.bits{n k:Nat}{f:Nat->Nat->Int}(h:QaI n k f)(hk:k<2^20):Qnk n f:=λi j hi hj=>QnT (k:=k+1) (by
 have:=h i j hi hj
 have:(2:Nat)^k<2^(k+1):=Nat.pow_lt_pow_right (by decide) (by omega)
 omega) (by omega)
theorem QaI.prod{n k l:Nat}{f g:Nat->Nat->Int}(hn:n<=8)(h1:QaI n k f)(h2:QaI n l g):QaI n (k+l+3) (prodF n f g):=λi j hi hj=>by
 have h:(prodF n f g i j).natAbs<=n*2^(k+l):=QuN λm hm=>by
  rw[Zaa,Nat.pow_add]
  exact Zbe (h1 i m hi hm) (h2 m j hm hj)
 have h3:n*2^(k+l)<=8*2^(k+l):=ZbF _ hn
 have h4:(2:Nat)^(k+l+3)=8*2^(k+l):=by rw[Nat.pow_add,ZaQ]
 omega
theorem QaI.mono{n k l:Nat}{f:Nat->Nat->Int}(h:QaI n k f)(hk:k<=l):QaI n l f:=λi j hi hj=>Zi (h i j hi hj) (ZD (by decide) hk)
theorem QaI.id(n k:Nat):QaI n k idF:=λi j _ _=>by
 have:0<(2:Nat)^k:=Nat.pow_pos (by decide)
 unfold idF
 split
 ·show 1<=_;omega
 ·exact Zac _
def Qlp(d:Den):Prop:=∀(n:Nat) (A P:Nat->Nat->Int) (w:Int),0<n->n<=8->w≠0->w.natAbs<2^1999->(∀i j,i<n->j<n->prodF n A P i j=w*idF i j)->∃(R Rb:Nat->Nat->Int) (len:Nat->Int),d [Qd n n P,.int w]=some (.tup [Qd n n R,Qd n n Rb,Qf n len],true)/\Qi0 n A P (w.natAbs:Int) R Rb len/\QaI n 130000 R/\QaI n 130000 Rb/\∀j,j<n->(len j).natAbs<2^1999
structure RTI (n k:Nat) (A P:Nat->Nat->Int) (W c L:Int) (R Rb S:Nat->Nat->Int) (len:Nat->Int):Prop where
 kn:k<=n
 rt:RT n (n-k) A P W c L R Rb S len
 bR:QaI n (16003*k) R
 bB:QaI n (16003*k) Rb
 Ll:L<2^1999
 ll:∀j,j<n->(len j).natAbs<2^1999
theorem Qus{du di ds dw df dc dp:Den}(hu:Qg9 du)(hi:QiX di)(hs:QhE ds)(hw:QhN dw)(hf:Qom df)(hc:QlJ dc)(hp:Qgt dp):Qlp (Qn 11 (QdK du di ds dw df dc dp)):=λn A P w n0 n8 w0 wl hA=>by
 obtain⟨W,hW⟩:∃W:Int,W=w.natAbs:=⟨_,rfl⟩
 have W0:0<W:=by omega
 have Ww:W∣w:=by rw[hW];exact Int.natAbs_dvd.mpr (Int.dvd_refl w)
 have Wl:W<2^1999:=by rw[hW];exact_mod_cast wl
 rw[← hW]
 have key:Run (QdK du di ds dw df dc dp) [some (Qd n n P,false),some (.int w,true),none,none,none,none,none,none,none,none,none] λo=>match o with | .rt d fr=>fr=true/\∃(R Rb:Nat->Nat->Int) (len:Nat->Int),d= .tup [Qd n n R,Qd n n Rb,Qf n len]/\Qi0 n A P W R Rb len/\QaI n 130000 R/\QaI n 130000 Rb/\(∀j,j<n->(len j).natAbs<2^1999) | _=>False:=by
  refine run_seq (Qh (QcA (n:=n) (m:=n) (f:=P) (r:=⟨Qd n n P,false,[]⟩) rfl rfl) ?_)
  rw[Qi]
  refine run_seq (Qh (r:=⟨Qd n n idF,true,[]⟩) (Ql (r:=⟨[.int n],true,[]⟩) rfl (hu n (by omega)) rfl) ?_)
  rw[Qi]
  refine run_seq (Qh (r:=⟨Qd n n idF,true,[]⟩) (Ql (r:=⟨[.int n],true,[]⟩) rfl (hu n (by omega)) rfl) ?_)
  rw[Qi]
  refine run_seq (Qh (Qh7 (n:=n) (z:=1) (r:=⟨.int n,true,[]⟩) rfl rfl (by omega)) ?_)
  rw[Qi]
  refine run_seq (Qh (QaA (r:=⟨Qd n n P,false,[]⟩) rfl) ?_)
  refine run_seq (Qh (r:=⟨.int W,true,[]⟩) ?_ ?_)
  ·show some (HS.R.mk (.int (if w<0 then-w else w)) true [])=_
   rw[hW,show(if w<0 then-w else w)=(w.natAbs:Int) by split<;>omega]
  rw[Qi]
  change Nx _ (.nx [some (Qd n n P,false),some (.int w,true),some (.int n,true),some (Qd n n idF,true),some (Qd n n idF,true),some (Qf n λ_=>1,true),some (Qd n n P,false),some (.int W,true),none,none,none])
  refine Qar (P:=λρ=>∃(R Rb:Nat->Nat->Int) (len:Nat->Int) (j6 j7 j8 j9 j10:Option (D×Bool)),Qi0 n A P W R Rb len/\QaI n 130000 R/\QaI n 130000 Rb/\(∀j,j<n->(len j).natAbs<2^1999)/\ρ=[some (Qd n n P,false),some (.int w,true),some (.int n,true),some (Qd n n R,true),some (Qd n n Rb,true),some (Qf n len,true),j6,j7,j8,j9,j10]) ?_ ?_
  ·refine QaF (toD:=λ(k:Nat)=> .int ((n:Int)-1-k)) (List.range n) (λk ρ=>∃(R Rb S:Nat->Nat->Int) (len:Nat->Int) (c L:Int) (b6:Bool) (j8 j9 j10:Option (D×Bool)),RTI n k A P W c L R Rb S len/\ρ=[some (Qd n n P,false),some (.int w,true),some (.int n,true),some (Qd n n R,true),some (Qd n n Rb,true),some (Qf n len,true),some (Qd n n S,b6),some (.int L,true),j8,j9,j10]) (Qs3 (n:=n) (QfP (a:=n) (b:=1) (ra:=⟨.int n,true,[]⟩) rfl rfl rfl rfl) rfl (rb:=⟨.int (-1),true,[]⟩) rfl rfl (rc:=⟨.int (-1),true,[]⟩) rfl rfl (by omega)) rfl ⟨idF,idF,P,λ_=>1,1,W,false,none,none,none,⟨by omega,by rw[Zbw];exact RT.start W0 Ww hA,QaI.id n _,QaI.id n _,Wl,λj hj=>by show(1:Int).natAbs<2^1999;exact Zu (by decide) (ZD (n:=2) (by decide) (show 1<=1999 by decide))⟩,rfl⟩ ?_ ?_
   ·rintro k k' ρ hk ⟨R,Rb,S,len,c,L,b6,j8,j9,j10,I,rfl⟩
    have hk':k<n/\k=k':=by
     obtain⟨h1,h2⟩:=Zg.mp hk
     simp at h1 h2;exact⟨h1,h2⟩
    obtain⟨hkn,rfl⟩:=hk'
    obtain⟨last,hlast⟩:∃last,last=n-1-k:=⟨_,rfl⟩
    have el:(n:Int)-1-k=(last:Int):=by omega
    have ek:n-k=last+1:=by omega
    have hln:last<n:=by omega
    obtain⟨kn,rt,bR,bB,Ll,ll⟩:=I
    rw[ek]at rt
    refine⟨[some (Qd n n P,false),some (.int w,true),some (.int n,true),some (Qd n n R,true),some (Qd n n Rb,true),some (Qf n len,true),some (Qd n n S,b6),some (.int L,true),some (.int (last:Int),true),j9,j10],by rw[el];rfl,?_⟩
    obtain⟨part,ep,p0,hpd⟩:=hi n n S L (by omega)
    have pp:=(hpd part).mp (Int.dvd_refl part)
    have L0:=rt.L0
    obtain⟨L',eL⟩:=pp.2
    have pz:part≠0:=λz=>by rw[z,Zy]at eL;omega
    have p1:0<part:=by omega
    have pL:part.natAbs<2^2000:=by
     have h1:=Int.le_of_dvd L0 pp.2
     have h2:(2:Int)^1999<2^2000:=by decide
     have h3:((part.natAbs:Nat):Int)<((2^2000:Nat):Int):=by rw[Int.natAbs_of_nonneg p0];push_cast;omega
     omega
    have L0':0<L':=by
     refine Zah λz=>?_
     have:=Zbm (a:=part) (b:=L') (by omega) (by omega)
     omega
    have Ll':L'<2^1999:=by
     have:L'<=L:=by
      have:=ZaE (show 1<=part by omega) (show 0<=L' by omega)
      omega
     omega
    have ll':L'.natAbs<2^1999:=by
     have h3:((L'.natAbs:Nat):Int)<((2^1999:Nat):Int):=by rw[Int.natAbs_of_nonneg (by omega)];push_cast;omega
     omega
    obtain⟨r6,v6,d6⟩:∃r:HS.R,Qa 6 [some (Qd n n P,false),some (.int w,true),some (.int n,true),some (Qd n n R,true),some (Qd n n Rb,true),some (Qf n len,true),some (Qd n n S,b6),some (.int L,true),some (.int (last:Int),true),j9,j10]=some r/\r.d=Qd n n S:=by cases b6<;>exact⟨_,rfl,rfl⟩
    refine run_seq (Qh (r:=⟨.int part,true,[]⟩) (Ql (r:=⟨[Qd n n S,.int L],r6.fr && (true && true),r6.M++([]++[])⟩) ((Qq v6 (Qq rfl (QS _))).trans (by rw[d6])) ep rfl) ?_)
    rw[Qi]
    refine run_seq (Qh (Qez rfl rfl rfl rfl pz pL eL) ?_)
    rw[Qi]
    change Nx _ (.nx [some (Qd n n P,false),some (.int w,true),some (.int n,true),some (Qd n n R,true),some (Qd n n Rb,true),some (Qf n len,true),some (Qd n n S,b6),some (.int L',true),some (.int (last:Int),true),some (.int part,true),j10])
    have hS:=λi j (hi:i<n) (hj:j<n)=>pp.1 i j hi hj
    refine QH (Qaa (QL (Qa0 rfl rfl rfl rfl) rfl) (λh=>?_) (λh=>Qt ?_))
    ·have h1:L'=1:=of_decide_eq_true h
     have:L=part:=by rw[eL,h1,Zab]
     refine QH ⟨_,rfl,R,Rb,len,_,_,_,_,_,rt.stop λi j hi hj=>by rw[this];exact hS i j hi hj,bR.mono (by omega),bB.mono (by omega),ll,rfl⟩
    have hone:L'≠1:=of_decide_eq_false h
    have hSq:∀i j,i<n->j<n->S i j=part*(S i j / part):=λi j hi hj=>(Int.mul_ediv_cancel' (hS i j hi hj)).symm
    obtain⟨r6',v6',d6'⟩:∃r:HS.R,Qa 6 [some (Qd n n P,false),some (.int w,true),some (.int n,true),some (Qd n n R,true),some (Qd n n Rb,true),some (Qf n len,true),some (Qd n n S,b6),some (.int L',true),some (.int (last:Int),true),some (.int part,true),j10]=some r/\r.d=Qd n n S:=by cases b6<;>exact⟨_,rfl,rfl⟩
    refine run_seq (Qh (QN (List.range n) (Q0 v6' d6') rfl λi hi=>⟨[none,some (Qf n (S i),false),some (.int L',true),some (.int part,true)],rfl,⟨Qf n λj=>S i j / part % L',true,[]⟩,Ql (Qq (Ql (r:=⟨[Qf n (S i),.int part],false,[]⟩) rfl (hs n (S i) (λj=>S i j / part) part pz pL λj hj=>hSq i j (Zk.mp hi) hj) rfl) (Qq (r:=⟨.int L',true,[]⟩) rfl (QS _))) (hw n _ L' L0') rfl,rfl,rfl⟩) ?_)
    rw[Qi]
    refine run_seq (Qoi rfl rfl rfl rfl rfl (by omega) (by omega) ?_)
    rw[ZL]
    change Nx _ (.nx [some (Qd n n P,false),some (.int w,true),some (.int n,true),some (Qd n n R,true),some (Qd n n Rb,true),some (Qf n (up len last L'),true),some (Qd n n λi j=>S i j / part % L',true),some (.int L',true),some (.int (last:Int),true),some (.int part,true),j10])
    have bS1:∀i j,i<n->j<n->0<=S i j / part % L'/\S i j / part % L'<L':=λi j _ _=>⟨ZI _ (by omega),ZE _ L0'⟩
    obtain⟨x,cc,fr,ef,FI⟩:=hf n (λi j=>S i j / part % L') L' n0 n8 L0' bS1
    obtain⟨T,B,g,ec,sp,bT,bBk⟩:=hc n last x hln n8 λi hi=>⟨(FI.bd i hi).1,by have:=(FI.bd i hi).2;omega⟩
    have hz:∀i j,last<i->i<n->j<n->S i j / part % L'=0:=λi j h1 h2 h3=>by rw[rt.low i j (by omega) h2 h3];simp
    have rt':=rt.step p1 eL hSq (λi j _ _=>Int.dvd_self_sub_emod) hz (λt h1 h2=>by
     have a1:part*t∣part:=(hpd (part*t)).mpr ⟨λi j hi hj=>by rw[hSq i j hi hj];exact Int.mul_dvd_mul_left part (h2 i j hi hj),by rw[eL];exact Int.mul_dvd_mul_left part h1⟩
     have a2:t∣1:=Int.dvd_of_mul_dvd_mul_left pz (by rw[Zab];exact a1)
     have:=Zav.mpr a2
     exact Nat.eq_one_of_dvd_one this) FI.mix (λi h1 h2=>by
     have a1:=FI.mix i h2
     rw[Qm λj hj=>by rw[hz i j h1 h2 hj,Zz],Qbu,Int.sub_zero]at a1
     have a2:=FI.bd i h2
     rw[← Zbx a2.1 a2.2];exact Int.emod_eq_zero_of_dvd a1) FI.cop sp
    have ecf:=QjG (fs:=Qc (Qa 6) (Qc (Qa 7) Qg)) (ρ:=[some (Qd n n P,false),some (.int w,true),some (.int n,true),some (Qd n n R,true),some (Qd n n Rb,true),some (Qf n (up len last L'),true),some (Qd n n λi j=>S i j / part % L',true),some (.int L',true),some (.int (last:Int),true),some (.int part,true),j10]) rfl ef rfl
    have efree:∃r:HS.R,Qj 2 df [] (Qc (Qa 6) (Qc (Qa 7) Qg)) [some (Qd n n P,false),some (.int w,true),some (.int n,true),some (Qd n n R,true),some (Qd n n Rb,true),some (Qf n (up len last L'),true),some (Qd n n λi j=>S i j / part % L',true),some (.int L',true),some (.int (last:Int),true),some (.int part,true),j10]=some r/\r.d=Qf n x:=by
     cases fr
     ·exact⟨_,ecf,rfl⟩
     ·exact⟨_,ecf,rfl⟩
    obtain⟨rf,vf,dfx⟩:=efree
    refine run_seq (Qh (Ql (r:=⟨[Qf n x,.int last],rf.fr && (true && true),rf.M++([]++[])⟩) ((Qq vf (Qq rfl (QS _))).trans (by rw[dfx])) ec rfl) ?_)
    rw[Qi]
    change Nx _ (.nx [some (Qd n n P,false),some (.int w,true),some (.int n,true),some (Qd n n R,true),some (Qd n n Rb,true),some (Qf n (up len last L'),true),some (Qd n n λi j=>S i j / part % L',true),some (.int L',true),some (.int (last:Int),true),some (.int part,true),some (.tup [Qd n n T,Qd n n B],true)])
    have BT:QaI n 16000 T:=bT
    have BB:QaI n 16000 B:=bBk
    have kk:16003*k+16000+3=16003*(k+1):=by omega
    have B1:QaI n 1999 λi j=>S i j / part % L':=λi j hi hj=>by
     show(S i j / part % L').natAbs<=2^1999
     have h3:(((S i j / part % L').natAbs:Nat):Int)<((2^1999:Nat):Int):=by rw[Int.natAbs_of_nonneg (bS1 i j hi hj).1];push_cast;have:=(bS1 i j hi hj).2;omega
     omega
    refine run_seq (Qh (Ql rfl (hp n R B (by omega) (bR.bits (by omega)) (BB.bits (by decide))) rfl) ?_)
    rw[Qi]
    refine run_seq (Qh (Ql rfl (hp n T Rb (by omega) (BT.bits (by decide)) (bB.bits (by omega))) rfl) ?_)
    rw[Qi]
    refine run_seq (Qh (Ql rfl (hp n T _ (by omega) (BT.bits (by decide)) (B1.bits (by decide))) rfl) ?_)
    rw[Qi]
    change Nx _ (.nx [some (Qd n n P,false),some (.int w,true),some (.int n,true),some (Qd n n (prodF n R B),true),some (Qd n n (prodF n T Rb),true),some (Qf n (up len last L'),true),some (Qd n n (prodF n T λi j=>S i j / part % L'),true),some (.int L',true),some (.int (last:Int),true),some (.int part,true),some (.tup [Qd n n T,Qd n n B],true)])
    refine run_seq (QtM rfl rfl (Qh7 rfl rfl (by omega)) hln (Qt ?_))
    refine⟨_,_,_,up len last L',c*part,L',true,_,_,_,⟨by omega,?_,?_,?_,Ll',λj hj=>?_⟩,rfl⟩
    ·rw[show n-(k+1)=last by omega];exact rt'
    ·rw[← kk];exact bR.prod n8 BB
    ·rw[← kk,show 16003*k+16000+3=16000+16003*k+3 by omega];exact BT.prod n8 bB
    ·rw[Qhd]
     split
     ·exact ll'
     ·exact ll j hj
   ·rintro ρ ⟨R,Rb,S,len,c,L,b6,j8,j9,j10,I,rfl⟩
    rw[Zo]at I
    obtain⟨kn,rt,bR,bB,Ll,ll⟩:=I
    rw[Nat.sub_self]at rt
    exact⟨R,Rb,len,_,_,_,_,_,rt.done,bR.mono (by omega),bB.mono (by omega),ll,rfl⟩
  ·rintro ρ ⟨R,Rb,len,j6,j7,j8,j9,j10,rg,b1,b2,ll,rfl⟩
   exact QC rfl ⟨rfl,R,Rb,len,rfl,rg,b1,b2,ll⟩
 obtain⟨o,h1,h2⟩:=key
 cases o with
 | rt d fr=>
  obtain⟨rfl,R,Rb,len,rfl,h⟩:=h2
  exact⟨R,Rb,len,by show Option.bind (QdK du di ds dw df dc dp [some (Qd n n P,false),some (.int w,true),none,none,none,none,none,none,none,none,none]) outD=_;rw[h1];rfl,h⟩
 | _=>exact h2.elim
theorem QwT{n:Nat}{m:Nat->Nat->Int}{y:Nat->Int}(hd:det n m≠0)(h:∀r,r<n->sm n (λl=>y l*m l r)=0):∀k,k<n->y k=0:=λk hk=>by
 have e1:det n (cup m k λr=>sm n λl=>y l*m l r)=y k*det n m:=by
  rw[QeH hk y m n,QdU hk λi hi ne=>by rw[Qeq hi hk ne (by rw[Qw,Qu _ _ ne]),Zz],Q2]
 have e2:det n (cup m k λr=>sm n λl=>y l*m l r)=0:=by
  rw[QA (k:=cup m k λr=>0*m k r) λj hj r hr=>by
   by_cases e:j=k
   ·subst e;rw[Qw,Qw,h r hr,Zy]
   ·rw[Qu _ _ e,Qu _ _ e],QdC hk,Zy]
 rw[e2]at e1
 rcases Int.mul_eq_zero.mp e1.symm with z | z
 ·exact z
 ·exact absurd z hd
theorem QsI{n:Nat}{A P:Nat->Nat->Int}{w:Int}(hd:(det n λj i=>A i j)≠0)(h:∀i j,i<n->j<n->prodF n A P i j=w*idF i j):∀i j,i<n->j<n->prodF n P A i j=w*idF i j:=λi j hi hj=>by
 have:=QwT hd (λr hr=>by
  rw[QdP]
  have e1:(Qk n λl=>(prodF n P A l j-w*idF l j)*A r l)=prodF n A (prodF n P A) r j-w*prodF n A idF r j:=by
   unfold prodF
   rw[← Q7,← QjF]
   exact Qm λl _=>by grind
  rw[e1,← Q8,Qae (a':=λi j=>w*idF i j) (b':=A) (λk hk=>h r k hr hk) (λ_ _=>rfl),Qd9 _ _ hj]
  have e2:prodF n (λi j=>w*idF i j) A r j=w*prodF n idF A r j:=by
   unfold prodF
   rw[← Q7]
   exact Qm λl _=>ZF _ _ _
  rw[e2,Qas _ _ hr,Zbi]) i hi
 omega
structure Qfs (n:Nat) (f Lf R Lb Rb:Nat->Nat->Int) (len:Nat->Int):Prop where
 u1:Qan n R Rb
 u2:Qan n Rb R
 v1:Qan n Lf Lb
 v2:Qan n Lb Lf
 mid:∀i j,i<n->j<n->prodF n (prodF n Lf f) R i j=len i*idF i j
 pos:∀j,j<n->0<len j
 nxt:∀j,j+1<n->len j∣len (j+1)
theorem Qun{n:Nat}{f P R Rb Lf Lb:Nat->Nat->Int}{w W:Int}{len:Nat->Int}(w0:w≠0)(hd:(det n λj i=>f i j)≠0)(hP:∀i j,i<n->j<n->prodF n f P i j=w*idF i j)(rg:Qi0 n f P W R Rb len)
  (hL:∀i j,i<n->j<n->len i*prodF n Rb P i j=w*Lf i j) (hB:∀i j,i<n->j<n->prodF n f R i j=len j*Lb i j):Qfs n f Lf R Lb Rb len:=by
 have hPA:=QsI hd hP
 have key:∀i j,i<n->j<n->prodF n (prodF n Rb P) (prodF n f R) i j=w*idF i j:=λi j hi hj=>by
  rw[Q8,← Q8 n P f R,Qae (a':=Rb) (b':=λi j=>w*R i j) (λ_ _=>rfl) λk hk=>?_]
  ·have:prodF n Rb (λi j=>w*R i j) i j=w*prodF n Rb R i j:=by
    unfold prodF
    rw[← Q7]
    exact Qm λl _=>ZM _ _ _
   rw[this,rg.u2 i j hi hj]
  ·rw[Qae (a':=λi j=>w*idF i j) (b':=R) (λl hl=>hPA k l hk hl) (λ_ _=>rfl)]
   have:prodF n (λi j=>w*idF i j) R k j=w*prodF n idF R k j:=by
    unfold prodF
    rw[← Q7]
    exact Qm λl _=>ZF _ _ _
   rw[this,Qas _ _ hk]
 have kL:∀i j,i<n->j<n->w*prodF n Lf (prodF n f R) i j=len i*(w*idF i j):=λi j hi hj=>by
  rw[← key i j hi hj]
  unfold prodF
  rw[← Q7,← Q7]
  refine Qm λk hk=>?_
  have:=hL i k hi hk
  unfold prodF at this
  rw[← ZF,← this,ZF]
 refine⟨rg.u1,rg.u2,λi j hi hj=>?_,λi j hi hj=>?_,λi j hi hj=>?_,rg.pos,rg.nxt⟩
 ·have h1:=kL i j hi hj
  have h2:prodF n Lf (prodF n f R) i j=len j*prodF n Lf Lb i j:=by
   unfold prodF
   rw[← Q7]
   refine Qm λk hk=>?_
   have:=hB k j hk hj
   unfold prodF at this
   rw[this,ZM]
  have lj:=rg.pos j hj
  have h3:w*len j*prodF n Lf Lb i j=w*len j*idF i j:=by
   rw[ZF,← h2,h1]
   unfold idF
   by_cases e:i=j
   ·subst e;rw[if_pos rfl];grind
   ·rw[if_neg e];grind
  exact Zas (Int.mul_ne_zero w0 (by omega)) h3
 ·have h1:w*prodF n Lb Lf i j=w*idF i j:=by
   rw[← hP i j hi hj]
   have e:prodF n f P i j=prodF n (prodF n f R) (prodF n Rb P) i j:=by
    have hk':∀k,k<n->prodF n (prodF n R Rb) P k j=P k j:=λk hk=>by
     rw[Qae (a':=idF) (b':=P) (λl hl=>rg.u1 k l hk hl) (λ_ _=>rfl),Qas _ _ hk]
    rw[Q8,← Q8 n R Rb P]
    exact Qae (λ_ _=>rfl) λk hk=>(hk' k hk).symm
   rw[e]
   show w*Qk n (λk=>Lb i k*Lf k j)=Qk n λk=>prodF n f R i k*prodF n Rb P k j
   rw[← Q7]
   exact Qm λk hk=>by rw[hB i k hi hk,ZM,← hL k j hk hj];grind
  exact Zas w0 h1
 ·rw[Q8]
  have h1:=kL i j hi hj
  have:w*prodF n Lf (prodF n f R) i j=w*(len i*idF i j):=by rw[h1];exact ZM _ _ _
  exact Zas w0 this
noncomputable def Qh3(Qcb:Den)(QbL:Den)(Qc4:Den)(Qaj:Den)(Qci:Den)(QaW:Den)(Qbi:Den):DS:=(Qe (Qo 1 (Qj 1 Qcb [] (Qc (Qa 0) Qg))) (Qe (Qo 2 (Qj 2 QbL [] (Qc (Qr (Qa 1) (dC (.int 0))) (Qc (Qr (Qa 1) (dC (.int 1))) Qg)))) (Qe (Qo 3 (Qaf (Qr (Qa 2) (dC (.int 0))))) (Qe (Qo 4 (Qaf (Qr (Qa 2) (dC (.int 1))))) (Qe (Qo 5 (Qaf (Qr (Qa 2) (dC (.int 2))))) (Qe (Qo 6 (QM (Qe3 (Qj 1 Qaj [] (Qc (dBf QaD (Qc (Qa 0) Qg)) Qg)) (Qa 5)) (.tp [1,2]) [none,none,none] QW (Qj 2 Qc4 [] (Qc (Qa 1) (Qc (Qa 2) Qg))))) (Qe (Qo 7 (QM (QY (Qj 2 QaW [] (Qc (Qa 6) (Qc (Qj 2 QaW [] (Qc (Qa 4) (Qc (Qr (Qa 1) (dC (.int 0))) Qg))) Qg)))) (.nm 1) [none,none,some 1] QW (Qj 2 Qci [] (Qc (Qa 1) (Qc (Qr (Qa 2) (dC (.int 1))) Qg))))) (Qe (Qo 8 (Qj 1 Qbi [] (Qc (QM (Qe3 (Qj 1 Qbi [] (Qc (Qj 2 QaW [] (Qc (Qa 0) (Qc (Qa 3) Qg))) Qg)) (Qa 5)) (.tp [1,2]) [none,none,none] QW (Qj 2 Qci [] (Qc (Qa 1) (Qc (Qa 2) Qg)))) Qg))) (Qe (QP (Qat (Qc (Qa 7) (Qc (Qa 6) (Qc (Qa 3) (Qc (Qa 8) (Qc (Qa 4) Qg))))))) Qp)))))))))
noncomputable def Q4(len:Nat->Int):Nat->Nat->Int:=λi j=>len i*idF i j
def QfC(d:Den):Prop:=∀(n:Nat) (f:Nat->Nat->Int),0<n->n<=8->(∀i j,i<n->j<n->(f i j).natAbs<=2^240)->(det n λj i=>f i j)≠0->∃(Lf R Lb Rb:Nat->Nat->Int) (len:Nat->Int),d [Qd n n f]=some (.tup [Qd n n Lf,Qd n n (Q4 len),Qd n n R,Qd n n Lb,Qd n n Rb],false)/\Qfs n f Lf R Lb Rb len/\QaI n 200000 Lf/\QaI n 130000 R/\QaI n 200000 Lb/\QaI n 130000 Rb/\∀j,j<n->(len j).natAbs<2^1999
theorem Quw{db dr dn du ds dp dt:Den}(hb:Qmg db)(hr:Qlp dr)(hn:QlC dn)(hu:Qg9 du)(hs:QhE ds)(hp:Qgt dp)(ht:QfT dt):QfC (Qn 9 (Qh3 db dr dn du ds dp dt)):=λn f n0 n8 hf hd=>by
 obtain⟨P,eb,hP,bP,wl⟩:=hb n f n8 hf hd
 obtain⟨w,hw⟩:∃w,w=det n λj i=>f i j:=⟨_,rfl⟩
 rw[← hw]at eb wl hd
 have hP:∀i j,i<n->j<n->prodF n f P i j=w*idF i j:=λi j hi hj=>by rw[hP i j hi hj,← hw]
 obtain⟨R,Rb,len,er,rg,bR,bB,ll⟩:=hr n f P w n0 n8 hd wl hP
 have wl':w.natAbs<2^2000:=ZbJ wl (Nat.pow_lt_pow_right (by decide) (by decide))
 have ll':∀j,j<n->(len j).natAbs<2^2000:=λj hj=>ZbJ (ll j hj) (Nat.pow_lt_pow_right (by decide) (by decide))
 obtain⟨Lf,hL⟩:∃Lf:Nat->Nat->Int,∀i j,i<n->j<n->len i*prodF n Rb P i j=w*Lf i j:=by
  refine⟨λi j=>len i*prodF n Rb P i j / w,λi j hi hj=>(Int.mul_ediv_cancel' ?_).symm⟩
  exact Int.natAbs_dvd.mp (rg.row j i hj hi)
 obtain⟨Lb,hB⟩:∃Lb:Nat->Nat->Int,∀i j,i<n->j<n->prodF n f R i j=len j*Lb i j:=
  ⟨λi j=>prodF n f R i j / len j,λi j hi hj=>(Int.mul_ediv_cancel' (rg.col i j hi hj)).symm⟩
 have BP:QaI n 1999 P:=λi j hi hj=>Zbg (bP i j hi hj)
 have BQ:=bB.prod n8 BP
 have Bf:QaI n 240 f:=hf
 have BM:=Bf.prod n8 bR
 have Bm:QaI n 1999 (Q4 len):=λi j hi hj=>by
  unfold Q4 idF
  split
  ·rw[Zab];exact Zbg (ll i hi)
  ·rw[Zz];exact Zac _
 have BmQ:=Bm.prod n8 BQ
 have mQ:∀i j,i<n->j<n->prodF n (Q4 len) (prodF n Rb P) i j=w*Lf i j:=λi j hi hj=>by
  rw[← hL i j hi hj]
  show(Qk n λk=>Q4 len i k*prodF n Rb P k j)=_
  rw[QbY hi λk hk ne=>by unfold Q4 idF;rw[if_neg (Ne.symm ne),Zz,Zy]]
  unfold Q4 idF
  rw[if_pos rfl,Zab]
 have dvL:∀a b c:Int,a=b*c->b≠0->c.natAbs<=a.natAbs:=λa b c h hb=>by
  rw[h,Zaa]
  exact Nat.le_mul_of_pos_left _ (by omega)
 have BL:QaI n 200000 Lf:=λi j hi hj=>Zi (dvL _ _ _ (mQ i j hi hj) hd) (BmQ.mono (by decide) i j hi hj)
 have BLb:QaI n 200000 Lb:=λi j hi hj=>Zi (dvL _ _ _ (hB i j hi hj) (by have:=rg.pos j hj;omega)) (BM.mono (by decide) i j hi hj)
 refine⟨Lf,R,Lb,Rb,len,QX ?_,Qun hd (by rw[← hw];exact hd) hP rg hL hB,BL,bR,BLb,bB,ll⟩
 refine run_seq (Qh (Ql rfl eb rfl) ?_)
 rw[Qi]
 refine run_seq (Qh (Ql rfl er rfl) ?_)
 rw[Qi]
 refine run_seq (Qh (QaA rfl) ?_)
 refine run_seq (Qh (QaA rfl) ?_)
 refine run_seq (Qh (QaA rfl) ?_)
 change Nx _ (.nx [some (Qd n n f,false),some (.tup [Qd n n P,.int w],true),some (.tup [Qd n n R,Qd n n Rb,Qf n len],false),some (Qd n n R,false),some (Qd n n Rb,false),some (Qf n len,false),none,none,none])
 refine run_seq (Qh (QN (List.range n) (QfA (Ql (Qq (QcA rfl rfl) (QS _)) (hu n (by omega)) rfl) rfl rfl rfl) rfl λi hi=>⟨[none,some (Qf n (idF i),false),some (.int (len i),true)],rfl,⟨Qf n (Q4 len i),true,[]⟩,Ql rfl (hn n (idF i) (len i) (QaO (ll' i (Zk.mp hi))) λj _=>QaO (by unfold idF;split<;>exact Zu (by decide) (ZD (by decide) (show 1<=2000 by decide)))) rfl,rfl,rfl⟩) ?_)
 rw[Qi]
 change Nx _ (.nx [some (Qd n n f,false),some (.tup [Qd n n P,.int w],true),some (.tup [Qd n n R,Qd n n Rb,Qf n len],false),some (Qd n n R,false),some (Qd n n Rb,false),some (Qf n len,false),some (Qd n n (Q4 len),true),none,none])
 have eQ:Qj 2 dp [] (Qc (Qa 4) (Qc (Qr (Qa 1) (dC (.int 0))) Qg)) [some (Qd n n f,false),some (.tup [Qd n n P,.int w],true),some (.tup [Qd n n R,Qd n n Rb,Qf n len],false),some (Qd n n R,false),some (Qd n n Rb,false),some (Qf n len,false),some (Qd n n (Q4 len),true),none,none]=some ⟨Qd n n (prodF n Rb P),true,[]⟩:=Ql rfl (hp n Rb P (by omega) (bB.bits (by decide)) (BP.bits (by decide))) rfl
 have eMQ:Qj 2 dp [] (Qc (Qa 6) (Qc (Qj 2 dp [] (Qc (Qa 4) (Qc (Qr (Qa 1) (dC (.int 0))) Qg))) Qg)) [some (Qd n n f,false),some (.tup [Qd n n P,.int w],true),some (.tup [Qd n n R,Qd n n Rb,Qf n len],false),some (Qd n n R,false),some (Qd n n Rb,false),some (Qf n len,false),some (Qd n n (Q4 len),true),none,none]=some ⟨Qd n n (prodF n (Q4 len) (prodF n Rb P)),true,[]⟩:=Ql (Qq rfl (Qq eQ (QS _))) (hp n _ _ (by omega) (Bm.bits (by decide)) (BQ.bits (by decide))) rfl
 refine run_seq (Qh (QN (List.range n) (Q0 eMQ rfl) rfl λi hi=>⟨[none,some (Qf n (prodF n (Q4 len) (prodF n Rb P) i),false),some (.tup [Qd n n P,.int w],false)],rfl,⟨Qf n (Lf i),true,[]⟩,Ql rfl (hs n _ (Lf i) w hd wl' λj hj=>mQ i j (Zk.mp hi) hj) rfl,rfl,rfl⟩) ?_)
 rw[Qi]
 change Nx _ (.nx [some (Qd n n f,false),some (.tup [Qd n n P,.int w],true),some (.tup [Qd n n R,Qd n n Rb,Qf n len],false),some (Qd n n R,false),some (Qd n n Rb,false),some (Qf n len,false),some (Qd n n (Q4 len),true),some (Qd n n Lf,true),none])
 have eM:Qj 2 dp [] (Qc (Qa 0) (Qc (Qa 3) Qg)) [some (Qd n n f,false),some (.tup [Qd n n P,.int w],true),some (.tup [Qd n n R,Qd n n Rb,Qf n len],false),some (Qd n n R,false),some (Qd n n Rb,false),some (Qf n len,false),some (Qd n n (Q4 len),true),some (Qd n n Lf,true),none]=some ⟨Qd n n (prodF n f R),true,[]⟩:=Ql rfl (hp n f R (by omega) (Bf.bits (by decide)) (bR.bits (by decide))) rfl
 have eT:Qj 1 dt [] (Qc (Qj 2 dp [] (Qc (Qa 0) (Qc (Qa 3) Qg))) Qg) [some (Qd n n f,false),some (.tup [Qd n n P,.int w],true),some (.tup [Qd n n R,Qd n n Rb,Qf n len],false),some (Qd n n R,false),some (Qd n n Rb,false),some (Qf n len,false),some (Qd n n (Q4 len),true),some (Qd n n Lf,true),none]=some ⟨Qd n n (λj i=>prodF n f R i j),true,[]⟩:=Ql (Qq eM (QS _)) (ht n _ (by omega)) rfl
 refine run_seq (Qh (Ql (Qq (QN (List.range n) (QfA eT rfl rfl rfl) rfl λi hi=>⟨[none,some (Qf n (λj=>prodF n f R j i),false),some (.int (len i),true)],rfl,⟨Qf n λj=>Lb j i,true,[]⟩,Ql rfl (hs n _ (λj=>Lb j i) (len i) (by have:=rg.pos i (Zk.mp hi);omega) (ll' i (Zk.mp hi)) λj hj=>hB j i hj (Zk.mp hi)) rfl,rfl,rfl⟩) (QS _)) (ht n _ (by omega)) rfl) ?_)
 rw[Qi]
 exact QC rfl ⟨rfl,rfl⟩
def Qub(d:Den):Prop:=∀(m:Nat) (R L:List (Int×Int)) (f:Nat->Int),0<m->m<=8->Qbg m R L->(∀j,j<m->(f j).natAbs<=2^200000)->∃k v,d [QR m R L,Qf m f]=some (.tup [Qf m (QG m (Qz m (Qv R L)) f k),Qf m k],true)/\Dbl m (Qz m (Qv R L)) v/\Rec m (Qz m (Qv R L)) v (QG m (Qz m (Qv R L)) f k)/\Stb m (Qz m (Qv R L)) (QG m (Qz m (Qv R L)) f k)/\∀j,j<m->0<=QG m (Qz m (Qv R L)) f k j
theorem QBU.small{d:Den}(h:Qub d):Qxf d:=λm R L f m0 m8 hw hf=>h m R L f m0 m8 hw λj hj=>Zi (hf j hj) (ZD (by decide) (by decide))
theorem Shared.small{d:Den}(h:Qsj d):Qua d:=λn f row n8 hf hr hl=>by
 have up:(2:Nat)^200<=2^240:=ZD (by decide) (by decide)
 obtain⟨tops,q,e,q0,ql,hq,ht,hc⟩:=h n f row n8 (λj r hj hr'=>Zi (hf j r hj hr') up) (λr hr'=>Zi (hr r hr') up) (Qmo (λj hj r hr'=>hf j r hj hr') hl)
 refine⟨tops,q,e,q0,ql,hq,ht,λne=>Zah λz=>ne ?_⟩
 have:=hc q (Int.dvd_refl q) λl hl=>Zah λy=>z ⟨l,hl,y⟩
 omega
structure Qhz (m n0:Nat) (T Lf Rt Lb Rb:Nat->Nat->Int) (len:Nat->Int):Prop where
 le:n0<=m
 sm:Qfs m (QJ T) Lf Rt Lb Rb len
 one:∀j,j<n0->len j=1
 big:∀j,n0<=j->j<m->1<len j
 bR:QaI m 130000 Rt
 bB:QaI m 130000 Rb
 ll:∀j,j<m->(len j).natAbs<2^1999
def Qtg(dr:Den)(m:Nat)(T Lf Rt Lb Rb:Nat->Nat->Int)(len:Nat->Int):Prop:=dr [Qd m m (QJ T)]=some (.tup [Qd m m Lf,Qd m m (Q4 len),Qd m m Rt,Qd m m Lb,Qd m m Rb],false)
theorem QkP{len:Nat->Int}:∀(m:Nat),(∀j,j<m->0<len j)->(∀j,j+1<m->len j∣len (j+1))->∃n0,n0<=m/\(∀j,j<n0->len j=1)/\∀j,n0<=j->j<m->1<len j
 | 0,_,_=>⟨0,Zh _,λj hj=>by omega,λj _ hj=>by omega⟩
 | m+1,hp,hn=>by
  obtain⟨n0,h1,h2,h3⟩:=QkP m (λj hj=>hp j (by omega)) λj hj=>hn j (by omega)
  by_cases e:n0=m
  ·subst e
   by_cases z:len n0=1
   ·exact⟨n0+1,Zh _,λj hj=>by
     by_cases q:j=n0
     ·rw[q];exact z
     ·exact h2 j (by omega),λj a b=>by omega⟩
   ·exact⟨n0,by omega,h2,λj a b=>by rw[show j=n0 by omega];have:=hp n0 (by omega);omega⟩
  ·refine⟨n0,by omega,h2,λj a b=>?_⟩
   by_cases q:j=m
   ·subst q
    have d:=hn (j-1) (by omega)
    rw[show j-1+1=j by omega]at d
    have b1:=h3 (j-1) (by omega) (by omega)
    have:=Int.le_of_dvd (hp j (by omega)) d
    omega
   ·exact h3 j a (by omega)
theorem Qbg.QAj{m:Nat}{R L:List (Int×Int)}(hw:Qbg m R L):(det m λj i=>QJ (Qz m (Qv R L)) i j)≠0:=by
 rw[QaV]
 exact Qmo hw.big (Qqc hw.tp)
theorem Qgg{dr:Den}(hr:QfC dr){m:Nat}{R L:List (Int×Int)}(m0:0<m)(m8:m<=8)(hw:Qbg m R L):∃n0 Lf Rt Lb Rb len,Qhz m n0 (Qz m (Qv R L)) Lf Rt Lb Rb len/\Qtg dr m (Qz m (Qv R L)) Lf Rt Lb Rb len:=by
 obtain⟨Lf,Rt,Lb,Rb,len,e,sm,_,b2,_,b4,ll⟩:=hr m (QJ (Qz m (Qv R L))) m0 m8 (λi j hi hj=>Zi (hw.big i hi j hj) (ZD (by decide) (by decide))) hw.QAj
 obtain⟨n0,h1,h2,h3⟩:=QkP m sm.pos sm.nxt
 exact⟨n0,Lf,Rt,Lb,Rb,len,⟨h1,sm,h2,h3,b2,b4,ll⟩,e⟩
theorem Qks{len:Nat->Int}{m n0:Nat}(h1:n0<=m)(h2:∀j,j<n0->len j=1)(h3:∀j,n0<=j->j<m->1<len j):(List.range m).filter (λj=>decide (1<len j))=(List.range (m-n0)).map (n0+ ·):=by
 rw[show m=n0+(m-n0) by omega,List.range_add,Zbn,Zcf.mpr λj hj=>?_,Zbk,Zbj.mpr λj hj=>?_]
 ·rw[show n0+(m-n0)-n0=m-n0 by omega]
 ·obtain⟨i,hi,rfl⟩:=ZS.mp hj
  have:=h3 (n0+i) (by omega) (by have:=Zk.mp hi;omega)
  simpa using this
 ·rw[h2 j (Zk.mp hj)];decide
noncomputable def QfS:DS:=(Qe (QP (QM (QgZ (Qa 0)) (.tp [1,2]) [none,none,none] QW (Qr (Qa 2) (Qa 1)))) Qp)
def QrE(d:Den):Prop:=∀(n:Nat) (len:Nat->Int),d [Qd n n (Q4 len)]=some (Qf n len,true)
theorem Qzp:QrE (Qn 1 QfS):=λn len=>
 QX (QC (QN (List.range n) (Qnz rfl rfl) rfl λi hi=>⟨[none,some (.int i,true),some (Qf n (Q4 len i),false)],rfl,⟨.int (len i),true,[]⟩,(QaN rfl rfl rfl rfl (Zk.mp hi)).trans (by unfold Q4 idF;rw[if_pos rfl,Zab]),rfl,rfl⟩) ⟨rfl,rfl⟩)
noncomputable def Qb3(len:Nat->Int)(n0:Nat):Nat->Int:=λj=>len (n0+j)
def Qfz(d:Den):Prop:=∀(m:Nat) (R L:List (Int×Int)),m<=8->Qbg m R L->d [QR m R L]=some (Qd m m (QJ (Qz m (Qv R L))),true)
theorem Qhm{d:Den}(h:Qj1 d):Qfz d:=λm R L m8 hw=>by
 have hg:=hw.good
 exact h m R L (by omega) (by omega) hg.1 hg.2.1
noncomputable def Qhg(Q6:Den)(QbA:Den)(Qbn:Den):DS:=(Qe (Qo 1 (Qj 1 QbA [] (Qc (Qj 1 Q6 [] (Qc (Qa 0) Qg)) Qg))) (Qe (QP (QM (QY (Qj 1 Qbn [] (Qc (Qr (Qa 1) (dC (.int 1))) Qg))) (.nm 1) [none,none] (QO (dOp gGt (Qa 1) (dC (.int 1)))) (Qa 1))) Qp))
def Qih(dr d:Den):Prop:=∀(m:Nat) (R L:List (Int×Int)) (n0:Nat) (Lf Rt Lb Rb:Nat->Nat->Int) (len:Nat->Int),m<=8->Qbg m R L->Qhz m n0 (Qz m (Qv R L)) Lf Rt Lb Rb len->Qtg dr m (Qz m (Qv R L)) Lf Rt Lb Rb len->d [QR m R L]=some (Qf (m-n0) (Qb3 len n0),true)
theorem Qxc{dt dr dm:Den}(ht:Qfz dt)(hm:QrE dm):Qih dr (Qn 2 (Qhg dt dr dm)):=λm R L n0 Lf Rt Lb Rb len m8 hw nr re=>by
 have et:=ht m R L m8 hw
 generalize Qz m (Qv R L)=T at *
 refine QX ?_
 refine run_seq (Qh ((Qf5 (Qq (Ql (r:=⟨[QR m R L],false,[]⟩) rfl et rfl) (QS _)) re rfl).trans rfl) ?_)
 change Nx _ (.nx [some (QR m R L,false),some (.tup [Qd m m Lf,Qd m m (Q4 len),Qd m m Rt,Qd m m Lb,Qd m m Rb],false)])
 refine QC (r:=⟨Qf (m-n0) (Qb3 len n0),true,[]⟩) ?_ ⟨rfl,rfl⟩
 refine(QeL (List.range m) (Q0 (Ql (r:=⟨[Qd m m (Q4 len)],false,[]⟩) rfl (hm m len) rfl) rfl) rfl λi hi=>⟨[none,some (.int (len i),true)],rfl,rfl,λ_=>⟨⟨.int (len i),true,[]⟩,rfl,rfl,rfl⟩⟩).trans ?_
 rw[Qks nr.le nr.one nr.big,Zaj]
 rfl
section
variable {m n0:Nat}{T Lf Rt Lb Rb:Nat->Nat->Int}{len:Nat->Int}
theorem Qfs.la{n:Nat}{f Lf R Lb Rb:Nat->Nat->Int}{len:Nat->Int}(h:Qfs n f Lf R Lb Rb len){i j:Nat}(hi:i<n)(hj:j<n):prodF n Lf f i j=len i*Rb i j:=by
 have e1:prodF n (prodF n (prodF n Lf f) R) Rb i j=prodF n Lf f i j:=by
  rw[Q8,Qae (a':=prodF n Lf f) (b':=idF) (λ_ _=>rfl) (λk hk=>h.u1 k j hk hj),Qd9 _ _ hj]
 rw[← e1]
 show(Qk n λk=>prodF n (prodF n Lf f) R i k*Rb k j)=_
 rw[QbY hi λk hk ne=>by rw[h.mid i k hi hk];unfold idF;rw[if_neg (Ne.symm ne),Zz,Zy],h.mid i i hi hi]
 unfold idF
 rw[if_pos rfl,Zab]
end
end HS
namespace HS
open PySem L2
structure Shp (m:Nat) (s:D) (nm:Str) (x:Nat->Int):Prop where
 fl:s.flat=false
 a0:∀{fa:DE}{ρ:En}{r:HS.R},fa ρ=some r->r.d=s->Qr fa (dC (.int 0)) ρ=some ⟨.str nm,true,[]⟩
 a1:∀{fa:DE}{ρ:En}{r:HS.R},fa ρ=some r->r.d=s->Qr fa (dC (.int 1)) ρ=some ⟨Qf m x,r.fr,r.M⟩
 dp:Qa9 s [1]=some (Qf m x)
 sm:(D.str nm).sim 8=true
section
variable {m n0:Nat}{T Lf Rt Lb Rb:Nat->Nat->Int}{len:Nat->Int}
end
end HS
namespace HS
open PySem L2
noncomputable def QI(len:Nat->Int):Nat->Int
 | 0=>1
 | n+1=>QI len n*len n
theorem Qfb{len:Nat->Int}:∀{n:Nat},(∀j,j<n->0<len j)->0<QI len n
 | 0,_=>Int.one_pos
 | n+1,h=>Int.mul_pos (Qfb λj hj=>h j (by omega)) (h n (by omega))
theorem QgX:∀(n:Nat) (len:Nat->Int),QI len (n+1)=len 0*QI (λi=>len (i+1)) n
 | 0,len=>by show 1*len 0=len 0*1;omega
 | n+1,len=>by
  show QI len (n+1)*len (n+1)=len 0*(QI (λi=>len (i+1)) n*len (n+1))
  rw[QgX n len,ZF]
theorem Qmc:∀(n:Nat) (len:Nat->Int),dia (Q4 len) n=QI len n
 | 0,len=>rfl
 | n+1,len=>by
  show Q4 len 0 0*dia (λj r=>Q4 len (j+1) (r+1)) n=QI len (n+1)
  rw[QgX,show(λj r=>Q4 len (j+1) (r+1))=Q4 (λi=>len (i+1))from ?_,Qmc n]
  ·unfold Q4 idF;rw[if_pos rfl,Zab]
  ·funext j r
   unfold Q4 idF
   by_cases z:j=r
   ·rw[if_pos z,if_pos (by omega)]
   ·rw[if_neg z,if_neg (by omega)]
theorem QiG(n:Nat)(f g:Nat->Nat->Int):(det n λj i=>prodF n f g i j)=(det n λj i=>f i j)*det n λj i=>g i j:=by
 rw[ZV,← Qvy n (λj i=>g i j) λj i=>f i j]
 refine QA λj _ i _=>?_
 unfold prodF
 rw[← QdP]
 exact QaU λs _=>by rw[ZV]
theorem Qva{a b:Int}(h:a*b=1):a.natAbs=1:=by
 have:=congrArg Int.natAbs h
 rw[Zaa]at this
 exact Nat.eq_one_of_mul_eq_one_right this
theorem Qan.det{n:Nat}{a b:Nat->Nat->Int}(h:Qan n a b):(det n λj i=>a i j).natAbs=1:=by
 have e:(HS.det n λj i=>prodF n a b i j)=1:=by
  rw[QA (k:=QB) λj hj i hi=>by
   rw[h i j hi hj];unfold idF QB
   by_cases z:i=j
   ·rw[if_pos z,if_pos z.symm]
   ·rw[if_neg z,if_neg (Ne.symm z)],QdZ]
 rw[QiG]at e
 exact Qva e
theorem Qfs.many{n:Nat}{f Lf R Lb Rb:Nat->Nat->Int}{len:Nat->Int}(h:Qfs n f Lf R Lb Rb len):QI len n=((det n λj i=>f i j).natAbs:Int):=by
 have e1:(HS.det n λj i=>prodF n (prodF n Lf f) R i j)=QI len n:=by
  rw[QA (k:=Q4 len) λj hj i hi=>by
   rw[h.mid i j hi hj];unfold Q4 idF
   by_cases z:i=j
   ·subst z;rw[if_pos rfl]
   ·rw[if_neg z,if_neg (Ne.symm z),Zz,Zz],Qhx n (Q4 len) λj r _ _ hr=>by unfold Q4 idF;rw[if_neg (by omega),Zz],Qmc]
 rw[QiG,QiG]at e1
 have e2:=congrArg Int.natAbs e1
 rw[Zaa,Zaa,h.v1.det,h.u1.det,Nat.mul_one,Nat.one_mul]at e2
 have:=Qfb h.pos
 omega
theorem QuD{m k:Nat}{T:Nat->Nat->Int}(tp:TP m T){c:Nat->Int}(h0:∀l,k<l->c l=0)(h:∀r,r<m->r<=k->0<=Qk m (λl=>c l*T l r)):∀l,l<m->c l<=0:=by
 obtain⟨w,w0,hw⟩:=tp.wt
 have p0:∀l,0<=(if 0<c l then c l else 0):=λl=>by split<;>omega
 have v0:∀r,r<m->0<=Qk m (λl=>(if 0<c l then c l else 0)*T l r):=λr hr=>by
  by_cases h1:0<c r
  ·have hrk:r<=k:=by
    by_cases z:k<r
    ·rw[h0 r z]at h1;omega
    ·omega
   have e:Qk m (λl=>(if 0<c l then c l else 0)*T l r)=Qk m (λl=>((if 0<c l then c l else 0)-c l)*T l r)+Qk m (λl=>c l*T l r):=by
    rw[← QaJ m (λl=>((if 0<c l then c l else 0)-c l)*T l r) (λl=>c l*T l r)]
    exact Qm λl _=>by rw[← ZX];congr 1;omega
   rw[e]
   refine Int.add_nonneg ?_ (h r hr hrk)
   refine Qho λl hl=>?_
   by_cases e2:l=r
   ·subst e2;rw[if_pos h1,Zbi,Zy];exact ZaS _
   ·refine ZaA ?_ (tp.pos l r hl hr e2)
    split<;>omega
  ·refine Qho λl hl=>?_
   by_cases e2:l=r
   ·subst e2;rw[if_neg h1,Zy];exact ZaS _
   ·exact ZaA (p0 l) (tp.pos l r hl hr e2)
 have s1:0<=Qk m λr=>Qk m (λl=>(if 0<c l then c l else 0)*T l r)*w r:=by
  have:Qk m (λ_=>(0:Int))<=Qk m λr=>Qk m (λl=>(if 0<c l then c l else 0)*T l r)*w r:=Qdx λr hr=>ZaA (v0 r hr) (w0 r)
  rw[Qbu]at this
  exact this
 have s2:(Qk m λr=>Qk m (λl=>(if 0<c l then c l else 0)*T l r)*w r)=Qk m λl=>(if 0<c l then c l else 0)*Qk m λr=>T l r*w r:=by
  have e1:(λr=>Qk m (λl=>(if 0<c l then c l else 0)*T l r)*w r)=λr=>Qk m λl=>(if 0<c l then c l else 0)*(T l r*w r):=by
   funext r
   rw[ZV,← Q7]
   exact Qm λl _=>by rw[ZV (w r),ZF]
  rw[e1,Qff]
  exact Qm λl _=>by rw[Q7]
 have s3:(Qk m λl=>(if 0<c l then c l else 0)*Qk m λr=>T l r*w r)<=Qk m λl=> -(if 0<c l then c l else 0):=Qdx λl hl=>by
  have:=ZaH (hw l hl) (p0 l)
  omega
 rw[QhB]at s3
 intro l hl
 have big:(if 0<c l then c l else 0)<=Qk m λl=>(if 0<c l then c l else 0):=by
  have:=QaS (m:=m) hl (if 0<c l then c l else 0) (λ_=>1)
  have h2:Qk m (λi=>(if i=l then(if 0<c l then c l else 0)else 0)*1)<=Qk m λl=>(if 0<c l then c l else 0):=Qdx λi _=>by
   rw[Zab]
   by_cases e:i=l
   ·subst e;rw[if_pos rfl];exact ZaS _
   ·rw[if_neg e];exact p0 i
  omega
 by_cases z:0<c l
 ·rw[if_pos z]at big;omega
 ·omega
theorem Qf9:∀(n:Nat) (m:Nat->Nat->Int),(∀r,r<n->m n r=0)->m n n=1->det (n+1) m=det n m
 | 0,m,_,h=>by show(0:Int)+sgn 0*m 0 0*1=1;rw[h];rfl
 | n+1,m,h0,h1=>by
  show sm (n+1) _+sgn (n+1)*m (n+1) 0*_=sm (n+1) _
  rw[h0 0 (by omega),Zz,Zy,ZaV]
  refine QaU λj hj=>?_
  have e:skp j n=n+1:=by unfold skp;rw[if_neg (by omega)]
  rw[Qf9 n (λc r=>m (skp j c) (r+1)) (λr hr=>by show m (skp j n) (r+1)=0;rw[e];exact h0 (r+1) (by omega)) (by show m (skp j n) (n+1)=1;rw[e];exact h1)]
theorem Qtr{m:Nat}{T:Nat->Nat->Int}(tp:TP m T):∀k,k<=m->0<det k λl r=>0-T l r
 | 0,_=>by show(0:Int)<1;decide
 | k+1,hk=>by
  have ih:=Qtr tp k (by omega)
  have big:∀j,j<m->∀r,r<m->(0-T j r).natAbs<=2^200:=λj hj r hr=>by
   have:=tp.bnd j r hj hr
   have:(2:Nat)^64<=2^200:=ZD (by decide) (by decide)
   omega
  have nz:=Qmo (n:=k+1) (λj hj r hr=>big j (by omega) r (by omega)) λk' hk'=>Qqc tp k' (by omega)
  by_cases neg:(det (k+1) λl r=>0-T l r)<0
  ·have cr:=λr (hr:r<k+1)=>Qk9 (λl r=>0-T l r) (λr=>if r=k then(1:Int)else 0) hr
   generalize (det (k+1) λl r=>0-T l r)=D at *
   have ck:det (k+1) (cup (λl r=>0-T l r) k λr=>if r=k then 1 else 0)=det k λl r=>0-T l r:=by
    rw[Qf9 k _ (λr hr=>by rw[Qw,if_neg (by omega)]) (by rw[Qw,if_pos rfl])]
    exact QA λj hj r _=>by rw[Qu _ _ (by omega)]
   have z:=QuD (k:=k) tp (c:=λl=>if l<=k then det (k+1) (cup (λl r=>0-T l r) l λr=>if r=k then 1 else 0)else 0) (λl hl=>if_neg (by omega)) (λr _ hr=>?_) k (by omega)
   ·have z:(if k<=k then det (k+1) (cup (λl r=>0-T l r) k λr=>if r=k then 1 else 0)else 0)<=0:=z
    rw[if_pos (Zh k),ck]at z
    omega
   ·have e:=cr r (by omega)
    have e2:Qk m (λl=>(if l<=k then det (k+1) (cup (λl r=>0-T l r) l λr=>if r=k then 1 else 0)else 0)*T l r)= -(D*if r=k then 1 else 0):=by
     rw[e,← QdP,QfL (k:=k+1) (by omega) λi h1 _=>by rw[if_neg (by omega),Zy],QdP,QdP,← QhB]
     exact Qm λl hl=>by rw[if_pos (by omega),ZaI,ZbE,Zbq]
    rw[e2]
    split<;>omega
  ·omega
theorem QkN{len:Nat->Int}:∀n,(∀j,j<n->len j=1)->QI len n=1
 | 0,_=>rfl
 | n+1,h=>by show QI len n*len n=1;rw[QkN n λj hj=>h j (by omega),h n (by omega)];rfl
theorem Qjt{len:Nat->Int}(n0:Nat):∀k,QI len (n0+k)=QI len n0*QI (Qb3 len n0) k
 | 0=>by show QI len n0=QI len n0*1;rw[Zab]
 | k+1=>by
  show QI len (n0+k)*len (n0+k)=QI len n0*(QI (Qb3 len n0) k*Qb3 len n0 k)
  rw[Qjt n0 k,ZF];rfl
theorem Qhz.many{m n0:Nat}{T Lf Rt Lb Rb:Nat->Nat->Int}{len:Nat->Int}(nr:Qhz m n0 T Lf Rt Lb Rb len)(tp:TP m T):QI (Qb3 len n0) (m-n0)=det m (QJ T):=by
 have e:=nr.sm.many
 rw[QaV m (QJ T)]at e
 have p:=Qtr tp m (Zh m)
 have e1:=Qjt (len:=len) n0 (m-n0)
 have le:=nr.le
 rw[show n0+(m-n0)=m by omega,QkN n0 nr.one,ZK]at e1
 have p:0<det m (QJ T):=p
 rw[← e1,e]
 omega
noncomputable def Qkw(Q6:Den)(Qek:Den):DS:=(Qe (QP (Qj 1 Qek [] (Qc (Qj 1 Q6 [] (Qc (Qa 0) Qg)) Qg))) Qp)
def Qnn(d:Den):Prop:=∀(m:Nat) (R L:List (Int×Int)),m<=8->Qbg m R L->d [QR m R L]=some (.int (det m (QJ (Qz m (Qv R L)))),true)
theorem Qzr{dt dm:Den}(ht:Qfz dt)(hm:Qiu dm):Qnn (Qn 1 (Qkw dt dm)):=λm R L m8 hw=>by
 have em:=hm m (QJ (Qz m (Qv R L))) m8 λi hi j hj=>Zi (hw.big i hi j hj) (ZD (by decide) (by decide))
 rw[QaV m (QJ (Qz m (Qv R L)))]at em
 exact QX (QC (Ql (Qq (Ql rfl (ht m R L m8 hw) rfl) (QS _)) em rfl) ⟨rfl,rfl⟩)
theorem QnH{t:Int}{f:Nat->Int}:∀{n:Nat},(∀i,i<n->t∣f i)->t∣sm n f
 | 0,_=>⟨0,(Zz t).symm⟩
 | n+1,h=>by unfold sm;exact ZaC (QnH λi hi=>h i (by omega)) (h n (by omega))
theorem Qqy{t:Int}:∀(n k:Nat) (m:Nat->Nat->Int),k<n->(∀j r,j<=k->k<=r->r<n->t∣m j r)->t∣det n m
 | 0,k,m,hk,_=>by omega
 | n+1,k,m,hk,h=>by
  unfold det
  refine QnH λc hc=>?_
  by_cases z:k=0/\c=0
  ·obtain⟨rfl,rfl⟩:=z
   exact Int.dvd_trans (Int.dvd_trans (h 0 0 (by omega) (by omega) (by omega)) (Int.dvd_mul_left _ _)) (Int.dvd_mul_right _ _)
  ·refine Int.dvd_trans (Qqy n (k-1) _ (by omega) λj r hj hr hn=>h _ _ ?_ (by omega) (by omega)) (Int.dvd_mul_left _ _)
   unfold skp
   split<;>omega
def EqT(n:Nat)(a b:Nat->Nat->Int):Prop:=∀i j,i<n->j<n->a i j=b i j
theorem EqT.symm{n:Nat}{a b:Nat->Nat->Int}(h:EqT n a b):EqT n b a:=λi j hi hj=>(h i j hi hj).symm
theorem EqT.trans{n:Nat}{a b c:Nat->Nat->Int}(h:EqT n a b)(g:EqT n b c):EqT n a c:=λi j hi hj=>(h i j hi hj).trans (g i j hi hj)
theorem EqT.prod{n:Nat}{a b c d:Nat->Nat->Int}(h:EqT n a b)(g:EqT n c d):EqT n (prodF n a c) (prodF n b d):=λi j hi hj=>Qae (λk hk=>h i k hi hk) λk hk=>g k j hk hj
theorem EqT.rfl{n:Nat}{a:Nat->Nat->Int}:EqT n a a:=λ_ _ _ _=>Eq.refl _
theorem Qoq{n:Nat}{a b:Nat->Nat->Int}(h:Qan n a b)(c:Nat->Nat->Int):EqT n (prodF n a (prodF n b c)) c:=λi j hi hj=>by
 rw[← Q8,Qae (a':=idF) (b':=c) (λk hk=>h i k hi hk) λ_ _=>Eq.refl _]
 exact Qas c j hi
theorem Qyj{n:Nat}{a b:Nat->Nat->Int}(h:Qan n a b)(c:Nat->Nat->Int):EqT n (prodF n (prodF n c a) b) c:=λi j hi hj=>by
 rw[Q8,Qae (a':=c) (b':=idF) (λ_ _=>Eq.refl _) λk hk=>h k j hk hj]
 exact Qd9 c i hj
def Q9(n:Nat)(A:Nat->Nat->Int)(d:Nat->Int):Prop:=∃L Lb R Rb,(Qan n L Lb/\Qan n Lb L)/\(Qan n R Rb/\Qan n Rb R)/\EqT n (prodF n (prodF n L A) R) (Q4 d)
theorem Qfs.has{n:Nat}{f Lf R Lb Rb:Nat->Nat->Int}{len:Nat->Int}(h:Qfs n f Lf R Lb Rb len):Q9 n f len:=⟨Lf,Lb,R,Rb,⟨h.v1,h.v2⟩,⟨h.u1,h.u2⟩,h.mid⟩
theorem Q9.congr{n:Nat}{A B:Nat->Nat->Int}{d:Nat->Int}(h:Q9 n A d)(e:EqT n B A):Q9 n B d:=by
 obtain⟨L,Lb,R,Rb,h1,h2,h3⟩:=h
 exact⟨L,Lb,R,Rb,h1,h2,((EqT.rfl.prod e).prod EqT.rfl).trans h3⟩
theorem Q9.left{n:Nat}{A E Eb:Nat->Nat->Int}{d:Nat->Int}(h:Q9 n A d)(u:Qan n E Eb)(v:Qan n Eb E):Q9 n (prodF n E A) d:=by
 obtain⟨L,Lb,R,Rb,h1,h2,h3⟩:=h
 refine⟨prodF n L Eb,prodF n E Lb,R,Rb,⟨h1.1.prod v,u.prod h1.2⟩,h2,EqT.trans (EqT.prod ?_ EqT.rfl) h3⟩
 rw[Q8]
 exact EqT.rfl.prod (Qoq v A)
noncomputable def Qcl(A:Nat->Nat->Int):Nat->Nat->Int:=λi j=>A j i
theorem Qgm(n:Nat)(a b:Nat->Nat->Int):prodF n (Qcl a) (Qcl b)=Qcl (prodF n b a):=by
 funext i j
 exact Qm λk _=>ZV _ _
theorem Qur(i j:Nat):idF i j=idF j i:=by
 unfold idF
 by_cases z:i=j
 ·rw[if_pos z,if_pos z.symm]
 ·rw[if_neg z,if_neg (Ne.symm z)]
theorem Qan.turn{n:Nat}{a b:Nat->Nat->Int}(h:Qan n a b):Qan n (Qcl b) (Qcl a):=λi j hi hj=>by
 rw[Qgm,Qur]
 exact h j i hj hi
theorem Q9.turn{n:Nat}{A:Nat->Nat->Int}{d:Nat->Int}(h:Q9 n A d):Q9 n (Qcl A) d:=by
 obtain⟨L,Lb,R,Rb,h1,h2,h3⟩:=h
 refine⟨Qcl R,Qcl Rb,Qcl L,Qcl Lb,⟨h2.2.turn,h2.1.turn⟩,⟨h1.2.turn,h1.1.turn⟩,λi j hi hj=>?_⟩
 rw[Qgm,Qgm,← Q8]
 refine(h3 j i hj hi).trans ?_
 unfold Q4 idF
 by_cases z:j=i
 ·rw[z]
 ·rw[if_neg z,if_neg (Ne.symm z),Zz,Zz]
theorem QvI{n:Nat}(d:Nat->Int)(q:Nat->Nat->Int):EqT n (prodF n (Q4 d) q) λi j=>d i*q i j:=λi j hi _=>by
 refine(QbY hi λk _ hk=>?_).trans ?_
 ·unfold Q4 idF;rw[if_neg (Ne.symm hk),Zz,Zy]
 ·unfold Q4 idF;rw[if_pos rfl,Zab]
theorem QgB{d:Nat->Int}{n:Nat}(h:∀j,j+1<n->d j∣d (j+1)){i:Nat}:∀{j:Nat},i<=j->j<n->d i∣d j
 | 0,hij,_=>by rw[show i=0 by omega];exact Int.dvd_refl _
 | j+1,hij,hj=>by
  by_cases z:i=j+1
  ·rw[z];exact Int.dvd_refl _
  ·exact Int.dvd_trans (QgB h (by omega:i<=j) (by omega)) (h j hj)
theorem Qw0{n:Nat}{P Pb Q Qb:Nat->Nat->Int}{d e:Nat->Int}(hp:Qan n Pb P)(hq:Qan n Q Qb)(h:EqT n (prodF n (prodF n P (Q4 d)) Q) (Q4 e))(hd:∀j,j+1<n->d j∣d (j+1))(he:∀j,j+1<n->e j∣e (j+1))(pos:∀j,j<n->0<e j){k:Nat}(hk:k<n):e k∣d k:=by
 have m1:∀i j,i<n->k<=j->j<n->e k∣d i*Q i j:=λi j hi hkj hj=>by
  have e1:d i*Q i j=prodF n Pb (Q4 e) i j:=by
   refine(QvI d Q i j hi hj).symm.trans ?_
   refine((Qoq hp (prodF n (Q4 d) Q)) i j hi hj).symm.trans ?_
   rw[← Q8 n P]
   exact(EqT.rfl.prod h) i j hi hj
  rw[e1]
  refine QfI λl hl=>Int.dvd_trans ?_ (Int.dvd_mul_left _ _)
  unfold Q4 idF
  by_cases z:l=j
  ·rw[if_pos z,Zab,z];exact QgB he hkj hj
  ·rw[if_neg z,Zz];exact Int.dvd_zero _
 have m2:∀i j,i<=k->k<=j->j<n->e k∣d k*Q i j:=λi j hi hkj hj=>by
  obtain⟨c,hc⟩:=QgB hd hi hk
  rw[hc,Int.mul_right_comm]
  exact Int.dvd_trans (m1 i j (by omega) hkj hj) (Int.dvd_mul_right _ _)
 obtain⟨g,hg⟩:∃g,g=Nat.gcd (e k).natAbs (d k).natAbs:=⟨_,rfl⟩
 have ek:=pos k hk
 have g0:0<g:=by rw[hg];exact Nat.gcd_pos_of_pos_left _ (by omega)
 have d1:g∣(e k).natAbs:=by rw[hg];exact Nat.gcd_dvd_left _ _
 have d2:g∣(d k).natAbs:=by rw[hg];exact Nat.gcd_dvd_right _ _
 have cop:Nat.Coprime ((e k).natAbs / g) ((d k).natAbs / g):=by rw[hg];exact Nat.coprime_div_gcd_div_gcd (by rw[← hg];exact g0)
 obtain⟨t,ht⟩:∃t,t=(e k).natAbs / g:=⟨_,rfl⟩
 rw[← ht]at cop
 have m3:∀j r,j<=k->k<=r->r<n->(t:Int)∣Q j r:=λi j hi hkj hj=>by
  have:=Zav.mpr (m2 i j hi hkj hj)
  rw[Zaa,← Nat.mul_div_cancel' d1,← Nat.mul_div_cancel' d2,← ht,Nat.mul_assoc]at this
  exact Qe8.mpr (Nat.Coprime.dvd_of_dvd_mul_left cop (Nat.dvd_of_mul_dvd_mul_left g0 this))
 have m4:=Qqy n k (λj r=>Q j r) hk m3
 have m5:=hq.det
 rw[QaV n Q]at m5
 have m6:t∣(HS.det n Q).natAbs:=Qe8.mp m4
 rw[m5,Nat.dvd_one]at m6
 have:(e k).natAbs=g:=by rw[← Nat.mul_div_cancel' d1,← ht,m6,Nat.mul_one]
 rw[← this]at d2
 exact Zav.mp d2
theorem Q9.back{n:Nat}{A L Lb R Rb:Nat->Nat->Int}{D:Nat->Nat->Int}(h1:Qan n Lb L)(h2:Qan n R Rb)(h3:EqT n (prodF n (prodF n L A) R) D):EqT n A (prodF n Lb (prodF n D Rb)):=by
 refine EqT.trans ?_ (EqT.rfl.prod (h3.prod EqT.rfl))
 exact EqT.symm ((EqT.rfl.prod (Qyj h2 (prodF n L A))).trans (Qoq h1 A))
theorem Q9.one{n:Nat}{A:Nat->Nat->Int}{d e:Nat->Int}(h:Q9 n A d)(g:Q9 n A e)(hd:∀j,j+1<n->d j∣d (j+1))(he:∀j,j+1<n->e j∣e (j+1))(pos:∀j,j<n->0<e j){k:Nat}(hk:k<n):e k∣d k:=by
 obtain⟨L,Lb,R,Rb,h1,h2,h3⟩:=h
 obtain⟨M,Mb,S,Sb,g1,g2,g3⟩:=g
 have e1:=Q9.back h1.2 h2.1 h3
 refine Qw0 (P:=prodF n M Lb) (Pb:=prodF n L Mb) (Q:=prodF n Rb S) (Qb:=prodF n Sb R) (h1.1.prod g1.2) (h2.2.prod g2.1) ?_ hd he pos hk
 refine EqT.trans ?_ g3
 refine EqT.trans (b:=prodF n (prodF n M (prodF n Lb (prodF n (Q4 d) Rb))) S) ?_ ((EqT.rfl.prod e1.symm).prod EqT.rfl)
 simp only[Q8]
 exact EqT.rfl
theorem Q9.unique{n:Nat}{A:Nat->Nat->Int}{d e:Nat->Int}(h:Q9 n A d)(g:Q9 n A e)(hd:∀j,j+1<n->d j∣d (j+1))(he:∀j,j+1<n->e j∣e (j+1))(pd:∀j,j<n->0<d j)(pe:∀j,j<n->0<e j){k:Nat}(hk:k<n):d k=e k:=
 Int.dvd_antisymm (Int.le_of_lt (pd k hk)) (Int.le_of_lt (pe k hk)) (g.one h he hd pd hk) (h.one g hd he pe hk)
theorem Q9.dia(n:Nat)(d:Nat->Int):Q9 n (Q4 d) d:=⟨idF,idF,idF,idF,⟨λi j hi hj=>Qas idF j hi,λi j hi hj=>Qas idF j hi⟩,⟨λi j hi hj=>Qas idF j hi,λi j hi hj=>Qas idF j hi⟩,λi j hi hj=>by rw[Qd9 _ _ hj,Qas _ _ hi]⟩
noncomputable def Qfc(a b:Nat)(c:Int)(A:Nat->Nat->Int):Nat->Nat->Int:=λi j=>if i=a then A a j+c*A b j else A i j
theorem Qjk{n a b:Nat}{c:Int}(A:Nat->Nat->Int)(ha:a<n)(hb:b<n)(hab:a≠b):EqT n (Qfc a b c A) (prodF n (Qfc a b c idF) A):=λi j hi hj=>by
 unfold Qfc
 by_cases z:i=a
 ·rw[if_pos z]
  refine Eq.symm ((Qm (g:=λk=>idF a k*A k j+c*(idF b k*A k j)) λk _=>?_).trans ?_)
  ·show(if i=a then idF a k+c*idF b k else idF i k)*A k j=_
   rw[if_pos z,ZX,ZF]
  ·rw[QaJ,Q7]
   show prodF n idF A a j+c*prodF n idF A b j=_
   rw[Qas A j ha,Qas A j hb]
 ·rw[if_neg z]
  refine Eq.symm ((Qm (g:=λk=>idF i k*A k j) λk _=>?_).trans (Qas A j hi))
  show(if i=a then idF a k+c*idF b k else idF i k)*A k j=_
  rw[if_neg z]
theorem Qjq{n a b:Nat}{c c':Int}(ha:a<n)(hb:b<n)(hab:a≠b)(h:c+c'=0):Qan n (Qfc a b c idF) (Qfc a b c' idF):=λi j hi hj=>by
 rw[← Qjk _ ha hb hab i j hi hj]
 unfold Qfc
 by_cases z:i=a
 ·rw[if_pos z,if_pos rfl,if_neg (Ne.symm hab),Int.add_assoc,← ZX,Int.add_comm c' c,h,Zy,ZaV,z]
 ·rw[if_neg z,if_neg z]
theorem Q9.Qfc{n a b:Nat}{c:Int}{A:Nat->Nat->Int}{d:Nat->Int}(h:Q9 n A d)(ha:a<n)(hb:b<n)(hab:a≠b):Q9 n (HS.Qfc a b c A) d:=
 (h.left (Qjq (c:=c) (c':= -c) ha hb hab (by omega)) (Qjq ha hb hab (by omega))).congr (Qjk A ha hb hab)
noncomputable def Qkc(a:Nat)(A:Nat->Nat->Int):Nat->Nat->Int:=λi j=>if i=a then 0-A i j else A i j
theorem Qn2{n a:Nat}(A:Nat->Nat->Int):EqT n (Qkc a A) (prodF n (Qkc a idF) A):=λi j hi _=>by
 unfold Qkc
 by_cases z:i=a
 ·rw[if_pos z,← Qas A j hi]
  refine Eq.symm ((Qm (g:=λk=>(-1)*(idF i k*A k j)) λk _=>?_).trans ((Q7 _ _ _).trans ?_))
  ·show(if i=a then 0-idF i k else idF i k)*A k j=_
   rw[if_pos z,ZaI,Zax,Zax,ZK]
  ·show(-1)*prodF n idF A i j=0-prodF n idF A i j
   omega
 ·rw[if_neg z]
  refine Eq.symm ((Qm (g:=λk=>idF i k*A k j) λk _=>?_).trans (Qas A j hi))
  show(if i=a then 0-idF i k else idF i k)*A k j=_
  rw[if_neg z]
theorem Q9.neg{n a:Nat}{A:Nat->Nat->Int}{d:Nat->Int}(h:Q9 n A d):Q9 n (Qkc a A) d:=by
 have u:Qan n (Qkc a idF) (Qkc a idF):=λi j hi hj=>by
  rw[← Qn2 _ i j hi hj]
  unfold Qkc
  by_cases z:i=a
  ·rw[if_pos z,if_pos z];omega
  ·rw[if_neg z,if_neg z]
 exact(h.left u u).congr (Qn2 A)
def Qbr(t:Int)(k n:Nat)(A:Nat->Nat->Int):Prop:=∀σ τ:Nat->Nat,(∀r,r<k->σ r<n)->(∀j,j<k->τ j<n)->t∣det k λj r=>A (σ j) (τ r)
theorem Qbr.congr{t:Int}{k n:Nat}{A B:Nat->Nat->Int}(h:Qbr t k n A)(e:EqT n B A):Qbr t k n B:=λσ τ hs ht=>by
 rw[QA (k:=λj r=>A (σ j) (τ r)) λj hj r hr=>e _ _ (hs j hj) (ht r hr)]
 exact h σ τ hs ht
theorem Qbr.turn{t:Int}{k n:Nat}{A:Nat->Nat->Int}(h:Qbr t k n A):Qbr t k n (Qcl A):=λσ τ hs ht=>by
 rw[← QaV]
 exact h τ σ ht hs
theorem Qbr.left{t:Int}{k n:Nat}{A:Nat->Nat->Int}(h:Qbr t k n A)(P:Nat->Nat->Int):Qbr t k n (prodF n P A):=λσ τ hs ht=>by
 have key:∀m,m<=k->∀σ':Nat->Nat,(∀r,r<k->σ' r<n)->t∣det k λj r=>if j<m then prodF n P A (σ j) (τ r)else A (σ' j) (τ r):=by
  intro m
  induction m with
  | zero=>
   intro _ σ' hs'
   rw[QA (k:=λj r=>A (σ' j) (τ r)) λj _ r _=>if_neg (Nat.not_lt_zero j)]
   exact h σ' τ hs' ht
  | succ m ih=>
   intro hm σ' hs'
   have e:(det k λj r=>if j<m+1 then prodF n P A (σ j) (τ r)else A (σ' j) (τ r))=det k (cup (λj r=>if j<m then prodF n P A (σ j) (τ r)else A (σ' j) (τ r)) m λr=>sm n λs=>P (σ m) s*A s (τ r)):=QA λj _ r _=>by
    by_cases z:j=m
    ·subst z
     rw[Qw,if_pos (ZaT _),QdP]
     rfl
    ·rw[Qu _ _ z]
     by_cases y:j<m
     ·rw[if_pos y,if_pos (by omega)]
     ·rw[if_neg y,if_neg (by omega)]
   rw[e,QeH (by omega) (λs=>P (σ m) s) λs r=>A s (τ r)]
   refine QnH λs hsn=>Int.dvd_trans ?_ (Int.dvd_mul_left _ _)
   have:=ih (by omega) (λj=>if j=m then s else σ' j) λr hr=>by
    show(if r=m then s else σ' r)<n
    split
    ·exact hsn
    ·exact hs' r hr
   rw[QA (k:=λj r=>if j<m then prodF n P A (σ j) (τ r)else A (if j=m then s else σ' j) (τ r)) λj _ r _=>?_]
   ·exact this
   ·by_cases z:j=m
    ·subst z
     rw[Qw,if_neg (Zad _),if_pos rfl]
    ·rw[Qu _ _ z,if_neg z]
 have:=key k (Zh k) σ hs
 rw[QA (k:=λj r=>if j<k then prodF n P A (σ j) (τ r)else A (σ j) (τ r)) λj hj r _=>by rw[if_pos hj]]
 exact this
theorem Qbr.right{t:Int}{k n:Nat}{A:Nat->Nat->Int}(h:Qbr t k n A)(P:Nat->Nat->Int):Qbr t k n (prodF n A P):=by
 have:=(h.turn.left (Qcl P)).turn
 rw[Qgm]at this
 exact this
theorem Q9.all{t:Int}{k n:Nat}{A:Nat->Nat->Int}{d:Nat->Int}(h:Q9 n A d):Qbr t k n A↔Qbr t k n (Q4 d):=by
 obtain⟨L,Lb,R,Rb,h1,h2,h3⟩:=h
 exact⟨λg=>((g.left L).right R).congr h3.symm,λg=>((g.right Rb).left Lb).congr (Q9.back h1.2 h2.1 h3)⟩
theorem QtN{A:Nat->Nat->Int}{τ:Nat->Nat}{l1 l2:List Nat}(h:l1.Perm l2):∀p:List Nat,(det (p++l1).length λj r=>A ((p++l1).getD j 0) (τ r)).natAbs=(det (p++l2).length λj r=>A ((p++l2).getD j 0) (τ r)).natAbs:=by
 induction h with
 | nil=>exact λ_=>rfl
 | cons x _ ih=>
  intro p
  have:=ih (p++[x])
  simpa only[ZaP,List.singleton_append]using this
 | trans _ _ i1 i2=>exact λp=>(i1 p).trans (i2 p)
 | swap a b l=>
  intro p
  have hl:(p++a::b::l).length=(p++b::a::l).length:=by simp
  have hg:∀(x y:Nat) (j:Nat),(p++x::y::l).getD j 0=if j=p.length then x else if j=p.length+1 then y else(p++a::b::l).getD j 0:=λx y j=>by
   by_cases h1:j=p.length
   ·subst h1;rw[if_pos rfl];simp
   ·rw[if_neg h1]
    by_cases h2:j=p.length+1
    ·subst h2;rw[if_pos rfl];simp
    ·rw[if_neg h2]
     by_cases h3:j<p.length
     ·rw[Zv,Zv,Zag h3,Zag h3]
     ·obtain⟨i,rfl⟩:∃i,j=p.length+(i+2):=⟨j-p.length-2,by omega⟩
      rw[Zv,Zv,ZaK (by omega),ZaK (by omega),ZbY]
      rfl
  have hc:p.length<(p++a::b::l).length:=by simp
  have hd:p.length+1<(p++a::b::l).length:=by simp
  have e:∀x y,(det (p++a::b::l).length λj r=>A ((p++x::y::l).getD j 0) (τ r))=det (p++a::b::l).length (cup (cup (λj r=>A ((p++a::b::l).getD j 0) (τ r)) p.length λr=>A x (τ r)) (p.length+1) λr=>A y (τ r)):=λx y=>QA λj _ r _=>by
   rw[hg x y j]
   by_cases h2:j=p.length+1
   ·subst h2;rw[Qw,if_neg (by omega),if_pos rfl]
   ·rw[Qu _ _ h2]
    by_cases h1:j=p.length
    ·subst h1;rw[Qw,if_pos rfl]
    ·rw[Qu _ _ h1,if_neg h1,if_neg h2]
  have e1:=e b a
  have e2:=e a b
  rw[Qbf hc hd (by omega)]at e1
  rw[← e2]at e1
  rw[hl]at e1 e2 ⊢
  rw[e1,Int.natAbs_neg]
def Qfl(n:Nat)(l:List Nat):Prop:=l.Pairwise (· < ·)/\∀x∈l,x<n
theorem Qmv{t:Int}{k n:Nat}{A:Nat->Nat->Int}{τ:Nat->Nat}(h:∀l:List Nat,Qfl n l->l.length=k->t∣det k λj r=>A (l.getD j 0) (τ r))(σ:Nat->Nat)(hs:∀r,r<k->σ r<n):t∣det k λj r=>A (σ j) (τ r):=by
 obtain⟨l,hl⟩:∃l,l=(List.range k).map σ:=⟨_,rfl⟩
 have ll:l.length=k:=by rw[hl];simp
 have e1:(det k λj r=>A (σ j) (τ r))=det k λj r=>A (l.getD j 0) (τ r):=QA λj hj r _=>by
  rw[hl,Zv,Zm,ZH hj];rfl
 have hp:=List.mergeSort_perm l (λa b=>decide (a<=b))
 have ms:(l.mergeSort λa b=>decide (a<=b)).length=k:=hp.length_eq.trans ll
 have e2:=QtN (A:=A) (τ:=τ) hp []
 simp only[Zbk,ms,ll]at e2
 rw[e1,← Int.dvd_natAbs,← e2,Int.dvd_natAbs]
 have so:(l.mergeSort λa b=>decide (a<=b)).Pairwise (λa b=>decide (a<=b)=true):=List.pairwise_mergeSort (λa b c h1 h2=>by simp at *;omega) (λa b=>by simp;omega) l
 have mem:∀x∈l.mergeSort λa b=>decide (a<=b),x<n:=λx hx=>by
  have:=hp.mem_iff.mp hx
  rw[hl]at this
  obtain⟨r,hr,rfl⟩:=ZS.mp this
  exact hs r (Zk.mp hr)
 generalize (l.mergeSort λa b=>decide (a<=b))=m at ms so mem
 by_cases nd:m.Nodup
 ·refine h m ⟨(so.and nd).imp λ{a b} h=>?_,mem⟩ ms
  have:=of_decide_eq_true h.1
  omega
 ·have⟨i,j,hi,hj,hij,e⟩:∃(i j:Nat) (hi:i<m.length) (hj:j<m.length),i<j/\m[i]=m[j]:=Zah λz=>nd (ZbN.mpr λi j hi hj hij e=>z ⟨i,j,hi,hj,hij,e⟩)
  rw[Qeq (i:=i) (j:=j) (by omega) (by omega) (by omega) (by
   funext r
   show A (m.getD i 0) (τ r)=A (m.getD j 0) (τ r)
   rw[Zv,Zv,ZT hi,ZT hj,e])]
  exact Int.dvd_zero t
theorem Qn1{t:Int}{k n:Nat}{A:Nat->Nat->Int}(h:∀I J:List Nat,Qfl n I->Qfl n J->I.length=k->J.length=k->t∣det k λj r=>A (I.getD j 0) (J.getD r 0)):Qbr t k n A:=λσ τ hs ht=>by
 refine Qmv (λI hI lI=>?_) σ hs
 rw[← QaV]
 refine Qmv (A:=Qcl A) (τ:=λr=>I.getD r 0) (λJ hJ lJ=>?_) τ ht
 rw[← QaV]
 exact h I J hI hJ lI lJ
theorem Qfl.ge{n:Nat}{l:List Nat}(h:Qfl n l):∀j,j<l.length->j<=l.getD j 0
 | 0,_=>Zac _
 | j+1,hj=>by
  have ih:=h.ge j (by omega)
  have:=ZbN.mp h.1 j (j+1) (by omega) hj (by omega)
  rw[Zv,ZT (by omega)]at ih
  rw[Zv,ZT hj]
  simp only[Option.getD_some]at *
  omega
theorem Qfl.lt{n:Nat}{l:List Nat}(h:Qfl n l){j:Nat}(hj:j<l.length):l.getD j 0<n:=by
 rw[Zv,ZT hj]
 exact h.2 _ (ZbW hj)
theorem QnF{k:Nat}(x:Nat->Int)(m:Nat->Nat->Int):∀l,l<=k->(det k λj r=>if j<l then x j*m j r else m j r)=QI x l*det k m
 | 0,_=>by
  rw[QA (k:=m) λj _ r _=>if_neg (Nat.not_lt_zero j)]
  exact(ZK _).symm
 | l+1,hl=>by
  have e:(det k λj r=>if j<l+1 then x j*m j r else m j r)=det k (cup (λj r=>if j<l then x j*m j r else m j r) l λr=>x l*m l r):=QA λj _ r _=>by
   by_cases z:j=l
   ·subst z;rw[Qw,if_pos (ZaT _)]
   ·rw[Qu _ _ z]
    by_cases y:j<l
    ·rw[if_pos y,if_pos (by omega)]
    ·rw[if_neg y,if_neg (by omega)]
  have e2:(cup (λj r=>if j<l then x j*m j r else m j r) l λr=>m l r)=λj r=>if j<l then x j*m j r else m j r:=by
   funext j r
   by_cases z:j=l
   ·subst z;rw[Qw,if_neg (Zad _)]
   ·rw[Qu _ _ z]
  rw[e,QdC (by omega),e2,QnF x m l (by omega),← ZF]
  show x l*QI x l*det k m=QI x l*x l*det k m
  rw[ZV (x l)]
theorem QmB{a b:Nat->Int}:∀{n:Nat},(∀k,k<n->a k∣b k)->QI a n∣QI b n
 | 0,_=>Int.dvd_refl _
 | n+1,h=>Int.mul_dvd_mul (QmB λk hk=>h k (by omega)) (h n (by omega))
theorem QxB{n k:Nat}{d:Nat->Int}(nxt:∀j,j+1<n->d j∣d (j+1)):Qbr (QI d k) k n (Q4 d):=Qn1 λI J hI hJ lI lJ=>by
 have e:(det k λj r=>Q4 d (I.getD j 0) (J.getD r 0))=QI (λj=>d (I.getD j 0)) k*det k λj r=>idF (I.getD j 0) (J.getD r 0):=by
  rw[← QnF (k:=k) (λj=>d (I.getD j 0)) (λj r=>idF (I.getD j 0) (J.getD r 0)) k (Zh k)]
  exact QA λj hj r _=>by rw[if_pos hj];rfl
 rw[e]
 exact Int.dvd_trans (QmB λj hj=>QgB nxt (hI.ge j (by omega)) (hI.lt (by omega))) (Int.dvd_mul_right _ _)
theorem QxC{n k:Nat}{d:Nat->Int}{t:Int}(hk:k<=n)(h:Qbr t k n (Q4 d)):t∣QI d k:=by
 have:=h (λj=>j) (λj=>j) (λr hr=>by omega) (λr hr=>by omega)
 rw[show(det k λj r=>Q4 d j r)=QI d k from(Qhx k (Q4 d) λj r _ _ hr=>by unfold Q4 idF;rw[if_neg (by omega),Zz]).trans (Qmc k d)]at this
 exact this
theorem Q9.share{n k:Nat}{A:Nat->Nat->Int}{d:Nat->Int}(h:Q9 n A d)(nxt:∀j,j+1<n->d j∣d (j+1))(pos:∀j,j<n->0<d j)(hk:k<=n){g:Int}(g0:0<=g)(hg:∀t,t∣g↔∀I J:List Nat,Qfl n I->Qfl n J->I.length=k->J.length=k->t∣det k λj r=>A (I.getD j 0) (J.getD r 0)):g=QI d k:=by
 refine Int.dvd_antisymm g0 (Int.le_of_lt (Qfb λj hj=>pos j (by omega))) ?_ ?_
 ·exact QxC hk (h.all.mp (Qn1 ((hg g).mp (Int.dvd_refl g))))
 ·exact(hg _).mpr λI J hI hJ lI lJ=>h.all.mpr (QxB nxt) (λj=>I.getD j 0) (λj=>J.getD j 0) (λr hr=>hI.lt (by omega)) (λr hr=>hJ.lt (by omega))
noncomputable def uE(k:Nat):Nat->Int:=λr=>if r=k then 1 else 0
theorem Qu2{k:Nat}{m:Nat->Nat->Int}(h1:∀r,r<k->m (k+1) r=0)(h2:∀j,j<k->m j (k+1)=0):det (k+2) m=m (k+1) (k+1)*det (k+1) m-m (k+1) k*m k (k+1)*det k m:=by
 have e1:det (k+2) m=m (k+1) k*det (k+2) (cup m (k+1) (uE k))+m (k+1) (k+1)*det (k+2) (cup m (k+1) (uE (k+1))):=by
  rw[← QeK _ _ (uE k) (uE k) (k+2) m (k+1) (by omega) (uE k) (uE (k+1))]
  refine QA λj _ r hr=>?_
  by_cases z:j=k+1
  ·subst z
   rw[Qw]
   show m (k+1) r=m (k+1) k*(if r=k then 1 else 0)+m (k+1) (k+1)*(if r=k+1 then 1 else 0)
   by_cases a:r=k
   ·rw[a,if_pos rfl,if_neg (by omega)];omega
   ·rw[if_neg a]
    by_cases b:r=k+1
    ·rw[b,if_pos rfl];omega
    ·rw[if_neg b,h1 r (by omega)];omega
  ·rw[Qu _ _ z]
 have e2:det (k+2) (cup m (k+1) (uE (k+1)))=det (k+1) m:=by
  rw[Qf9 (k+1) _ (λr hr=>by rw[Qw];exact if_neg (by omega)) (by rw[Qw];exact if_pos rfl)]
  exact QA λj hj r _=>by rw[Qu _ _ (by omega)]
 have e3:det (k+2) (cup m (k+1) (uE k))=m k (k+1)* -det k m:=by
  rw[← QaV]
  obtain⟨X,hX⟩:∃X:Nat->Nat->Int,X=λj r=>cup m (k+1) (uE k) r j:=⟨_,rfl⟩
  rw[← hX]
  have x1:∀r,r<k+2->X (k+1) r=m k (k+1)*uE k r:=λr hr=>by
   rw[hX]
   show cup m (k+1) (uE k) r (k+1)=_
   by_cases z:r=k+1
   ·subst z
    rw[Qw]
    show(if k+1=k then(1:Int)else 0)=m k (k+1)*(if k+1=k then 1 else 0)
    rw[if_neg (by omega),Zz]
   ·rw[Qu _ _ z]
    show m r (k+1)=m k (k+1)*(if r=k then 1 else 0)
    by_cases y:r=k
    ·rw[y,if_pos rfl,Zab]
    ·rw[if_neg y,Zz,h2 r (by omega)]
  have x2:det (k+2) X=m k (k+1)*det (k+2) (cup X (k+1) (uE k)):=by
   rw[← QdC (by omega)]
   refine QA λj _ r hr=>?_
   by_cases z:j=k+1
   ·subst z;rw[Qw,x1 r hr]
   ·rw[Qu _ _ z]
  rw[x2]
  congr 1
  have x3:det (k+2) (cup X (k+1) (uE k))=det (k+2) (cup (cup X k (X k)) (k+1) (uE k)):=by rw[Q2]
  rw[x3,Qbf (by omega) (by omega) (by omega)]
  congr 1
  rw[← QaV,Qf9 (k+1) _ (λr hr=>?_) ?_]
  ·rw[QaV (k+1) (cup (cup X k (uE k)) (k+1) (X k)),Qf9 k _ (λr hr=>by rw[Qu _ _ (by omega),Qw];exact if_neg (by omega)) (by rw[Qu _ _ (by omega),Qw];exact if_pos rfl),← QaV]
   refine QA λj hj r hr=>?_
   rw[Qu _ _ (by omega),Qu _ _ (by omega),hX]
   show cup m (k+1) (uE k) j r=m j r
   rw[Qu _ _ (by omega)]
  ·show cup (cup X k (uE k)) (k+1) (X k) (k+1) (k+1)=1
   rw[Qw,hX]
   show cup m (k+1) (uE k) (k+1) k=1
   rw[Qw];exact if_pos rfl
  ·show cup (cup X k (uE k)) (k+1) (X k) r (k+1)=0
   rw[Qu _ _ (by omega)]
   by_cases z:r=k
   ·subst z;rw[Qw];exact if_neg (by omega)
   ·rw[Qu _ _ z,hX]
    show cup m (k+1) (uE k) (k+1) r=0
    rw[Qw];exact if_neg z
 rw[e1,e2,e3,ZbE,ZbE,ZF]
 omega
theorem QuK{n b:Nat}(hn:0<n)(T:Nat->Nat->Int):(det n λj r=>T ((j+b) % n) ((r+b) % n))=det n T:=by
 have e1:=Qlo hn (λj r=>T j ((r+b) % n)) b
 have e2:=Qlo hn (λj r=>T r j) b
 rw[QaV n T]at e2
 have e3:(det n λj r=>T j ((r+b) % n))=det n (Qen n (λj r=>T r j) b):=by rw[← QaV];rfl
 rw[e3,e2,← ZF,Qok,ZK]at e1
 exact e1
noncomputable def Qbh(n m:Nat):List Nat:=(List.range n).filter λi=>decide (Builtin.bitAnd ((m:Int) / 2^i) 1=1)
noncomputable def QcL(n k:Nat):List (List Nat):=((List.range (2^n)).map (Qbh n)).filter λl=>decide (l.length=k)
theorem QiL(n:Nat)(p:Nat->Bool):Qfl n ((List.range n).filter p):=⟨(List.pairwise_lt_range (n:=n)).filter p,λx hx=>Zk.mp (Zaq.mp hx).1⟩
theorem Qr7{n:Nat}{l:List Nat}(h:Qfl n l):l=(List.range n).filter λi=>decide (i∈l):=by
 have hp:l.Perm ((List.range n).filter λi=>decide (i∈l)):=by
  refine(List.perm_ext_iff_of_nodup (h.1.imp λh=>ZU h) ((QiL n _).1.imp λh=>ZU h)).mpr λx=>?_
  rw[Zaq,Zk,decide_eq_true_eq]
  exact⟨λhx=>⟨h.2 x hx,hx⟩,λhx=>hx.2⟩
 exact hp.eq_of_pairwise (λa b _ _ h1 h2=>absurd h1 (Nat.lt_asymm h2)) h.1 (QiL n _).1
theorem Qyu:∀q0 q1 q2 q3:Bool,∀i,i<4->decide (Builtin.bitAnd (((q0.toNat+2*q1.toNat+4*q2.toNat+8*q3.toNat:Nat):Int) / 2^i) 1=1)=([q0,q1,q2,q3].getD i false):=by decide+kernel
theorem QxP{n:Nat}(n4:n<=4)(p:Nat->Bool):∃m,m<2^n/\Qbh n m=(List.range n).filter p:=by
 refine⟨(p 0 && decide (0<n)).toNat+2*(p 1 && decide (1<n)).toNat+4*(p 2 && decide (2<n)).toNat+8*(p 3 && decide (3<n)).toNat,?_,?_⟩
 ·have hc:n=0∨n=1∨n=2∨n=3∨n=4:=by omega
  rcases hc with rfl | rfl | rfl | rfl | rfl<;>cases p 0<;>cases p 1<;>cases p 2<;>cases p 3<;>decide
 ·refine List.filter_congr λi hi=>?_
  have hi:=Zk.mp hi
  rw[Qyu _ _ _ _ i (by omega)]
  have hc:i=0∨i=1∨i=2∨i=3:=by omega
  rcases hc with rfl | rfl | rfl | rfl<;>simp[hi]
theorem QcN{n k:Nat}(n4:n<=4)(l:List Nat):l∈QcL n k↔Qfl n l/\l.length=k:=by
 unfold QcL
 rw[Zaq,decide_eq_true_eq,ZS]
 refine⟨λ⟨⟨m,_,e⟩,h⟩=>⟨e▸QiL n _,h⟩,λ⟨h1,h2⟩=>⟨?_,h2⟩⟩
 obtain⟨m,hm,e⟩:=QxP n4 λi=>decide (i∈l)
 exact⟨m,Zk.mpr hm,e.trans (Qr7 h1).symm⟩
theorem Quk{fa:DE}{ρ:En}{r:HS.R}{l:List Nat}(h:fa ρ=some r)(e:r.d=Qa8 l):dBf QaD (Qc fa Qg) ρ=some ⟨.int l.length,true,[]⟩:=by
 unfold dBf
 rw[Qq h (QS _),Za,e]
 show some (HS.R.mk (.int ((l.map λ(p:Nat)=>D.int (p:Int)).length:Nat)) true [])=_
 rw[Zs]
noncomputable def Qe7:DS:=(Qe (Qo 2 (QaC Qg)) (Qe (Qbl (QaY (dOp QrC (dC (.int 1)) (Qa 0))) (.nm 3) (Qe (Qo 4 (QM (QaY (Qa 0)) (.nm 1) [none,none,some 3] (QO (dOp gEq (dOp Qu4 (dOp QrU (Qa 2) (Qa 1)) (dC (.int 1))) (dC (.int 1)))) (Qa 1))) (Qe (sIf (QO (dOp gEq (dBf QaD (Qc (Qa 4) Qg)) (Qa 1))) (Qe (QdS 2 Qal (Qa 4)) Qp) Qp) Qp))) (Qe (QP (Qa 2)) Qp)))
def QgV(d:Den):Prop:=∀n k:Nat,n<=4->d [.int n,.int k]=some (.lst ((QcL n k).map Qa8),true)
theorem Qoz:QgV (Qn 5 Qe7):=λn k n4=>QX (by
 refine run_seq (Qh (r:=⟨.lst [],true,[]⟩) rfl ?_)
 rw[Qi]
 have p16:2^n<=16:=Zi (ZD (by decide) n4) (by decide)
 have esh:dOp QrC (dC (.int 1)) (Qa 0) [some (.int n,true),some (.int k,true),some (.lst [],true),none,none]=some ⟨.int ((2^n:Nat):Int),true,[]⟩:=by
  refine Qbb (ra:=⟨.int 1,true,[]⟩) (rb:=⟨.int n,true,[]⟩) rfl rfl ?_
  show(if(1:Int).natAbs<2^64/\(0:Int)<=n/\(n:Int)<=64 then some (D.int (1*2^(n:Int).toNat))else none)=_
  rw[if_pos ⟨by decide,by omega,by omega⟩,ZL,ZK]
  simp
 refine Qar (P:=λρ=>∃j3 j4,ρ=[some (.int n,true),some (.int k,true),some (.lst ((QcL n k).map Qa8),true),j3,j4]) ?_ ?_
 ·refine QaF (toD:=λ(m:Nat)=> .int (m:Int)) (List.range (2^n)) (λm ρ=>∃j3 j4,ρ=[some (.int n,true),some (.int k,true),some (.lst ((((List.range m).map (Qbh n)).filter λl=>decide (l.length=k)).map Qa8),true),j3,j4]) (Qbm (n:=2^n) esh rfl (by omega)) rfl ⟨none,none,rfl⟩ ?_ (λρ h=>by rw[Zo]at h;exact h)
  rintro m m' ρ hm ⟨j3,j4,rfl⟩
  have hm':m<2^n/\m=m':=by
   obtain⟨h1,h2⟩:=Zg.mp hm
   simp at h1 h2;exact⟨h1,h2⟩
  obtain⟨hmn,rfl⟩:=hm'
  rw[ZaY,ZZ,Zbn,ZZ]
  have lf:((((List.range m).map (Qbh n)).filter λl=>decide (l.length=k)).map Qa8).length<=m:=by
   rw[Zs]
   exact Zi (Zbb _ _) (by simp)
  generalize (((List.range m).map (Qbh n)).filter λl=>decide (l.length=k)).map Qa8=F at lf
  refine⟨[some (.int n,true),some (.int k,true),some (.lst F,true),some (.int m,true),j4],rfl,?_⟩
  refine run_seq (Qh (r:=⟨Qa8 (Qbh n m),true,[]⟩) (QeL (toD:=λ(i:Nat)=> .int (i:Int)) (keep:=λi=>decide (Builtin.bitAnd ((m:Int) / 2^i) 1=1)) (out:=λ(i:Nat)=> .int (i:Int)) (List.range n) (Qbm (n:=n) (r:=⟨.int n,true,[]⟩) rfl rfl (by omega)) rfl λi _=>⟨[none,some (.int i,true),some (.int m,true)],rfl,QL (Qa0 (a:=Builtin.bitAnd ((m:Int) / 2^i) 1) (b:=1) (Qbb (d:= .int (Builtin.bitAnd ((m:Int) / 2^i) 1)) (Qx3 (a:=m) (k:=i) (ra:=⟨.int m,true,[]⟩) (rb:=⟨.int i,true,[]⟩) rfl rfl rfl rfl) (rb:=⟨.int 1,true,[]⟩) rfl rfl) rfl (QaL _ _) rfl) rfl,λ_=>⟨⟨.int i,true,[]⟩,rfl,rfl,rfl⟩⟩) ?_)
  rw[Qi]
  change Run _ [some (.int n,true),some (.int k,true),some (.lst F,true),some (.int m,true),some (Qa8 (Qbh n m),true)] _
  refine run_seq (Qaa (b:=decide (((Qbh n m).length:Int)=k)) (QL (Qa0 (a:=(Qbh n m).length) (b:=k) (Quk (l:=Qbh n m) (r:=⟨Qa8 (Qbh n m),true,[4]⟩) rfl rfl) rfl (rb:=⟨.int k,true,[]⟩) rfl rfl) rfl) (λh=>?_) (λh=>?_))
  ·have h1:(Qbh n m).length=k:=by have:=of_decide_eq_true h;omega
   refine run_seq (QrZ (x:=2) (y:=4) (xs:=F) (d:=Qa8 (Qbh n m)) rfl rfl rfl (by decide) (by omega) (Qt (Qt ⟨some (.int m,true),none,?_⟩)))
   simp[h1]
  ·have h1:¬(Qbh n m).length=k:=by have:=of_decide_eq_false h;omega
   refine Qt (Qt ⟨some (.int m,true),some (Qa8 (Qbh n m),true),?_⟩)
   simp[h1]
 ·rintro ρ ⟨j3,j4,rfl⟩
  exact QC (r:=⟨.lst ((QcL n k).map Qa8),true,[2]⟩) rfl ⟨rfl,rfl⟩)
theorem map_getD{β:Type}(l:List Nat)(f:Nat->β):l.map f=(List.range l.length).map λr=>f (l.getD r 0):=by
 refine List.ext_getElem (by simp) λi h1 h2=>?_
 have hi:i<l.length:=by simpa using h1
 simp only[List.getElem_map,List.getElem_range]
 rw[Zv,ZT hi];rfl
noncomputable def minD(A:Nat->Nat->Int)(k:Nat)(I J:List Nat):Int:=det k λj r=>A (I.getD j 0) (J.getD r 0)
noncomputable def QcT(Qbk:Den)(QaZ:Den)(QbX:Den):DS:=(Qe (Qo 2 (dC (.int 0))) (Qe (Qbl (QY (Qj 2 Qbk [] (Qc (dBf QaD (Qc (Qa 0) Qg)) (Qc (Qa 1) Qg)))) (.nm 3) (Qe (Qbl (QY (Qj 2 Qbk [] (Qc (dBf QaD (Qc (Qa 0) Qg)) (Qc (Qa 1) Qg)))) (.nm 4) (Qe (Qo 5 (QM (QY (Qa 3)) (.nm 1) [none,none,some 4,some 0] QW (QM (QY (Qa 2)) (.nm 1) [none,none,some 1,some 3] QW (Qr (Qr (Qa 3) (Qa 2)) (Qa 1))))) (Qe (Qo 2 (Qj 2 QbX [] (Qc (Qa 2) (Qc (Qj 1 QaZ [] (Qc (Qa 5) Qg)) Qg)))) Qp))) Qp)) (Qe (QP (Qa 2)) Qp)))
def Qim(d:Den):Prop:=∀(n k:Nat) (A:Nat->Nat->Int),n<=4->1<=k->k<=n->(∀i j,i<n->j<n->(A i j).natAbs<=2^240)->∃g,d [Qd n n A,.int k]=some (.int g,true)/\0<=g/\∀t,t∣g↔∀I J,I∈QcL n k->J∈QcL n k->t∣minD A k I J
theorem Qq1{dc dm dv:Den}(hc:QgV dc)(hm:QdG 4 dm)(hv:Ql8 dv):Qim (Qn 6 (QcT dc dm dv)):=λn k A n4 k1 kn hA=>by
 have hC:∀l∈QcL n k,(∀x∈l,x<n)/\l.length=k:=λl hl=>let ⟨h1,h2⟩:=(QcN n4 l).mp hl;⟨h1.2,h2⟩
 have ec:=hc n k n4
 generalize QcL n k=Cs at hC ec
 have key:Run (QcT dc dm dv) [some (Qd n n A,false),some (.int k,true),none,none,none,none] (Rt λd fr=>fr=true/\∃g,d= .int g/\0<=g/\∀t,t∣g↔∀I J,I∈Cs->J∈Cs->t∣minD A k I J):=by
  refine run_seq (Qh (r:=⟨.int 0,true,[]⟩) rfl ?_)
  rw[Qi]
  have ech:∀{ρ:En},ρ[0]? =some (some (Qd n n A,false))->ρ[1]? =some (some (.int k,true))->QY (Qj 2 dc [] (Qc (dBf QaD (Qc (Qa 0) Qg)) (Qc (Qa 1) Qg))) ρ=some ⟨Cs.map Qa8,[]⟩:=λh0 h1=>Q0 (Ql (Qq (QcA (n:=n) (m:=n) (f:=A) (QaX h0) rfl) (Qq (QaX h1) (QS _))) ec rfl) rfl
  refine Qar (P:=λρ=>∃g j3 j4 j5,(0<=g/\∀t,t∣g↔∀I J,I∈Cs->J∈Cs->t∣minD A k I J)/\ρ=[some (Qd n n A,false),some (.int k,true),some (.int g,true),j3,j4,j5]) ?_ ?_
  ·refine QaF (toD:=Qa8) Cs (λi ρ=>∃g j3 j4 j5,(0<=g/\∀t,t∣g↔∀I J,I∈Cs.take i->J∈Cs->t∣minD A k I J)/\ρ=[some (Qd n n A,false),some (.int k,true),some (.int g,true),j3,j4,j5]) (ech rfl rfl) rfl ⟨0,none,none,none,⟨by decide,λt=>⟨λ_ I J h=>by simp at h,λ_=>Int.dvd_zero t⟩⟩,rfl⟩ ?_ (λρ h=>by rw[Zbh]at h;exact h)
   rintro i I ρ hI ⟨g,j3,j4,j5,⟨g0,hg⟩,rfl⟩
   obtain⟨iI,lI⟩:=hC I (Zao hI)
   refine⟨[some (Qd n n A,false),some (.int k,true),some (.int g,true),some (Qa8 I,false),j4,j5],rfl,?_⟩
   refine Qar (P:=λρ=>∃g j4 j5,(0<=g/\∀t,t∣g↔(∀I J,I∈Cs.take i->J∈Cs->t∣minD A k I J)/\∀J,J∈Cs->t∣minD A k I J)/\ρ=[some (Qd n n A,false),some (.int k,true),some (.int g,true),some (Qa8 I,false),j4,j5]) ?_ ?_
   ·refine QaF (toD:=Qa8) Cs (λj ρ=>∃g j4 j5,(0<=g/\∀t,t∣g↔(∀I J,I∈Cs.take i->J∈Cs->t∣minD A k I J)/\∀J,J∈Cs.take j->t∣minD A k I J)/\ρ=[some (Qd n n A,false),some (.int k,true),some (.int g,true),some (Qa8 I,false),j4,j5]) (ech rfl rfl) rfl ⟨g,j4,j5,⟨g0,λt=>(hg t).trans ⟨λh=>⟨h,λJ hJ=>by simp at hJ⟩,λh=>h.1⟩⟩,rfl⟩ ?_ (λρ h=>by rw[Zbh]at h;exact h)
    rintro j J ρ hJ ⟨g,j4,j5,⟨g0,hg⟩,rfl⟩
    obtain⟨iJ,lJ⟩:=hC J (Zao hJ)
    refine⟨[some (Qd n n A,false),some (.int k,true),some (.int g,true),some (Qa8 I,false),some (Qa8 J,false),j5],rfl,?_⟩
    have ep:(D.lst (I.map λa=>D.lst (J.map λb=> .int (A a b))))=Qd k k λr c=>A (I.getD r 0) (J.getD c 0):=by
     rw[map_getD I,lI]
     refine congrArg D.lst (ZO λr _=>?_)
     rw[map_getD J,lJ]
     rfl
    refine run_seq (Qh (r:=⟨Qd k k λr c=>A (I.getD r 0) (J.getD c 0),true,[]⟩) ((QN (toD:=λ(a:Nat)=> .int (a:Int)) (out:=λ(a:Nat)=>D.lst (J.map λb=> .int (A a b))) I (Q0 (r:=⟨Qa8 I,false,[]⟩) rfl rfl) rfl λa ha=>⟨[none,some (.int a,true),some (Qa8 J,false),some (Qd n n A,false)],rfl,⟨D.lst (J.map λb=> .int (A a b)),true,[]⟩,QN (toD:=λ(b:Nat)=> .int (b:Int)) (out:=λ(b:Nat)=> .int (A a b)) J (Q0 (r:=⟨Qa8 J,false,[]⟩) rfl rfl) rfl (λb hb=>⟨[none,some (.int b,true),some (.int a,true),some (Qd n n A,false)],rfl,⟨.int (A a b),true,[]⟩,QaN (m:=n) (f:=A a) (i:=b) ((Qef (m:=n) (n:=n) (f:=A) (i:=(a:Int)) (ra:=⟨Qd n n A,false,[]⟩) (rb:=⟨.int a,true,[]⟩) rfl rfl rfl rfl (by omega) (by have:=iI a ha;omega)).trans (by rw[ZL])) rfl (rb:=⟨.int b,true,[]⟩) rfl rfl (iJ b hb),rfl,rfl⟩),rfl,rfl⟩).trans (congrArg (λd=>some (HS.R.mk d true [])) ep)) ?_)
    rw[Qi]
    have lt:∀{l:List Nat}{r:Nat},(∀x∈l,x<n)->l.length=k->r<k->l.getD r 0<n:=λ{l r} h e hr=>by
     rw[Zv,ZT (by omega)]
     exact h _ (ZbW _)
    have em:=hm k (λr c=>A (I.getD r 0) (J.getD c 0)) k1 (by omega) (by omega) λa ha b hb=>hA _ _ (lt iI lI ha) (lt iJ lJ hb)
    obtain⟨g',eg,h0,h⟩:=hv g (minD A k I J)
    refine run_seq (Qh (Ql (Qq (r:=⟨.int g,true,[]⟩) rfl (Qq (Ql (r:=⟨[Qd k k λr c=>A (I.getD r 0) (J.getD c 0)],true,[5]⟩) rfl em rfl) (QS _))) eg rfl) (Qt ?_))
    rw[Qi]
    refine⟨g',_,_,⟨h0,λt=>(h t).trans ?_⟩,rfl⟩
    rw[hg t,Zck,hJ]
    constructor
    ·rintro⟨⟨h1,h2⟩,h3⟩
     refine⟨h1,λK hK=>?_⟩
     rcases ZC.mp hK with z | z
     ·exact h2 K z
     ·have z:K=J:=by simpa using z
      rw[z];exact h3
    ·rintro⟨h1,h2⟩
     exact⟨⟨h1,λK hK=>h2 K (Zd _ hK)⟩,h2 J (Zb _ (by simp))⟩
   ·rintro ρ ⟨g,j4,j5,⟨g0,hg⟩,rfl⟩
    refine Qt ⟨g,_,j4,j5,⟨g0,λt=>(hg t).trans ?_⟩,rfl⟩
    rw[Zck,hI]
    constructor
    ·rintro⟨h1,h2⟩ K J hK hJ
     rcases ZC.mp hK with z | z
     ·exact h1 K J z hJ
     ·have z:K=I:=by simpa using z
      rw[z];exact h2 J hJ
    ·exact λh=>⟨λK J hK hJ=>h K J (Zd _ hK) hJ,λJ hJ=>h I J (Zb _ (by simp)) hJ⟩
  ·rintro ρ ⟨g,j3,j4,j5,h,rfl⟩
   exact QC (r:=⟨.int g,true,[]⟩) rfl ⟨rfl,g,rfl,h⟩
 obtain⟨out,h1,h2⟩:=key
 cases out with
 | rt d fr=>
  obtain⟨rfl,g,rfl,h⟩:=h2
  exact⟨g,by show Option.bind (QcT dc dm dv [some (Qd n n A,false),some (.int k,true),none,none,none,none]) outD=_;rw[h1];rfl,h⟩
 | _=>exact h2.elim
noncomputable def Qfe(Qcq:Den):DS:=(Qe (Qo 1 (QaC Qg)) (Qe (Qo 2 (dC (.int 1))) (Qe (Qbl (QdN (dC (.int 1)) (QQ (dBf QaD (Qc (Qa 0) Qg)) (dC (.int 1)))) (.nm 3) (Qe (Qo 4 (Qj 2 Qcq [] (Qc (Qa 0) (Qc (Qa 3) Qg)))) (Qe (sIf (QO (dOp gGt (dOp QbF (Qa 4) (Qa 2)) (dC (.int 1)))) (Qe (QdS 1 Qal (dOp QbF (Qa 4) (Qa 2))) Qp) Qp) (Qe (Qo 2 (Qaf (Qa 4))) Qp)))) (Qe (QP (Qa 1)) Qp))))
def QjW(d:Den):Prop:=∀(n:Nat) (A:Nat->Nat->Int) (e:Nat->Int),n<=4->(∀i j,i<n->j<n->(A i j).natAbs<=2^240)->Q9 n A e->(∀j,j+1<n->e j∣e (j+1))->(∀j,j<n->0<e j/\(e j).natAbs<2^300)->d [Qd n n A]=some (Qa5 (((List.range n).filter λk=>decide (1<e k)).map e),true)
theorem QkJ{e:Nat->Int}:∀{n:Nat},(∀j,j<n->(e j).natAbs<2^300)->(QI e n).natAbs<=2^(300*n)
 | 0,_=>by show(1:Int).natAbs<=2^(300*0);decide
 | n+1,h=>by
  show(QI e n*e n).natAbs<=_
  rw[Zaa,Nat.mul_add,Nat.mul_one,Nat.pow_add]
  exact Zbe (QkJ λj hj=>h j (by omega)) (Zbg (h n (by omega)))
theorem Qsk{ds:Den}(hs:Qim ds):QjW (Qn 5 (Qfe ds)):=λn A e n4 hA hM nxt pos=>QX (by
 refine run_seq (Qh (r:=⟨Qa5 [],true,[]⟩) rfl ?_)
 rw[Qi]
 refine run_seq (Qh (r:=⟨.int 1,true,[]⟩) rfl ?_)
 rw[Qi]
 refine Qar (P:=λρ=>∃j2 j3 j4,ρ=[some (Qd n n A,false),some (Qa5 (((List.range n).filter λk=>decide (1<e k)).map e),true),j2,j3,j4]) ?_ ?_
 ·refine QaF (toD:=λ(k:Nat)=> .int (1+(k:Int))) (List.range n) (λk ρ=>∃j3 j4,ρ=[some (Qd n n A,false),some (Qa5 (((List.range k).filter λk=>decide (1<e k)).map e),true),some (.int (QI e k),true),j3,j4]) (Qgp (n:=n) (i:=1) (j:=(n:Int)+1) (QaL _ _) rfl (Qac (a:=n) (b:=1) (QcA (n:=n) (m:=n) (f:=A) (r:=⟨Qd n n A,false,[]⟩) rfl rfl) rfl (QaL _ _) rfl) rfl (by omega) (by omega) (by decide) (by decide)) rfl ⟨none,none,rfl⟩ ?_ (λρ ⟨j3,j4,h⟩=>by rw[Zo]at h;exact⟨_,j3,j4,h⟩)
  rintro k k' ρ hk ⟨j3,j4,rfl⟩
  have hk':k<n/\k=k':=by
   obtain⟨h1,h2⟩:=Zg.mp hk
   simp at h1 h2;exact⟨h1,h2⟩
  obtain⟨hkn,rfl⟩:=hk'
  refine⟨[some (Qd n n A,false),some (Qa5 (((List.range k).filter λk=>decide (1<e k)).map e),true),some (.int (QI e k),true),some (.int (1+(k:Int)),true),j4],rfl,?_⟩
  obtain⟨g,eg,g0,hg⟩:=hs n (k+1) A n4 (by omega) (by omega) hA
  have eg1:g=QI e (k+1):=hM.share nxt (λj hj=>(pos j hj).1) (by omega) g0 λt=>(hg t).trans ⟨λh I J hI hJ lI lJ=>h I J ((QcN n4 I).mpr ⟨hI,lI⟩) ((QcN n4 J).mpr ⟨hJ,lJ⟩),λh I J hI hJ=>h I J ((QcN n4 I).mp hI).1 ((QcN n4 J).mp hJ).1 ((QcN n4 I).mp hI).2 ((QcN n4 J).mp hJ).2⟩
  rw[eg1]at eg
  refine run_seq (Qh (Ql (r:=⟨[Qd n n A,.int (1+(k:Int))],false,[]⟩) rfl ((congrArg (λz=>ds [Qd n n A,.int z]) (by omega:1+(k:Int)=((k+1:Nat):Int))).trans eg) rfl) ?_)
  rw[Qi]
  change Run _ [some (Qd n n A,false),some (Qa5 (((List.range k).filter λk=>decide (1<e k)).map e),true),some (.int (QI e k),true),some (.int (1+(k:Int)),true),some (.int (QI e (k+1)),true)] _
  have pk:0<QI e k:=Qfb λj hj=>(pos j (by omega)).1
  have bk:(QI e k).natAbs<2^2000:=ZR (QkJ λj hj=>(pos j (by omega)).2) (Nat.pow_lt_pow_right (by decide) (by omega))
  have ediv:∀{ρ:En},ρ[4]? =some (some (.int (QI e (k+1)),true))->ρ[2]? =some (some (.int (QI e k),true))->dOp QbF (Qa 4) (Qa 2) ρ=some ⟨.int (e k),true,[]⟩:=λh4 h2=>Qez (a:=QI e (k+1)) (b:=QI e k) (QaX h4) rfl (QaX h2) rfl (by omega) bk rfl
  rw[ZaY,Zbn,ZZ]
  have lf:(((List.range k).filter λk=>decide (1<e k)).map e).length<=k:=by
   rw[Zs]
   exact Zi (Zbb _ _) (by simp)
  generalize ((List.range k).filter λk=>decide (1<e k)).map e=F at lf
  refine Qar (P:=λρ=>ρ=[some (Qd n n A,false),some (Qa5 (F++((List.filter (λk=>decide (1<e k)) [k]).map e)),true),some (.int (QI e k),true),some (.int (1+(k:Int)),true),some (.int (QI e (k+1)),true)]) ?_ ?_
  ·refine Qaa (b:=decide (1<e k)) (QL (Qbb (d:= .bl (decide (1<e k))) (ediv rfl rfl) (rb:=⟨.int 1,true,[]⟩) rfl rfl) rfl) (λh=>?_) (λh=>?_)
   ·have h1:1<e k:=of_decide_eq_true h
    refine run_seq (QuU (x:=1) (A:=F) (n:=e k) rfl (ediv rfl rfl) rfl (by omega) (Qt ?_))
    have ef:(List.filter (λk=>decide (1<e k)) [k]).map e=[e k]:=by simp[h1]
    rw[ef]
    rfl
   ·have h1:¬1<e k:=of_decide_eq_false h
    have ef:(List.filter (λk=>decide (1<e k)) [k]).map e=[]:=by simp[h1]
    refine Qt ?_
    rw[ef,ZaW]
    rfl
  ·rintro ρ rfl
   refine run_seq (Qh (r:=⟨.int (QI e (k+1)),false,[]⟩) (QaA (r:=⟨.int (QI e (k+1)),true,[]⟩) rfl) (Qt ?_))
   rw[Qa7 rfl]
   exact⟨_,_,rfl⟩
 ·rintro ρ ⟨j2,j3,j4,rfl⟩
  exact QC (r:=⟨Qa5 (((List.range n).filter λk=>decide (1<e k)).map e),true,[1]⟩) rfl ⟨rfl,rfl⟩)
theorem Qpc{e:Nat->Int}:∀{n j:Nat},(∀j,j<n->0<e j)->j<n->e j<=QI e n
 | n+1,j,h,hj=>by
  have p:=Qfb (len:=e) (n:=n) λj hj=>h j (by omega)
  have q:=h n (by omega)
  show e j<=QI e n*e n
  by_cases z:j=n
  ·have:=ZaE (by omega:(1:Int)<=QI e n) (by omega:0<=e n)
   rw[ZK]at this
   rw[z];exact this
  ·have:=ZaH (by omega:(1:Int)<=e n) (by omega:0<=QI e n)
   rw[Zab]at this
   exact Int.le_trans (Qpc (λj hj=>h j (by omega)) (by omega:j<n)) this
noncomputable def Qgq(Qay:Den)(Qde:Den)(Q6:Den)(QaB:Den)(QbD:Den)(Qax:Den)(QaZ:Den)(QbR:Den)(Qab:Den)(Qai:Den):DS:=(Qe (Qo 1 (QM (QY (Qj 1 Qay [] (Qc (Qa 0) Qg))) (.nm 1) [none,none] QW (QM (QY (Qa 1)) (.nm 1) [none,none] QW (dOp Qa6 (dC (.int 0)) (Qa 1))))) (Qe (Qo 2 (Qj 1 Qde [] (Qc (Qa 0) Qg))) (Qe (Qo 3 (Qj 1 Q6 [] (Qc (Qa 2) Qg))) (Qe (sIf (bOr (Qck (QO (Qj 2 QaB [] (Qc (Qa 3) (Qc (Qr (Qa 0) (dC (.int 0))) Qg))))) (QO (dOp gNe (Qa 3) (Qa 1)))) (Qe (QP (dC (.bl false))) Qp) Qp) (Qe (Qo 4 (Qj 1 QbD [] (Qc (Qa 2) Qg))) (Qe (sIf (bOr (Qck (QO (Qj 1 Qax [] (Qc (Qa 4) Qg)))) (QO (dOp gNe (Qa 4) (Qj 1 QaZ [] (Qc (Qa 1) Qg))))) (Qe (QP (dC (.bl false))) Qp) Qp) (Qe (QrQ 3 Qal) (Qe (Qo 5 (Qj 1 QbR [] (Qc (Qa 1) Qg))) (Qe (Qo 6 (Qj 1 Qab [] (Qc (Qa 2) Qg))) (Qe (QP (Qd3 (Qj 2 Qai [] (Qc (Qa 6) (Qc (dBf QaD (Qc (Qa 5) Qg)) Qg))) (Qd3 (dOp gEq (Qa 6) (Qa 5)) (dOp gEq (Qa 2) (Qa 0))))) Qp))))))))))
def QjX(d:Den):Prop:=∀(m:Nat) (R L:List (Int×Int)),0<m->m<=4->Qbg m R L->d [QR m R L]=some (.bl true,true)
theorem Qsy{drt d1 d2 d3 d4 d5 d6 d7 d8 d9 d10:Den}(hs:QfC drt)(h1:TabsOk d1)(h2:Qly d2)(h3:Qfz d3)(h4:Qjb d4)(h5:Qnn d5)(h6:Qg2 d6)(h7:QdG 4 d7)(h8:QjW d8)(h9:Qih drt d9)(h10:Qia d10):QjX (Qn 7 (Qgq d1 d2 d3 d4 d5 d6 d7 d8 d9 d10)):=λm R L m0 m4 hw=>by
 obtain⟨n0,Lf,Rt,Lb,Rb,len,nr,re⟩:=Qgg hs m0 (by omega) hw
 have g:=hw.good
 have e1:=h1 m R L m0 (by omega) (by omega) g.1 g.2.1
 have e3:=h3 m R L (by omega) hw
 have e5:=h5 m R L (by omega) hw
 have e9:=h9 m R L n0 Lf Rt Lb Rb len (by omega) hw nr re
 have big:∀i j,i<m->j<m->(QJ (Qz m (Qv R L)) i j).natAbs<=2^240:=λi j hi hj=>Zi (hw.big i hi j hj) (ZD (by decide) (by decide))
 have e7:=h7 m (QJ (Qz m (Qv R L))) m0 m4 (by omega) λi hi j hj=>big i j hi hj
 have many:=nr.sm.many
 have dB:=hw.QBz m4
 rw[QaV]at many
 have e8:=h8 m (QJ (Qz m (Qv R L))) len m4 big nr.sm.has nr.sm.nxt λj hj=>⟨nr.sm.pos j hj,by
  have h1:=Qpc nr.sm.pos hj
  have h2:=nr.sm.pos j hj
  have h3:(2:Nat)^60<2^300:=Nat.pow_lt_pow_right (by decide) (by decide)
  omega⟩
 have ei:Qa5 (((List.range m).filter λk=>decide (1<len k)).map len)=Qf (m-n0) (Qb3 len n0):=by
  rw[Qks nr.le nr.one nr.big]
  unfold Qa5 Qf Qb3
  rw[Zaj,Zaj]
  rfl
 rw[ei]at e8
 generalize Qz m (Qv R L)=T at *
 refine QX ?_
 refine run_seq (Qh (Qkk (m:=m) (T:=T) (Q0 (Ql (r:=⟨[QR m R L],false,[]⟩) rfl e1 rfl) rfl) rfl) ?_)
 rw[Qi]
 refine run_seq (Qh (Ql (r:=⟨[QR m R L],false,[]⟩) rfl (h2 m R L) rfl) ?_)
 rw[Qi]
 refine run_seq (Qh (Ql (r:=⟨[QR m R L],true,[2]⟩) rfl e3 rfl) ?_)
 rw[Qi]
 change Nx _ (.nx [some (QR m R L,false),some (Qd m m (QJ T),true),some (QR m R L,true),some (Qd m m (QJ T),true),none,none,none])
 refine QH (Qaa (b:=false) (Qcp (a:=false) (b:=false) (QbB (b:=true) (QL (b:=true) (Ql (r:=⟨[Qd m m (QJ T),.int m],true,[3]⟩) rfl (h4 m (QJ T)) rfl) rfl)) (QL (b:=false) (QiM (d:=Qd m m (QJ T)) (ra:=⟨Qd m m (QJ T),true,[3]⟩) (rb:=⟨Qd m m (QJ T),true,[1]⟩) rfl rfl rfl rfl (Qlm 6 m m _)) rfl)) (λh=>by cases h) (λ_=>Qt ?_))
 refine run_seq (Qh (Ql (r:=⟨[QR m R L],true,[2]⟩) rfl e5 rfl) ?_)
 rw[Qi]
 refine QH (Qaa (b:=false) (Qcp (a:=false) (b:=false) (QbB (b:=true) (QL (b:=true) (Ql (r:=⟨[.int (det m (QJ T))],true,[]⟩) rfl (h6 _) rfl) rfl)) (QL (b:=false) (QcY (a:=det m (QJ T)) (b:=det m (QJ T)) (ra:=⟨.int (det m (QJ T)),true,[]⟩) rfl rfl (Ql (r:=⟨[Qd m m (QJ T)],true,[1]⟩) rfl e7 rfl) rfl) (by simp))) (λh=>by cases h) (λ_=>Qt ?_))
 refine run_seq ⟨_,rfl,?_⟩
 change Nx _ (.nx [some (QR m R L,false),some (Qd m m (QJ T),true),some (QR m R L,true),some (.lst [],true),some (.int (det m (QJ T)),true),none,none])
 refine run_seq (Qh (Ql (r:=⟨[Qd m m (QJ T)],true,[1]⟩) rfl e8 rfl) ?_)
 rw[Qi]
 refine run_seq (Qh (Ql (r:=⟨[QR m R L],true,[2]⟩) rfl e9 rfl) ?_)
 rw[Qi]
 refine QC (Qiv (a:=true) (b:=true) (Ql (Qq (r:=⟨Qf (m-n0) (Qb3 len n0),true,[6]⟩) rfl (Qq (Qi2 (m:=m-n0) (f:=Qb3 len n0) (r:=⟨Qf (m-n0) (Qb3 len n0),true,[5]⟩) rfl rfl) (QS _))) (h10 (m-n0) (Qb3 len n0)) rfl) (Qiv (a:=true) (b:=true) (Qqn (d:=Qf (m-n0) (Qb3 len n0)) (ra:=⟨Qf (m-n0) (Qb3 len n0),true,[6]⟩) (rb:=⟨Qf (m-n0) (Qb3 len n0),true,[5]⟩) rfl rfl rfl rfl (QlB 7 _ _)) (Qqn (d:=QR m R L) (ra:=⟨QR m R L,true,[2]⟩) (rb:=⟨QR m R L,false,[]⟩) rfl rfl rfl rfl (Qwy _ _ _)))) ⟨rfl,rfl⟩
noncomputable def hP(n t k:Nat):Nat:=(k+t) % n
theorem Qeo{n t k:Nat}(n0:0<n):hP n t k<n:=Nat.mod_lt _ n0
theorem Qha{n t i j:Nat}(hi:i<n)(hj:j<n)(h:hP n t i=hP n t j):i=j:=by
 unfold hP at h
 have h1:=Nat.div_add_mod (i+t) n
 have h2:=Nat.div_add_mod (j+t) n
 rw[h]at h1
 rcases Nat.lt_trichotomy ((i+t) / n) ((j+t) / n)with z | z | z
 ·have:=Nat.mul_le_mul_left n (Nat.succ_le_of_lt z)
  rw[Nat.mul_succ]at this
  omega
 ·rw[z]at h1;omega
 ·have:=Nat.mul_le_mul_left n (Nat.succ_le_of_lt z)
  rw[Nat.mul_succ]at this
  omega
noncomputable def Qaq(n t:Nat)(c1 c2:Nat->Nat):Nat->List (Int×Int×Bool)
 | 0=>[]
 | k+1=>Qaq n t c1 c2 k++(if k+1=n then [(((hP n t k:Nat):Int),(n:Int),false)]else List.replicate (c1 k) (((hP n t k:Nat):Int),((hP n t (k+1):Nat):Int),false))++List.replicate (c2 k) (((hP n t k:Nat):Int),(n:Int),false)
theorem Qhw{n t:Nat}{c1 c2:Nat->Nat}{w:Int×Int×Bool}:∀{j:Nat},j<=n->w∈Qaq n t c1 c2 j->∃k,k<j/\((k+1<n/\w=(((hP n t k:Nat):Int),((hP n t (k+1):Nat):Int),false))∨w=(((hP n t k:Nat):Int),(n:Int),false))
 | 0,_,h=>by simp[Qaq]at h
 | j+1,hj,h=>by
  unfold Qaq at h
  rcases ZC.mp h with h | h
  ·rcases ZC.mp h with h | h
   ·obtain⟨k,hk,r⟩:=Qhw (by omega) h
    exact⟨k,by omega,r⟩
   ·split at h
    ·exact⟨j,by omega,.inr (ZG.mp h)⟩
    ·exact⟨j,by omega,.inl ⟨by omega,(List.mem_replicate.mp h).2⟩⟩
  ·exact⟨j,by omega,.inr (List.mem_replicate.mp h).2⟩
theorem Qkm{n t:Nat}{c1 c2:Nat->Nat}(h1:∀k,c1 k<=3)(h2:∀k,c2 k<=2):∀j,(Qaq n t c1 c2 j).length<=5*j
 | 0=>Zh _
 | j+1=>by
  have ih:=Qkm (n:=n) (t:=t) h1 h2 j
  have a:=h1 j
  have b:=h2 j
  unfold Qaq
  rw[Zr,Zr,ZaD]
  split
  ·rw[ZaZ];omega
  ·rw[ZaD];omega
theorem Qo9{n t:Nat}{c1 c2:Nat->Nat}(h1:∀k,0<c1 k){k:Nat}:∀{j:Nat},k<j->j<=n->(if k+1=n then(((hP n t k:Nat):Int),(n:Int),false)else(((hP n t k:Nat):Int),((hP n t (k+1):Nat):Int),false))∈Qaq n t c1 c2 j
 | j+1,hk,hj=>by
  unfold Qaq
  by_cases z:k=j
  ·subst z
   refine Zd _ (Zb _ ?_)
   split
   ·exact ZG.mpr rfl
   ·exact List.mem_replicate.mpr ⟨Zca (h1 k),rfl⟩
  ·exact Zd _ (Zd _ (Qo9 h1 (by omega) (by omega)))
theorem Qox{n t:Nat}{c1 c2:Nat->Nat}(n0:0<n)(n8:n<=8)(h1:∀k,0<c1 k/\c1 k<=3)(h2:∀k,c2 k<=2):Qbg n (QK (Qaq n t c1 c2 n)) []:=by
 have fl:∀w∈Qaq n t c1 c2 n,w.2.2=false:=λw hw=>by
  obtain⟨k,_,⟨_,rfl⟩ | rfl⟩:=Qhw (Zh n) hw<;>rfl
 refine⟨Qaq n t c1 c2 n,λA hA=>?_,λw hw=>?_,Zi (Qkm (λk=>(h1 k).2) h2 n) (by omega),rfl,?_⟩
 ·obtain⟨p,hp,hAp⟩:=hA
  have ex:∃k,k<n/\A (hP n t k):=⟨(p+(n-t % n)) % n,Nat.mod_lt _ n0,by
   have:hP n t ((p+(n-t % n)) % n)=p:=by
    have ht:=Nat.mod_lt t n0
    have hd:=Nat.div_add_mod t n
    unfold hP
    rw[Nat.mod_add_mod,show p+(n-t % n)+t=p+n*(t / n+1) by rw[Nat.mul_succ];omega,Nat.add_mul_mod_self_left,Nat.mod_eq_of_lt hp]
   rw[this];exact hAp⟩
  have top:∀m,(∃k,n-m<=k/\k<n/\A (hP n t k))->∃k,k<n/\A (hP n t k)/\(k+1=n∨¬A (hP n t (k+1))):=by
   intro m
   induction m with
   | zero=>rintro⟨k,h1,h2,_⟩;omega
   | succ m ih=>
    rintro⟨k,h1,h2,h3⟩
    by_cases z:k+1=n
    ·exact⟨k,h2,h3,.inl z⟩
    ·by_cases y:A (hP n t (k+1))
     ·exact ih ⟨k+1,by omega,by omega,y⟩
     ·exact⟨k,h2,h3,.inr y⟩
  obtain⟨k,hk,hAk⟩:=ex
  obtain⟨k,hk,hAk,hend⟩:=top n ⟨k,by omega,hk,hAk⟩
  have hm:=Qo9 (t:=t) (c1:=c1) (c2:=c2) (λk=>(h1 k).1) hk (Zh n)
  have hl:=Qeo (t:=t) (k:=k) n0
  by_cases z:k+1=n
  ·rw[if_pos z]at hm
   exact⟨_,hm,by show((hP n t k:Nat):Int)<n;omega,hAk,.inl rfl⟩
  ·rw[if_neg z]at hm
   exact⟨_,hm,by show((hP n t k:Nat):Int)<n;omega,hAk,.inr (hend.resolve_left z)⟩
 ·obtain⟨k,hk,⟨hk1,rfl⟩ | rfl⟩:=Qhw (Zh n) hw
  ·have a:=Qeo (t:=t) (k:=k) n0
   have b:=Qeo (t:=t) (k:=k+1) n0
   have ne:hP n t k≠hP n t (k+1):=λz=>by have:=Qha hk hk1 z;omega
   exact⟨⟨ZaJ _,ZaJ _,by show((hP n t k:Nat):Int)<=n;omega,by show((hP n t (k+1):Nat):Int)<=n;omega,by show((hP n t k:Nat):Int)≠((hP n t (k+1):Nat):Int);omega⟩,λz=>by cases z⟩
  ·have a:=Qeo (t:=t) (k:=k) n0
   exact⟨⟨ZaJ _,ZaJ _,by show((hP n t k:Nat):Int)<=n;omega,by show(n:Int)<=n;omega,by show((hP n t k:Nat):Int)≠(n:Int);omega⟩,λz=>by cases z⟩
 ·unfold Qc1
  rw[Zcf.mpr λw hw=>by rw[fl w hw];decide]
  rfl
theorem QvQ{n t:Nat}{c1 c2:Nat->Nat}(n0:0<n)(n8:n<=8)(h1:∀k,0<c1 k/\c1 k<=3)(h2:∀k,c2 k<=2){i j:Nat}(hi:i<n)(hj:j<n)(hij:i+1<j∨j+1<i):Qz n (Qv (QK (Qaq n t c1 c2 n)) []) (hP n t i) (hP n t j)=0:=by
 have hw:=Qox (t:=t) (c1:=c1) (c2:=c2) n0 n8 h1 h2
 have g:=hw.good
 have gs:=QdI g.1 g.2.1
 rw[Qdt (Qeo n0) (Qeo n0) λs hs=>⟨(gs s hs).1,(gs s hs).2.1⟩]
 have a:=Qeo (t:=t) (k:=i) n0
 have b:=Qeo (t:=t) (k:=j) n0
 have ne:hP n t i≠hP n t j:=λz=>by have:=Qha hi hj z;omega
 have one:∀s∈Qv (QK (Qaq n t c1 c2 n)) [],hit (hP n t i) (hP n t j) s=0:=λs hs=>by
  have nh:¬(s.1=((hP n t i:Nat):Int)/\s.2=((hP n t j:Nat):Int)):=?_
  ·unfold hit
   rw[if_neg nh,if_neg λz=>ne z.2]
   rfl
  rintro⟨e1,e2⟩
  have road:∀r∈QK (Qaq n t c1 c2 n),¬((r.1=((hP n t i:Nat):Int)/\r.2=((hP n t j:Nat):Int))∨(r.2=((hP n t i:Nat):Int)/\r.1=((hP n t j:Nat):Int))):=λr hr=>by
   obtain⟨w,hw,rfl⟩:=ZS.mp hr
   have hw:=(Zaq.mp hw).1
   obtain⟨k,hk,⟨hk1,rfl⟩ | rfl⟩:=Qhw (Zh n) hw
   ·intro z
    have p1:hP n t i=hP n t k->i=k:=Qha hi hk
    have p2:hP n t i=hP n t (k+1)->i=k+1:=Qha hi hk1
    have p3:hP n t j=hP n t k->j=k:=Qha hj hk
    have p4:hP n t j=hP n t (k+1)->j=k+1:=Qha hj hk1
    unfold QaR at z
    dsimp only at z
    generalize hP n t i=x at *
    generalize hP n t j=y at *
    generalize hP n t k=u at *
    generalize hP n t (k+1)=v at *
    have key:(x=u/\y=v)∨(x=v/\y=u):=by
     by_cases q:(v:Int)<u
     ·rw[if_pos q,if_neg (by omega)]at z;omega
     ·rw[if_neg q]at z
      by_cases q2:(v:Int)>u
      ·rw[if_pos q2]at z;omega
      ·rw[if_neg q2]at z;omega
    rcases key with⟨k1,k2⟩ | ⟨k1,k2⟩
    ·have:=p1 k1;have:=p4 k2;omega
    ·have:=p2 k1;have:=p3 k2;omega
   ·intro z
    have c:=Qeo (t:=t) (k:=k) n0
    unfold QaR at z
    dsimp only at z
    rw[if_neg (by omega),if_pos (by omega)]at z
    omega
  unfold Qv at hs
  rw[ZaW]at hs
  rcases ZC.mp hs with hs | hs
  ·exact road s hs (.inl ⟨e1,e2⟩)
  ·obtain⟨r,hr,rfl⟩:=ZS.mp hs
   exact road r hr (.inr ⟨e1,e2⟩)
 generalize Qv (QK (Qaq n t c1 c2 n)) []=S at one
 clear gs g hw
 induction S with
 | nil=>rfl
 | cons s S ih=>rw[ZJ,Zaz,one s Zp,ih λs hs=>one s (Ze _ hs)];rfl
theorem Qm2(A B:List (Int×Int×Bool)):QK (A++B)=QK A++QK B:=by unfold QK;rw[Zbn,ZZ]
theorem QmT(c:Nat)(a b:Int):QK (List.replicate c (a,b,false))=List.replicate c (QaR (a,b,false)):=by
 unfold QK
 rw[Zbj.mpr λw hw=>by rw[(List.mem_replicate.mp hw).2];rfl,List.map_replicate]
theorem QnZ{fa fb:DE}{ρ:En}{r:HS.R}{n:Nat}{s:Int×Int}(ha:fa ρ=some ⟨.lst [pairD s],true,[]⟩)(h:fb ρ=some r)(e:r.d= .int n)(hn:n<=1000):Qav fa fb ρ=some ⟨QT (List.replicate n s),true,[]⟩:=by
 unfold Qav
 rw[ha,Za,h,Za,e]
 dsimp only
 rw[if_pos ⟨by simp[Qgo];omega,by omega,by omega,rfl⟩]
 simp only[ZL,QlA]
 unfold QT
 rw[List.map_replicate,List.map_const',Zo]
theorem QuL{fs:DA}{ρ:En}{rs:RA}(h:fs ρ=some rs)(hl:rs.ds.length<=64):Qat fs ρ=some ⟨.tup rs.ds,rs.fr,rs.M⟩:=by
 unfold Qat
 rw[h,Za]
 exact if_pos hl
noncomputable def Qgl(Qam:Den):DS:=(Qe (Qo 1 (QQ (dC (.int 1)) (dOp Qah (Qj 2 Qam [] (Qc (Qa 0) (Qc (dC (.int 12)) Qg))) (dC (.int 8))))) (Qe (Qo 2 (dOp Qah (dOp QbF (Qj 2 Qam [] (Qc (Qa 0) (Qc (dC (.int 12)) Qg))) (dC (.int 8))) (Qa 1))) (Qe (Qo 3 (QaC Qg)) (Qe (Qbl (QaY (Qa 1)) (.nm 4) (Qe (Qo 5 (dOp Qah (Qav (Qj 2 Qam [] (Qc (Qa 0) (Qc (QQ (dC (.int 13)) (Qa 4)) Qg))) (dC (.int 48271))) (dC (.int 2147483647)))) (Qe (Qo 6 (dOp Qah (QQ (Qa 4) (Qa 2)) (Qa 1))) (Qe (Qo 7 (dOp Qah (QQ (QQ (Qa 4) (dC (.int 1))) (Qa 2)) (Qa 1))) (Qe (sIf (QO (dOp gEq (Qa 4) (dOp Qa6 (Qa 1) (dC (.int 1))))) (Qe (QdS 3 Qal (Qat (Qc (Qa 6) (Qc (Qa 1) Qg)))) Qp) (Qe (Qo 3 (QQ (Qa 3) (Qav (QaC (Qc (Qat (Qc (dBf QgA (Qc (Qa 6) (Qc (Qa 7) Qg))) (Qc (dBf Qgw (Qc (Qa 6) (Qc (Qa 7) Qg))) Qg))) Qg)) (QQ (dC (.int 1)) (dOp Qah (Qa 5) (dC (.int 3))))))) Qp)) (Qe (Qo 3 (QQ (Qa 3) (Qav (QaC (Qc (Qat (Qc (Qa 6) (Qc (Qa 1) Qg))) Qg)) (dOp Qah (dOp QbF (Qa 5) (dC (.int 3))) (dC (.int 3)))))) Qp)))))) (Qe (QP (QaC (Qc (Qat (Qc (Qa 1) (Qc (Qa 3) (Qc (QaC Qg) Qg)))) (Qc (Qa 2) Qg)))) Qp)))))
def Qkb(d:Den):Prop:=∀ns:List Int,ns.length<=63->(∀k,QaK (ns.getD k 0))->∃(n t:Nat) (c1 c2:Nat->Nat),0<n/\n<=8/\t<n/\(∀k,0<c1 k/\c1 k<=3)/\(∀k,c2 k<=2)/\d [.lst (ns.map .int)]=some (.lst [QR n (QK (Qaq n t c1 c2 n)) [],.int t],true)
theorem QsF{dc:Den}(hc:Qi6 dc):Qkb (Qn 8 (Qgl dc)):=λns hl hb=>by
 obtain⟨F,hF⟩:=hc ns hl hb
 have cell:∀(ρ:En) (k:Nat),k<=1000->ρ[0]? =some (some (.lst (ns.map .int),false))->Qj 2 dc [] (Qc (Qa 0) (Qc (dC (.int k)) Qg)) ρ=some ⟨.int (F k),true,[]⟩:=λρ k hk h0=>Ql (Qq (QaX h0) (Qq (QaL _ _) (QS _))) (hF k hk).1 rfl
 have b1:=ZI (F 12) (by decide:(8:Int)≠0)
 have b2:=ZE (F 12) (by decide:(0:Int)<8)
 obtain⟨n,en⟩:∃n:Nat,1+F 12 % 8=(n:Int):=⟨(1+F 12 % 8).toNat,by omega⟩
 have n0:0<n:=by omega
 have t1:=ZI (F 12 / 8) (by omega:(n:Int)≠0)
 have t2:=ZE (F 12 / 8) (by omega:(0:Int)<n)
 obtain⟨t,et⟩:∃t:Nat,F 12 / 8 % (n:Int)=(t:Int):=⟨(F 12 / 8 % (n:Int)).toNat,by omega⟩
 obtain⟨u,hu⟩:∃u:Nat->Int,∀k,u k=F (13+k)*48271 % 2147483647:=⟨_,λ_=>rfl⟩
 have c1e:∀k,∃c:Nat,(c:Int)=1+u k % 3/\0<c/\c<=3:=λk=>by
  have m1:=ZI (u k) (by decide:(3:Int)≠0)
  have m2:=ZE (u k) (by decide:(0:Int)<3)
  exact⟨(1+u k % 3).toNat,by omega,by omega,by omega⟩
 have c2e:∀k,∃c:Nat,(c:Int)=u k / 3 % 3/\c<=2:=λk=>by
  have m1:=ZI (u k / 3) (by decide:(3:Int)≠0)
  have m2:=ZE (u k / 3) (by decide:(0:Int)<3)
  exact⟨(u k / 3 % 3).toNat,by omega,by omega⟩
 obtain⟨c1,h1⟩:∃c1:Nat->Nat,∀k,(c1 k:Int)=1+u k % 3/\0<c1 k/\c1 k<=3:=⟨λk=>(c1e k).choose,λk=>(c1e k).choose_spec⟩
 obtain⟨c2,h2⟩:∃c2:Nat->Nat,∀k,(c2 k:Int)=u k / 3 % 3/\c2 k<=2:=⟨λk=>(c2e k).choose,λk=>(c2e k).choose_spec⟩
 refine⟨n,t,c1,c2,n0,by omega,by omega,λk=>(h1 k).2,λk=>(h2 k).2,QX ?_⟩
 refine run_seq (Qh (Qac (a:=1) (b:=F 12 % 8) (QaL _ _) rfl (Qad (a:=F 12) (b:=8) (cell _ 12 (by decide) rfl) rfl (QaL _ _) rfl (by decide)) rfl) ?_)
 rw[Qi,en]
 refine run_seq (Qh (Qad (a:=F 12 / 8) (b:=n) (Qhj (a:=F 12) (b:=8) (cell _ 12 (by decide) rfl) rfl (QaL _ _) rfl (by decide) (by decide)) rfl (rb:=⟨.int n,true,[]⟩) rfl rfl (by omega)) ?_)
 rw[Qi,et]
 refine run_seq (Qh (r:=⟨QT [],true,[]⟩) rfl ?_)
 rw[Qi]
 have ll:∀k,(QK (Qaq n t c1 c2 k)).length<=5*k:=λk=>Zi (Qgz _) (Qkm (λk=>(h1 k).2.2) (λk=>(h2 k).2) k)
 refine Qar (P:=λρ=>∃j4 j5 j6 j7,ρ=[some (.lst (ns.map .int),false),some (.int n,true),some (.int t,true),some (QT (QK (Qaq n t c1 c2 n)),true),j4,j5,j6,j7]) ?_ ?_
 ·refine QaF (toD:=λ(k:Nat)=> .int (k:Int)) (List.range n) (λk ρ=>∃j4 j5 j6 j7,ρ=[some (.lst (ns.map .int),false),some (.int n,true),some (.int t,true),some (QT (QK (Qaq n t c1 c2 k)),true),j4,j5,j6,j7]) (Qbm (n:=n) (r:=⟨.int n,true,[]⟩) rfl rfl (by omega)) rfl ⟨none,none,none,none,rfl⟩ ?_ (λρ h=>by rw[Zo]at h;exact h)
  rintro k k' ρ hk ⟨j4,j5,j6,j7,rfl⟩
  have hk':k<n/\k=k':=by
   obtain⟨h1,h2⟩:=Zg.mp hk
   simp at h1 h2;exact⟨h1,h2⟩
  obtain⟨hkn,rfl⟩:=hk'
  refine⟨[some (.lst (ns.map .int),false),some (.int n,true),some (.int t,true),some (QT (QK (Qaq n t c1 c2 k)),true),some (.int k,true),j5,j6,j7],rfl,?_⟩
  have eu:Qj 2 dc [] (Qc (Qa 0) (Qc (QQ (dC (.int 13)) (Qa 4)) Qg)) [some (.lst (ns.map .int),false),some (.int n,true),some (.int t,true),some (QT (QK (Qaq n t c1 c2 k)),true),some (.int k,true),j5,j6,j7]=some ⟨.int (F (13+k)),true,[]⟩:=Ql (Qq (r:=⟨.lst (ns.map .int),false,[]⟩) rfl (Qq (r:=⟨.int ((13+k:Nat):Int),true,[]⟩) ((Qac (a:=13) (b:=k) (QaL _ _) rfl (rb:=⟨.int k,true,[]⟩) rfl rfl).trans (by rw[show(13:Int)+k=((13+k:Nat):Int) by omega])) (QS _))) (hF (13+k) (by omega)).1 rfl
  refine run_seq (Qh (r:=⟨.int (u k),true,[]⟩) ((Qad (a:=F (13+k)*48271) (b:=2147483647) (QaH (a:=F (13+k)) (b:=48271) eu rfl (QaL _ _) rfl (QfB (by decide))) rfl (QaL _ _) rfl (by decide)).trans (by rw[hu])) ?_)
  rw[Qi]
  refine run_seq (Qh (r:=⟨.int ((hP n t k:Nat):Int),true,[]⟩) ((Qad (a:=(k:Int)+t) (b:=n) (Qac (a:=k) (b:=t) (ra:=⟨.int k,true,[]⟩) rfl rfl (rb:=⟨.int t,true,[]⟩) rfl rfl) rfl (rb:=⟨.int n,true,[]⟩) rfl rfl (by omega)).trans (by unfold hP;rw[Int.natCast_emod,Zaf])) ?_)
  rw[Qi]
  refine run_seq (Qh (r:=⟨.int ((hP n t (k+1):Nat):Int),true,[]⟩) ((Qad (a:=(k:Int)+1+t) (b:=n) (Qac (a:=(k:Int)+1) (b:=t) (Qac (a:=k) (b:=1) (ra:=⟨.int k,true,[]⟩) rfl rfl (QaL _ _) rfl) rfl (rb:=⟨.int t,true,[]⟩) rfl rfl) rfl (rb:=⟨.int n,true,[]⟩) rfl rfl (by omega)).trans (by unfold hP;rw[Int.natCast_emod,Zaf,Zaf];rfl)) ?_)
  rw[Qi]
  have hk1:=Qeo (t:=t) (k:=k) n0
  have hrn:QaR (((hP n t k:Nat):Int),(n:Int),false)=(((hP n t k:Nat):Int),(n:Int)):=by
   unfold QaR
   dsimp only
   rw[if_neg (by omega),if_pos (by omega)]
  have l5:=ll k
  have e5:=(h1 k)
  have e6:=(h2 k)
  change Run _ [some (.lst (ns.map .int),false),some (.int n,true),some (.int t,true),some (QT (QK (Qaq n t c1 c2 k)),true),some (.int k,true),some (.int (u k),true),some (.int ((hP n t k:Nat):Int),true),some (.int ((hP n t (k+1):Nat):Int),true)] _
  refine Qar (P:=λρ=>ρ=[some (.lst (ns.map .int),false),some (.int n,true),some (.int t,true),some (QT (QK (Qaq n t c1 c2 k)++QK (if k+1=n then [(((hP n t k:Nat):Int),(n:Int),false)]else List.replicate (c1 k) (((hP n t k:Nat):Int),((hP n t (k+1):Nat):Int),false))),true),some (.int k,true),some (.int (u k),true),some (.int ((hP n t k:Nat):Int),true),some (.int ((hP n t (k+1):Nat):Int),true)]) ?_ ?_
  ·refine Qaa (b:=decide ((k:Int)=(n:Int)-1)) (QL (Qa0 (a:=k) (b:=(n:Int)-1) (ra:=⟨.int k,true,[]⟩) rfl rfl (QfP (a:=n) (b:=1) (ra:=⟨.int n,true,[]⟩) rfl rfl (QaL _ _) rfl) rfl) rfl) (λh=>?_) (λh=>?_)
   ·have z:k+1=n:=by have:=of_decide_eq_true h;omega
    rw[if_pos z]
    have er:QK [(((hP n t k:Nat):Int),(n:Int),false)]=[(((hP n t k:Nat):Int),(n:Int))]:=by
     show [QaR _]=_
     rw[hrn]
    rw[er]
    exact run_seq (Qvg (x:=3) (A:=QK (Qaq n t c1 c2 k)) (p:=(((hP n t k:Nat):Int),(n:Int))) (r:=⟨pairD (((hP n t k:Nat):Int),(n:Int)),true,[]⟩) rfl rfl rfl (by omega) (Qt rfl))
   ·have z:¬k+1=n:=by have:=of_decide_eq_false h;omega
    rw[if_neg z,QmT]
    refine run_seq (Qh (QfD (A:=QK (Qaq n t c1 c2 k)) (B:=List.replicate (c1 k) (QaR (((hP n t k:Nat):Int),((hP n t (k+1):Nat):Int),false))) (ra:=⟨QT (QK (Qaq n t c1 c2 k)),true,[3]⟩) rfl rfl (QnZ (n:=c1 k) (s:=QaR (((hP n t k:Nat):Int),((hP n t (k+1):Nat):Int),false)) ?_ (Qac (a:=1) (b:=u k % 3) (QaL _ _) rfl (Qad (a:=u k) (b:=3) (ra:=⟨.int (u k),true,[]⟩) rfl rfl (QaL _ _) rfl (by decide)) rfl) (by rw[e5.1]) (by omega)) rfl (by rw[ZaD];omega)) (Qt ?_))
    ·refine(Qk0 (rs:=⟨[pairD (QaR (((hP n t k:Nat):Int),((hP n t (k+1):Nat):Int),false))],true,[]⟩) (Qq (r:=⟨pairD (QaR (((hP n t k:Nat):Int),((hP n t (k+1):Nat):Int),false)),true,[]⟩) ?_ (QS _)) (by decide:1<=64)).trans rfl
     exact(QuL (rs:=⟨[.int (QaR (((hP n t k:Nat):Int),((hP n t (k+1):Nat):Int),false)).1,.int (QaR (((hP n t k:Nat):Int),((hP n t (k+1):Nat):Int),false)).2],true,[]⟩) (Qq (Qx0 (a:=((hP n t k:Nat):Int)) (b:=((hP n t (k+1):Nat):Int)) (ra:=⟨.int ((hP n t k:Nat):Int),true,[]⟩) rfl rfl (rb:=⟨.int ((hP n t (k+1):Nat):Int),true,[]⟩) rfl rfl) (Qq (QxH (a:=((hP n t k:Nat):Int)) (b:=((hP n t (k+1):Nat):Int)) (ra:=⟨.int ((hP n t k:Nat):Int),true,[]⟩) rfl rfl (rb:=⟨.int ((hP n t (k+1):Nat):Int),true,[]⟩) rfl rfl) (QS _))) (by decide:2<=64)).trans rfl
    ·rw[Qi];rfl
  ·rintro ρ rfl
   have lx:(QK (if k+1=n then [(((hP n t k:Nat):Int),(n:Int),false)]else List.replicate (c1 k) (((hP n t k:Nat):Int),((hP n t (k+1):Nat):Int),false))).length<=3:=by
    refine Zi (Qgz _) ?_
    split
    ·show 1<=3;decide
    ·rw[ZaD];omega
   refine run_seq (Qh (QfD (A:=QK (Qaq n t c1 c2 k)++QK (if k+1=n then [(((hP n t k:Nat):Int),(n:Int),false)]else List.replicate (c1 k) (((hP n t k:Nat):Int),((hP n t (k+1):Nat):Int),false))) (B:=List.replicate (c2 k) (((hP n t k:Nat):Int),(n:Int))) (ra:=⟨QT (QK (Qaq n t c1 c2 k)++QK (if k+1=n then [(((hP n t k:Nat):Int),(n:Int),false)]else List.replicate (c1 k) (((hP n t k:Nat):Int),((hP n t (k+1):Nat):Int),false))),true,[3]⟩) rfl rfl (QnZ (n:=c2 k) (s:=(((hP n t k:Nat):Int),(n:Int))) ((Qk0 (rs:=⟨[pairD (((hP n t k:Nat):Int),(n:Int))],true,[]⟩) rfl (by decide:1<=64)).trans rfl) (Qad (a:=u k / 3) (b:=3) (Qhj (a:=u k) (b:=3) (ra:=⟨.int (u k),true,[]⟩) rfl rfl (QaL _ _) rfl (by decide) (by decide)) rfl (QaL _ _) rfl (by decide)) (by rw[e6.1]) (by omega)) rfl (by rw[Zr,ZaD];omega)) (Qt ⟨some (.int k,true),some (.int (u k),true),some (.int ((hP n t k:Nat):Int),true),some (.int ((hP n t (k+1):Nat):Int),true),?_⟩))
   rw[Qi]
   have ef:QK (Qaq n t c1 c2 (k+1))=QK (Qaq n t c1 c2 k)++QK (if k+1=n then [(((hP n t k:Nat):Int),(n:Int),false)]else List.replicate (c1 k) (((hP n t k:Nat):Int),((hP n t (k+1):Nat):Int),false))++List.replicate (c2 k) (((hP n t k:Nat):Int),(n:Int)):=by
    show QK (Qaq n t c1 c2 k++_++_)=_
    rw[Qm2,Qm2,QmT,hrn]
   rw[ef]
   rfl
 rintro ρ ⟨j4,j5,j6,j7,rfl⟩
 exact QC (r:=⟨.lst [QR n (QK (Qaq n t c1 c2 n)) [],.int t],true,[3]⟩) rfl ⟨rfl,rfl⟩
theorem Qqm{fa fb fc:DE}{ρ:En}{ra rb rc:HS.R}{n:Nat}{f:Nat->Nat->Int}{i j:Nat}(ha:fa ρ=some ra)(ea:ra.d=Qd n n f)(hb:fb ρ=some rb)(eb:rb.d= .int i)(hc:fc ρ=some rc)(ec:rc.d= .int j)(hi:i<n)(hj:j<n):Qr (Qr fa fb) fc ρ=some ⟨.int (f i j),true,[]⟩:=
 QaN (m:=n) (f:=f i) (i:=j) ((Qef (m:=n) (n:=n) (f:=f) (i:=(i:Int)) ha ea hb eb (by omega) (by omega)).trans (by rw[ZL])) rfl hc ec hj
theorem Qxk(m:Nat->Nat->Int):det 1 m=m 0 0:=by
 show(0:Int)+sgn 0*m 0 0*1=m 0 0
 rw[show sgn 0=1 from rfl]
 omega
noncomputable def Qex(Qay:Den)(Q6:Den)(QaB:Den)(QbD:Den)(Qab:Den)(Qax:Den)(Qai:Den):DS:=(Qe (Qo 2 (QM (QY (Qj 1 Qay [] (Qc (Qa 0) Qg))) (.nm 1) [none,none] QW (QM (QY (Qa 1)) (.nm 1) [none,none] QW (dOp Qa6 (dC (.int 0)) (Qa 1))))) (Qe (Qo 3 (Qj 1 Q6 [] (Qc (Qa 0) Qg))) (Qe (sIf (bOr (Qck (QO (Qj 2 QaB [] (Qc (Qa 3) (Qc (Qr (Qa 0) (dC (.int 0))) Qg))))) (QO (dOp gNe (Qa 3) (Qa 2)))) (Qe (QP (dC (.bl false))) Qp) Qp) (Qe (Qo 4 (dC (.int 1))) (Qe (Qo 5 (Qaf (Qr (Qr (Qa 2) (Qa 1)) (Qa 1)))) (Qe (Qbl (QdN (dC (.int 1)) (Qr (Qa 0) (dC (.int 0)))) (.nm 6) (Qe (Qo 7 (dOp Qah (QQ (Qa 6) (Qa 1)) (Qr (Qa 0) (dC (.int 0))))) (Qe (Qo 8 (dOp Qah (QQ (dOp Qa6 (Qa 6) (dC (.int 1))) (Qa 1)) (Qr (Qa 0) (dC (.int 0))))) (Qe (Qo 9 (Qaf (Qa 5))) (Qe (Qo 10 (Qav (Qr (Qr (Qa 2) (Qa 7)) (Qa 8)) (Qr (Qr (Qa 2) (Qa 8)) (Qa 7)))) (Qe (Qo 5 (dOp Qa6 (Qav (Qa 5) (Qr (Qr (Qa 2) (Qa 7)) (Qa 7))) (Qav (Qa 4) (Qa 10)))) (Qe (Qo 4 (Qaf (Qa 9))) Qp))))))) (Qe (Qo 11 (Qj 1 QbD [] (Qc (Qa 0) Qg))) (Qe (Qo 12 (Qj 1 Qab [] (Qc (Qa 0) Qg))) (Qe (sIf (bOr (Qck (QO (Qj 1 Qax [] (Qc (Qa 11) Qg)))) (bOr (QO (dOp gNe (Qa 11) (Qa 5))) (Qck (QO (Qj 2 Qai [] (Qc (Qa 12) (Qc (dBf QaD (Qc (Qa 12) Qg)) Qg))))))) (Qe (QP (dC (.bl false))) Qp) Qp) (Qe (Qo 4 (dC (.int 1))) (Qe (Qbl (QY (Qa 12)) (.nm 13) (Qe (sIf (bOr (QO (dOp gLt (Qa 13) (dC (.int 2)))) (QO (dOp gNe (dOp Qah (Qa 13) (Qa 4)) (dC (.int 0))))) (Qe (QP (dC (.bl false))) Qp) Qp) (Qe (Qo 4 (Qaf (Qa 13))) (Qe (Qo 5 (dOp QbF (Qa 5) (Qa 13))) Qp)))) (Qe (QP (dOp gEq (Qa 5) (dC (.int 1)))) Qp))))))))))))
def Qiq(d:Den):Prop:=∀(n t:Nat) (R:List (Int×Int)),0<n->n<=8->t<n->Qbg n R []->(∀i j,i<n->j<n->(i+1<j∨j+1<i)->Qz n (Qv R []) (hP n t i) (hP n t j)=0)->d [QR n R [],.int t]=some (.bl true,true)
theorem QqR{drt d1 d3 d4 d5 d9 d6 d10:Den}(hs:QfC drt)(h1:TabsOk d1)(h3:Qfz d3)(h4:Qjb d4)(h5:Qnn d5)(h9:Qih drt d9)(h6:Qg2 d6)(h10:Qia d10):Qiq (Qn 14 (Qex d1 d3 d4 d5 d9 d6 d10)):=λn t R n0 n8 tn hw tri=>by
 obtain⟨o,Lf,Rt,Lb,Rb,len,nr,re⟩:=Qgg hs n0 n8 hw
 have g:=hw.good
 have e1:=h1 n R [] n0 (by omega) (by have:=g.2.2.1;simp;omega) g.1 g.2.1
 have e3:=h3 n R [] n8 hw
 have e5:=h5 n R [] n8 hw
 have e9:=h9 n R [] o Lf Rt Lb Rb len n8 hw nr re
 have big:∀i j,i<n->j<n->(QJ (Qz n (Qv R [])) i j).natAbs<=2^240:=λi j hi hj=>Zi (hw.big i hi j hj) (ZD (by decide) (by decide))
 have many:=nr.many hw.tp
 have hlt:∀k,hP n t k<n:=λk=>Qeo n0
 obtain⟨B,hB⟩:∃B:Nat->Nat->Int,∀i j,B i j=QJ (Qz n (Qv R [])) (hP n t i) (hP n t j):=⟨_,λ_ _=>rfl⟩
 have eB:det n B=det n (QJ (Qz n (Qv R []))):=by
  rw[← QuK (b:=t) n0 (QJ (Qz n (Qv R [])))]
  exact QA λi _ j _=>hB i j
 have bB:∀i j,(B i j).natAbs<=2^240:=λi j=>by rw[hB];exact big _ _ (hlt i) (hlt j)
 have bits:∀k,k<=n->QaK (det k B):=λk hk=>QaO (ZR (Qdb λi _ j _=>bB i j) (QhR (by omega)))
 have bitB:∀i j,QaK (B i j):=λi j=>Qhv (ZR (bB i j) (Nat.pow_lt_pow_right (by decide) (by decide)))
 have stp:∀k,k+1<n->det (k+2) B=det (k+1) B*B (k+1) (k+1)-det k B*(B (k+1) k*B k (k+1)):=λk hk=>by
  rw[Qu2 (λr hr=>?_) (λr hr=>?_),ZV (B (k+1) (k+1)),ZV (B (k+1) k*B k (k+1))]
  ·rw[hB];unfold QJ;rw[tri (k+1) r hk (by omega) (.inr (by omega))];rfl
  ·rw[hB];unfold QJ;rw[tri r (k+1) (by omega) hk (.inl (by omega))];rfl
 clear tri re
 have h00:B 0 0=QJ (Qz n (Qv R [])) t t:=by rw[hB];unfold hP;rw[Nat.zero_add,Nat.mod_eq_of_lt tn]
 have eN:∀{fa fb fc:DE}{ρ:En}{ra rb rc:HS.R}{i j:Nat},fa ρ=some ra->ra.d=Qd n n (QJ (Qz n (Qv R [])))->fb ρ=some rb->rb.d= .int (hP n t i:Nat)->fc ρ=some rc->rc.d= .int (hP n t j:Nat)->Qr (Qr fa fb) fc ρ=some ⟨.int (B i j),true,[]⟩:=λ{fa fb fc ρ ra rb rc i j} ha ea hb eb hc ec=>by
  rw[hB]
  exact Qqm ha ea hb eb hc ec (hlt i) (hlt j)
 have many2:QI (Qb3 len o) (n-o)=det n B:=many.trans eB.symm
 clear many
 rw[← eB]at e5
 have le:=nr.le
 have lp:∀j,j<n-o->1<Qb3 len o j:=λj hj=>nr.big (o+j) (by omega) (by omega)
 have lb:∀j,j<n-o->(Qb3 len o j).natAbs<2^2000:=λj hj=>ZbJ (nr.ll (o+j) (by omega)) (Nat.pow_lt_pow_right (by decide) (by decide))
 have lx:∀j,j+1<n-o->Qb3 len o j∣Qb3 len o (j+1):=λj hj=>nr.sm.nxt (o+j) (by omega)
 generalize Qz n (Qv R [])=T at *
 generalize Qb3 len o=l at *
 generalize n-o=K at *
 refine QX ?_
 refine run_seq (Qh (Qkk (m:=n) (T:=T) (Q0 (Ql (r:=⟨[QR n R []],false,[]⟩) rfl e1 rfl) rfl) rfl) ?_)
 rw[Qi]
 refine run_seq (Qh (Ql (r:=⟨[QR n R []],false,[]⟩) rfl e3 rfl) ?_)
 rw[Qi]
 change Nx _ (.nx [some (QR n R [],false),some (.int t,true),some (Qd n n (QJ T),true),some (Qd n n (QJ T),true),none,none,none,none,none,none,none,none,none,none])
 refine QH (Qaa (b:=false) (Qcp (a:=false) (b:=false) (QbB (b:=true) (QL (b:=true) (Ql (r:=⟨[Qd n n (QJ T),.int n],true,[3]⟩) rfl (h4 n (QJ T)) rfl) rfl)) (QL (b:=false) (QiM (d:=Qd n n (QJ T)) (ra:=⟨Qd n n (QJ T),true,[3]⟩) (rb:=⟨Qd n n (QJ T),true,[2]⟩) rfl rfl rfl rfl (Qlm 6 n n _)) rfl)) (λh=>by cases h) (λ_=>Qt ?_))
 refine run_seq (Qh (r:=⟨.int 1,true,[]⟩) rfl ?_)
 rw[Qi]
 refine run_seq (Qh (r:=⟨.int (det 1 B),false,[]⟩) ((QaA (Qqm (n:=n) (f:=QJ T) (i:=t) (j:=t) (ra:=⟨Qd n n (QJ T),true,[2]⟩) (rb:=⟨.int t,true,[]⟩) (rc:=⟨.int t,true,[]⟩) rfl rfl rfl rfl rfl rfl tn tn)).trans (by rw[Qxk,h00])) ?_)
 rw[Qa7 rfl]
 refine Qar (P:=λρ=>∃j4 j6 j7 j8 j9 j10,ρ=[some (QR n R [],false),some (.int t,true),some (Qd n n (QJ T),true),some (Qd n n (QJ T),true),j4,some (.int (det n B),true),j6,j7,j8,j9,j10,none,none,none]) ?_ ?_
 ·refine QaF (toD:=λ(k:Nat)=> .int (1+(k:Int))) (List.range (n-1)) (λk ρ=>∃j6 j7 j8 j9 j10,ρ=[some (QR n R [],false),some (.int t,true),some (Qd n n (QJ T),true),some (Qd n n (QJ T),true),some (.int (det k B),true),some (.int (det (k+1) B),true),j6,j7,j8,j9,j10,none,none,none]) (Qgp (n:=n-1) (i:=1) (j:=(n:Int)) (QaL _ _) rfl (rb:=⟨.int n,true,[]⟩) rfl rfl (by omega) (by omega) (by decide) (by decide)) rfl ⟨none,none,none,none,none,rfl⟩ ?_ (λρ ⟨j6,j7,j8,j9,j10,h⟩=>by rw[Zo,show n-1+1=n by omega]at h;exact⟨_,j6,j7,j8,j9,j10,h⟩)
  rintro k k' ρ hk ⟨j6,j7,j8,j9,j10,rfl⟩
  have hk':k<n-1/\k=k':=by
   obtain⟨h1,h2⟩:=Zg.mp hk
   simp at h1 h2;exact⟨h1,h2⟩
  obtain⟨hkn,rfl⟩:=hk'
  have k1:k+1<n:=by omega
  refine⟨[some (QR n R [],false),some (.int t,true),some (Qd n n (QJ T),true),some (Qd n n (QJ T),true),some (.int (det k B),true),some (.int (det (k+1) B),true),some (.int (1+(k:Int)),true),j7,j8,j9,j10,none,none,none],rfl,?_⟩
  refine run_seq (Qh (r:=⟨.int ((hP n t (k+1):Nat):Int),true,[]⟩) ((Qad (a:=1+(k:Int)+t) (b:=n) (Qac (a:=1+(k:Int)) (b:=t) (ra:=⟨.int (1+(k:Int)),true,[]⟩) rfl rfl (rb:=⟨.int t,true,[]⟩) rfl rfl) rfl (rb:=⟨.int n,true,[]⟩) rfl rfl (by omega)).trans (by unfold hP;rw[Int.natCast_emod,Zaf,Zaf,Int.add_comm (k:Int)];rfl)) ?_)
  rw[Qi]
  refine run_seq (Qh (r:=⟨.int ((hP n t k:Nat):Int),true,[]⟩) ((Qad (a:=1+(k:Int)-1+t) (b:=n) (Qac (a:=1+(k:Int)-1) (b:=t) (QfP (a:=1+(k:Int)) (b:=1) (ra:=⟨.int (1+(k:Int)),true,[]⟩) rfl rfl (QaL _ _) rfl) rfl (rb:=⟨.int t,true,[]⟩) rfl rfl) rfl (rb:=⟨.int n,true,[]⟩) rfl rfl (by omega)).trans (by unfold hP;rw[Int.natCast_emod,Zaf,show 1+(k:Int)-1=k by omega])) ?_)
  rw[Qi]
  refine run_seq (Qh (r:=⟨.int (det (k+1) B),false,[]⟩) (QaA (r:=⟨.int (det (k+1) B),true,[]⟩) rfl) ?_)
  rw[Qa7 rfl]
  change Nx _ (.nx [some (QR n R [],false),some (.int t,true),some (Qd n n (QJ T),true),some (Qd n n (QJ T),true),some (.int (det k B),true),some (.int (det (k+1) B),true),some (.int (1+(k:Int)),true),some (.int ((hP n t (k+1):Nat):Int),true),some (.int ((hP n t k:Nat):Int),true),some (.int (det (k+1) B),true),j10,none,none,none])
  have bb:QaK (B (k+1) k*B k (k+1)):=QaO (ZR (by rw[Zaa];exact Zbe (bB (k+1) k) (bB k (k+1))) (by rw[← Nat.pow_add];exact Nat.pow_lt_pow_right (by decide) (by decide)))
  refine run_seq (Qh (QaH (a:=B (k+1) k) (b:=B k (k+1)) (eN (i:=k+1) (j:=k) (ra:=⟨Qd n n (QJ T),true,[2]⟩) (rb:=⟨.int ((hP n t (k+1):Nat):Int),true,[]⟩) (rc:=⟨.int ((hP n t k:Nat):Int),true,[]⟩) rfl rfl rfl rfl rfl rfl) rfl (eN (i:=k) (j:=k+1) (ra:=⟨Qd n n (QJ T),true,[2]⟩) (rb:=⟨.int ((hP n t k:Nat):Int),true,[]⟩) (rc:=⟨.int ((hP n t (k+1):Nat):Int),true,[]⟩) rfl rfl rfl rfl rfl rfl) rfl (Qc9 (bitB _ _) (bitB _ _))) ?_)
  rw[Qi]
  change Nx _ (.nx [some (QR n R [],false),some (.int t,true),some (Qd n n (QJ T),true),some (Qd n n (QJ T),true),some (.int (det k B),true),some (.int (det (k+1) B),true),some (.int (1+(k:Int)),true),some (.int ((hP n t (k+1):Nat):Int),true),some (.int ((hP n t k:Nat):Int),true),some (.int (det (k+1) B),true),some (.int (B (k+1) k*B k (k+1)),true),none,none,none])
  refine run_seq (Qh (r:=⟨.int (det (k+2) B),true,[]⟩) ((QfP (a:=det (k+1) B*B (k+1) (k+1)) (b:=det k B*(B (k+1) k*B k (k+1))) (QaH (a:=det (k+1) B) (b:=B (k+1) (k+1)) (ra:=⟨.int (det (k+1) B),true,[]⟩) rfl rfl (eN (i:=k+1) (j:=k+1) (ra:=⟨Qd n n (QJ T),true,[2]⟩) (rb:=⟨.int ((hP n t (k+1):Nat):Int),true,[]⟩) (rc:=⟨.int ((hP n t (k+1):Nat):Int),true,[]⟩) rfl rfl rfl rfl rfl rfl) rfl (Qc9 (bits _ (by omega)) (bitB _ _))) rfl (QaH (a:=det k B) (b:=B (k+1) k*B k (k+1)) (ra:=⟨.int (det k B),true,[]⟩) rfl rfl (rb:=⟨.int (B (k+1) k*B k (k+1)),true,[]⟩) rfl rfl (Qc9 (bits _ (by omega)) bb)) rfl).trans (by rw[stp k k1])) ?_)
  rw[Qi]
  refine run_seq (Qh (r:=⟨.int (det (k+1) B),false,[]⟩) (QaA (r:=⟨.int (det (k+1) B),true,[]⟩) rfl) (Qt ?_))
  rw[Qa7 rfl]
  exact⟨_,_,_,_,_,rfl⟩
 rintro ρ ⟨j4,j6,j7,j8,j9,j10,rfl⟩
 refine run_seq (Qh (Ql (r:=⟨[QR n R []],false,[]⟩) rfl e5 rfl) ?_)
 rw[Qi]
 refine run_seq (Qh (Ql (r:=⟨[QR n R []],false,[]⟩) rfl e9 rfl) ?_)
 rw[Qi]
 change Nx _ (.nx [some (QR n R [],false),some (.int t,true),some (Qd n n (QJ T),true),some (Qd n n (QJ T),true),j4,some (.int (det n B),true),j6,j7,j8,j9,j10,some (.int (det n B),true),some (Qf K l,true),none])
 refine QH (Qaa (b:=false) (Qcp (a:=false) (b:=false) (QbB (b:=true) (QL (b:=true) (Ql (r:=⟨[.int (det n B)],true,[]⟩) rfl (h6 _) rfl) rfl)) (Qcp (a:=false) (b:=false) (QL (b:=false) (QcY (a:=det n B) (b:=det n B) (ra:=⟨.int (det n B),true,[]⟩) rfl rfl (rb:=⟨.int (det n B),true,[]⟩) rfl rfl) (by simp)) (QbB (b:=true) (QL (b:=true) (Ql (Qq (r:=⟨Qf K l,true,[12]⟩) rfl (Qq (Qi2 (m:=K) (f:=l) (r:=⟨Qf K l,true,[12]⟩) rfl rfl) (QS _))) (h10 K l) rfl) rfl)))) (λh=>by cases h) (λ_=>Qt ?_))
 refine run_seq (Qh (r:=⟨.int 1,true,[]⟩) rfl ?_)
 rw[Qi]
 rw[← many2]
 refine Qar (P:=λρ=>∃j4 j13,ρ=[some (QR n R [],false),some (.int t,true),some (Qd n n (QJ T),true),some (Qd n n (QJ T),true),j4,some (.int 1,true),j6,j7,j8,j9,j10,some (.int (QI l K),true),some (Qf K l,false),j13]) ?_ ?_
 ·refine QaF (toD:=λ(j:Nat)=> .int (l j)) (List.range K) (λi ρ=>∃z j13,(i=0/\z=1∨∃h,i=h+1/\z=l h)/\ρ=[some (QR n R [],false),some (.int t,true),some (Qd n n (QJ T),true),some (Qd n n (QJ T),true),some (.int z,true),some (.int (QI (λj=>l (i+j)) (K-i)),true),j6,j7,j8,j9,j10,some (.int (QI l K),true),some (Qf K l,false),j13]) (Q0 (r:=⟨Qf K l,true,[12]⟩) rfl rfl) rfl ⟨1,none,.inl ⟨rfl,rfl⟩,?_⟩ ?_ ?_
  ·rw[show(λj=>l (0+j))=l by funext j;rw[Nat.zero_add],Zbw]
   rfl
  ·rintro i i' ρ hi ⟨z,j13,hz,rfl⟩
   have hi':i<K/\i=i':=by
    obtain⟨h1,h2⟩:=Zg.mp hi
    simp at h1 h2;exact⟨h1,h2⟩
   obtain⟨hik,rfl⟩:=hi'
   refine⟨[some (QR n R [],false),some (.int t,true),some (Qd n n (QJ T),true),some (Qd n n (QJ T),true),some (.int z,true),some (.int (QI (λj=>l (i+j)) (K-i)),true),j6,j7,j8,j9,j10,some (.int (QI l K),true),some (Qf K l,false),some (.int (l i),true)],rfl,?_⟩
   have l1:=lp i hik
   have z1:0<z/\z∣l i:=by
    rcases hz with⟨_,rfl⟩ | ⟨h,rfl,rfl⟩
    ·exact⟨by decide,Int.one_dvd _⟩
    ·have:=lp h (by omega)
     exact⟨by omega,lx h hik⟩
   refine QH (Qaa (b:=false) (Qcp (a:=false) (b:=false) (QL (Qbb (d:= .bl (decide (l i<2))) (ra:=⟨.int (l i),true,[]⟩) (rb:=⟨.int 2,true,[]⟩) rfl rfl rfl) (by rw[decide_eq_false (by omega)])) (QL (b:=false) (QcY (a:=l i % z) (b:=0) (Qad (a:=l i) (b:=z) (ra:=⟨.int (l i),true,[]⟩) rfl rfl (rb:=⟨.int z,true,[]⟩) rfl rfl z1.1) rfl (QaL _ _) rfl) (by rw[Int.emod_eq_zero_of_dvd z1.2];rfl))) (λh=>by cases h) (λ_=>Qt ?_))
   refine run_seq (Qh (r:=⟨.int (l i),false,[]⟩) (QaA (r:=⟨.int (l i),true,[]⟩) rfl) ?_)
   rw[Qa7 rfl]
   have ed:QI (λj=>l (i+j)) (K-i)=l i*QI (λj=>l (i+1+j)) (K-(i+1)):=by
    rw[show K-i=(K-(i+1))+1 by omega,QgX]
    congr 2
    funext j
    rw[show i+(j+1)=i+1+j by omega]
   refine run_seq (Qh (Qez (a:=QI (λj=>l (i+j)) (K-i)) (b:=l i) (q:=QI (λj=>l (i+1+j)) (K-(i+1))) (ra:=⟨.int (QI (λj=>l (i+j)) (K-i)),true,[]⟩) rfl rfl (rb:=⟨.int (l i),true,[]⟩) rfl rfl (by omega) (lb i hik) ed) (Qt ?_))
   rw[Qi]
   exact⟨l i,some (.int (l i),true),.inr ⟨i,rfl,rfl⟩,rfl⟩
  ·rintro ρ ⟨z,j13,_,rfl⟩
   rw[Zo,Nat.sub_self]
   exact⟨_,_,rfl⟩
 rintro ρ ⟨j4,j13,rfl⟩
 exact QC (r:=⟨.bl true,true,[]⟩) (Qa0 (a:=1) (b:=1) (ra:=⟨.int 1,true,[]⟩) rfl rfl (QaL _ _) rfl) ⟨rfl,rfl⟩
theorem QwY:Qbg 2 [(0,2),(0,2),(1,2),(0,1)] [(1,0)]:=⟨[(0,2,false),(0,2,false),(1,2,false),(0,1,false),(1,0,true)],λA ⟨p,hp,hA⟩=>by
 have hc:p=0∨p=1:=by omega
 rcases hc with rfl | rfl
 ·exact⟨(0,2,false),by simp,by decide,hA,.inl rfl⟩
 ·exact⟨(1,2,false),by simp,by decide,hA,.inl rfl⟩,by unfold GoodW Good;decide,by decide,by decide,by decide⟩
theorem Qqv:Qbg 1 [(0,1)] []:=⟨[(0,1,false)],λA ⟨p,hp,hA⟩=>by
 have hc:p=0:=by omega
 subst hc
 exact⟨(0,1,false),by simp,by decide,hA,.inl rfl⟩,by unfold GoodW Good;decide,by decide,by decide,by decide⟩
noncomputable def QmL(QdA:Den)(Qdk:Den)(QbK:Den)(Qbj:Den)(Qab:Den)(Q6:Den)(Qay:Den):DS:=(Qe (Qo 1 (Qj 3 QdA [] (Qc (Qa 0) (Qc (dC (.int 4)) (Qc (dC (.int 8)) Qg))))) (Qe (Qo 2 (Qj 1 Qdk [] (Qc (Qa 0) Qg))) (Qe (sIf (bOr (Qck (QO (Qj 1 QbK [] (Qc (Qa 1) Qg)))) (Qck (QO (Qj 2 Qbj [] (Qc (Qr (Qa 2) (dC (.int 0))) (Qc (Qr (Qa 2) (dC (.int 1))) Qg)))))) (Qe (QP (dC (.bl false))) Qp) Qp) (Qe (Qo 3 (Qj 1 Qab [] (Qc (Qa 1) Qg))) (Qe (Qo 4 (dList (Qc (Qa 3) Qg))) (Qe (Qo 5 (Qj 1 Q6 [] (Qc (Qa 1) Qg))) (Qe (sIf (Qck (QO (Qj 1 QbK [] (Qc (Qat (Qc (dC (.int 2)) (Qc (QaC (Qc (Qat (Qc (dC (.int 0)) (Qc (dC (.int 2)) Qg))) (Qc (Qat (Qc (dC (.int 0)) (Qc (dC (.int 2)) Qg))) (Qc (Qat (Qc (dC (.int 1)) (Qc (dC (.int 2)) Qg))) (Qc (Qat (Qc (dC (.int 0)) (Qc (dC (.int 1)) Qg))) Qg))))) (Qc (QaC (Qc (Qat (Qc (dC (.int 1)) (Qc (dC (.int 0)) Qg))) Qg)) Qg)))) Qg)))) (Qe (QP (dC (.bl false))) Qp) Qp) (Qe (sIf (bOr (QO (dOp gNe (Qj 1 Qab [] (Qc (Qat (Qc (dC (.int 1)) (Qc (QaC (Qc (Qat (Qc (dC (.int 0)) (Qc (dC (.int 1)) Qg))) Qg)) (Qc (QaC Qg) Qg)))) Qg)) (QaC Qg))) (QO (dOp gNe (Qa 3) (Qa 4)))) (Qe (QP (dC (.bl false))) Qp) Qp) (Qe (sIf (QO (dOp gNe (Qa 5) (QM (QY (Qj 1 Qay [] (Qc (Qa 1) Qg))) (.nm 1) [none,none] QW (QM (QY (Qa 1)) (.nm 1) [none,none] QW (dOp Qa6 (dC (.int 0)) (Qa 1)))))) (Qe (QP (dC (.bl false))) Qp) Qp) (Qe (QdS 3 Qal (dC (.int 0))) (Qe (QP (Qj 1 QbK [] (Qc (Qa 1) Qg))) Qp)))))))))))
theorem QzQ{drt dn dl dg dlg drl dnt dT:Den}(hs:QfC drt)(hn:Qml dn)(hl:Qkb dl)(hg:QjX dg)(hlg:Qiq dlg)(hrl:Qih drt drl)(hnt:Qfz dnt)(hT:TabsOk dT)(ns:List Int)(hlen:ns.length<=63)(hb:∀k,QaK (ns.getD k 0)):Qn 6 (QmL dn dl dg dlg drl dnt dT) [.lst (ns.map .int)]=some (.bl true,true):=by
 obtain⟨m,R,L,en,m0,m4,hw⟩:=hn ns 4 8 hlen hb (by decide) (by decide) (by decide)
 obtain⟨n,t,c1,c2,n0,n8,tn,h1,h2,el⟩:=hl ns hlen hb
 have gl:=hlg n t _ n0 n8 tn (Qox (t:=t) n0 n8 h1 h2) λi j hi hj hij=>QvQ n0 n8 h1 h2 hi hj hij
 have gn:=hg m R L m0 m4 hw
 obtain⟨o,Lf,Rt,Lb,Rb,len,nr,re⟩:=Qgg hs m0 (by omega) hw
 have er:=hrl m R L o Lf Rt Lb Rb len (by omega) hw nr re
 obtain⟨o1,Lf1,Rt1,Lb1,Rb1,len1,nr1,re1⟩:=Qgg hs (by decide:0<1) (by decide) Qqv
 have er1:=hrl 1 [(0,1)] [] o1 Lf1 Rt1 Lb1 Rb1 len1 (by decide) Qqv nr1 re1
 have o11:1-o1=0:=by
  have e:=nr1.sm.many
  have d1:det 1 (QJ (Qz 1 (Qv [(0,1)] [])))=1:=by decide+kernel
  rw[QaV,d1]at e
  have e:QI len1 1=1:=e
  have e:1*len1 0=1:=e
  have:=nr1.big 0
  have:=nr1.le
  by_cases z:o1=0
  ·have:=nr1.big 0 (by omega) (by decide);omega
  ·omega
 rw[o11]at er1
 have et:=hnt m R L (by omega) hw
 have g:=hw.good
 have eT:=hT m R L m0 (by omega) (by omega) g.1 g.2.1
 generalize hK:m-o=K at er
 have K8:K<=8:=by omega
 generalize QK (Qaq n t c1 c2 n)=W at el gl
 generalize Qb3 len o=l at er
 clear nr re nr1 re1 o11 hK g
 generalize Qz m (Qv R L)=T at *
 refine QX ?_
 refine run_seq (Qh (Ql (r:=⟨[.lst (ns.map .int),.int ((4:Nat):Int),.int ((8:Nat):Int)],false,[]⟩) rfl en rfl) ?_)
 rw[Qi]
 refine run_seq (Qh (Ql (r:=⟨[.lst (ns.map .int)],false,[]⟩) rfl el rfl) ?_)
 rw[Qi]
 change Nx _ (.nx [some (.lst (ns.map .int),false),some (QR m R L,true),some (.lst [QR n W [],.int t],true),none,none,none])
 refine QH (Qaa (b:=false) (Qcp (a:=false) (b:=false) (QbB (b:=true) (QL (b:=true) (Ql (r:=⟨[QR m R L],true,[1]⟩) rfl gn rfl) rfl)) (QbB (b:=true) (QL (b:=true) (Ql (r:=⟨[QR n W [],.int t],true,[2]⟩) rfl gl rfl) rfl))) (λh=>by cases h) (λ_=>Qt ?_))
 refine run_seq (Qh (Ql (r:=⟨[QR m R L],true,[1]⟩) rfl er rfl) ?_)
 rw[Qi]
 refine run_seq (Qh (Qt3 (m:=K) (f:=l) (rs:=⟨[Qf K l],true,[3]⟩) rfl rfl) ?_)
 rw[Qi]
 refine run_seq (Qh (Ql (r:=⟨[QR m R L],true,[1]⟩) rfl et rfl) ?_)
 rw[Qi]
 change Nx _ (.nx [some (.lst (ns.map .int),false),some (QR m R L,true),some (.lst [QR n W [],.int t],true),some (Qf K l,true),some (Qf K l,true),some (Qd m m (QJ T),true)])
 refine QH (Qaa (b:=false) (QbB (b:=true) (QL (b:=true) (Ql (r:=⟨[QR 2 [(0,2),(0,2),(1,2),(0,1)] [(1,0)]],true,[]⟩) rfl (hg 2 _ _ (by decide) (by decide) QwY) rfl) rfl)) (λh=>by cases h) (λ_=>Qt ?_))
 refine QH (Qaa (b:=false) (Qcp (a:=false) (b:=false) (QL (b:=false) (QiM (d:= .lst []) (Ql (r:=⟨[QR 1 [(0,1)] []],true,[]⟩) rfl er1 rfl) rfl (rb:=⟨.lst [],true,[]⟩) rfl rfl (by decide+kernel)) rfl) (QL (b:=false) (QiM (d:=Qf K l) (ra:=⟨Qf K l,true,[3]⟩) (rb:=⟨Qf K l,true,[4]⟩) rfl rfl rfl rfl (QlB 7 _ _)) rfl)) (λh=>by cases h) (λ_=>Qt ?_))
 refine QH (Qaa (b:=false) (QL (b:=false) (QiM (d:=Qd m m (QJ T)) (ra:=⟨Qd m m (QJ T),true,[5]⟩) rfl rfl (Qkk (m:=m) (T:=T) (Q0 (Ql (r:=⟨[QR m R L],true,[1]⟩) rfl eT rfl) rfl) rfl) rfl (Qlm 6 m m _)) rfl) (λh=>by cases h) (λ_=>Qt ?_))
 refine run_seq (QtQ (x:=3) (i:=K) (g:=l) (v:=0) (r:=⟨.int 0,true,[]⟩) rfl rfl rfl (by omega) ?_)
 exact QC (Ql (r:=⟨[QR m R L],true,[1]⟩) rfl gn rfl) ⟨rfl,rfl⟩
end HS
theorem HS.some_of{α:Type}{x:Option α}{d:α}(h:x.isSome=true):x=some (x.getD d):=by cases x with | none=>cases h | some a=>rfl
namespace Law
open PySem L2 HS
noncomputable section
def top(i:Nat):Stmt:=PySem.Challenge.pw_heapstill_k41_tables_and_lengths.main.body.getD i (.Pass ⟨0,0,0,0⟩)
abbrev cst:List (Str×Int):=[]
abbrev Sc(s:Stmt)(P:List Str):Prop:=QdJ (namesOf (QD s)) P (QD s)
theorem scM{s:Stmt}{P:List Str}(h1:(QD s).kind= .function)(h2:(QD s).isCoroutine=false)(h3:(QD s).isGenerator=false)(h4:(namesOf (QD s)).Nodup/\(namesOf (QD s)).take P.length=P/\(∀x∈P,(QD s).names.lookup x=some .local ∨(QD s).names.lookup x=some .cell)/\∀y∈(QD s).names,y.2≠ .free):Sc s P:=⟨h1,h2,h3,h4.1,h4.2.1,h4.2.2.1,h4.2.2.2⟩
noncomputable abbrev Cp(s:Stmt)(Γ:List (Str×FnR)):Option DS:=Qa1 60 (QlW s Γ cst) (QcG s)
noncomputable abbrev Dn(s:Stmt)(g:DS):Den:=Qn (namesOf (QD s)).length g
noncomputable abbrev Gc(x:Str)(n:Nat)(d:Den)(Γ:List (Str×FnR)):List (Str×FnR):=(x,⟨n,[],d⟩)::Γ
abbrev QeD:=top 4
theorem Qsp:Sc QeD ["table","at"]:=scM rfl rfl rfl (by decide+kernel)
theorem Qvt:Qx "column" QeD ["table","at"]:=λ_ _ _ _ _ _=>lc λ_=>lc λ_=>l0 rfl
def QnJ:=(Cp QeD []).getD QE
theorem Quz:Cp QeD []=some QnJ:=some_of (by decide+kernel)
abbrev Qch:=Dn QeD QnJ
abbrev QjB:=Gc "column" 2 Qch []
abbrev QeI:=top 5
theorem QsC:Sc QeI ["table"]:=scM rfl rfl rfl (by decide+kernel)
theorem Qvf:Qx "turned" QeI ["table"]:=λ_ _ _ _ _ _=>lc λ_=>l0 rfl
def Qo5:=(Cp QeI QjB).getD QE
theorem Qud:Cp QeI QjB=some Qo5:=some_of (by decide+kernel)
abbrev Qbi:=Dn QeI Qo5
abbrev Qko:=Gc "turned" 1 Qbi QjB
abbrev Qdz:=top 6
theorem QpS:Sc Qdz ["size","at"]:=scM rfl rfl rfl (by decide+kernel)
theorem Qq8:Qx "unit_row" Qdz ["size","at"]:=λ_ _ _ _ _ _=>lc λ_=>lc λ_=>l0 rfl
def QkY:=(Cp Qdz Qko).getD QE
theorem Qrb:Cp Qdz Qko=some QkY:=some_of (by decide+kernel)
abbrev QbG:=Dn Qdz QkY
abbrev QhI:=Gc "unit_row" 2 QbG Qko
abbrev Qcw:=top 7
theorem Qm6:Sc Qcw ["size"]:=scM rfl rfl rfl (by decide+kernel)
theorem QoU:Qx "unit_table" Qcw ["size"]:=λ_ _ _ _ _ _=>lc λ_=>l0 rfl
def Qik:=(Cp Qcw QhI).getD QE
theorem Qou:Cp Qcw QhI=some Qik:=some_of (by decide+kernel)
abbrev Qaj:=Dn Qcw Qik
abbrev QfK:=Gc "unit_table" 1 Qaj QhI
abbrev QdB:=top 8
theorem QpB:Sc QdB ["line"]:=scM rfl rfl rfl (by decide+kernel)
theorem QrP:Qx "opposite" QdB ["line"]:=λ_ _ _ _ _ _=>lc λ_=>l0 rfl
def Qlb:=(Cp QdB QfK).getD QE
theorem QrS:Cp QdB QfK=some Qlb:=some_of (by decide+kernel)
abbrev QbH:=Dn QdB Qlb
abbrev QhY:=Gc "opposite" 1 QbH QfK
abbrev QeY:=top 9
theorem Qtq:Sc QeY ["one","other"]:=scM rfl rfl rfl (by decide+kernel)
theorem Qum:Qx "scalar" QeY ["one","other"]:=λ_ _ _ _ _ _=>lc λ_=>lc λ_=>l0 rfl
def Qpl:=(Cp QeY QhY).getD QE
theorem QuV:Cp QeY QhY=some Qpl:=some_of (by decide+kernel)
abbrev QeP:=Dn QeY Qpl
abbrev QjN:=Gc "scalar" 2 QeP QhY
abbrev Qed:=top 11
theorem Qq3:Sc Qed ["line","columns"]:=scM rfl rfl rfl (by decide+kernel)
theorem Qtm:Qx "line_by" Qed ["line","columns"]:=λ_ _ _ _ _ _=>lc λ_=>lc λ_=>l0 rfl
def QmN:=(Cp Qed QjN).getD QE
theorem QsR:Cp Qed QjN=some QmN:=some_of (by decide+kernel)
abbrev Qej:=Dn Qed QmN
abbrev Qir:=Gc "line_by" 2 Qej QjN
abbrev Qeh:=top 10
theorem QrA:Sc Qeh ["one","other"]:=scM rfl rfl rfl (by decide+kernel)
theorem Qtd:Qx "product" Qeh ["one","other"]:=λ_ _ _ _ _ _=>lc λ_=>lc λ_=>l0 rfl
def QmK:=(Cp Qeh Qir).getD QE
theorem Qr9:Cp Qeh Qir=some QmK:=some_of (by decide+kernel)
abbrev QaW:=Dn Qeh QmK
abbrev Qil:=Gc "product" 2 QaW Qir
abbrev QeJ:=top 12
theorem Qts:Sc QeJ ["numbers"]:=scM rfl rfl rfl (by decide+kernel)
theorem Qu8:Qx "common" QeJ ["numbers"]:=λ_ _ _ _ _ _=>lc λ_=>l0 rfl
def QnY:=(Cp QeJ Qil).getD QE
theorem Qvn:Cp QeJ Qil=some QnY:=some_of (by decide+kernel)
abbrev Qd4:=Dn QeJ QnY
abbrev QjM:=Gc "common" 1 Qd4 Qil
abbrev Qcx:=top 14
theorem Qni:Sc Qcx ["lines","at"]:=scM rfl rfl rfl (by decide+kernel)
theorem Qnx:Qx "with_pivot" Qcx ["lines","at"]:=λ_ _ _ _ _ _=>lc λ_=>lc λ_=>l0 rfl
def QiP:=(Cp Qcx QjM).getD QE
theorem Qpe:Cp Qcx QjM=some QiP:=some_of (by decide+kernel)
abbrev QcC:=Dn Qcx QiP
abbrev Qf0:=Gc "with_pivot" 2 QcC QjM
abbrev Qdd:=top 15
theorem Qo0:Sc Qdd ["line","pivot_line","at","before"]:=scM rfl rfl rfl (by decide+kernel)
theorem Qp9:Qx "taken_off" Qdd ["line","pivot_line","at","before"]:=λ_ _ _ _ _ _=>lc λ_=>lc λ_=>lc λ_=>lc λ_=>l0 rfl
def Qjv:=(Cp Qdd Qf0).getD QE
theorem QpF:Cp Qdd Qf0=some Qjv:=some_of (by decide+kernel)
abbrev Qc5:=Dn Qdd Qjv
abbrev QgW:=Gc "taken_off" 4 Qc5 Qf0
abbrev Qei:=top 13
theorem Qrd:Sc Qei ["lines"]:=scM rfl rfl rfl (by decide+kernel)
theorem QsT:Qx "cleared" Qei ["lines"]:=λ_ _ _ _ _ _=>lc λ_=>l0 rfl
def Qmw:=(Cp Qei QgW).getD QE
theorem Qsr:Cp Qei QgW=some Qmw:=some_of (by decide+kernel)
abbrev Qcg:=Dn Qei Qmw
abbrev Qij:=Gc "cleared" 1 Qcg QgW
abbrev Qee:=top 16
theorem QqO:Sc Qee ["table"]:=scM rfl rfl rfl (by decide+kernel)
theorem QtA:Qx "measure" Qee ["table"]:=λ_ _ _ _ _ _=>lc λ_=>l0 rfl
def Qmx:=(Cp Qee Qij).getD QE
theorem Qtj:Cp Qee Qij=some Qmx:=some_of (by decide+kernel)
abbrev Qek:=Dn Qee Qmx
abbrev Qh8:=Gc "measure" 1 Qek Qij
abbrev Qbz:=top 17
theorem Qkf:Sc Qbz ["lines"]:=scM rfl rfl rfl (by decide+kernel)
theorem QkE:Qx "cleared_whole" Qbz ["lines"]:=λ_ _ _ _ _ _=>lc λ_=>l0 rfl
def Qgy:=(Cp Qbz Qh8).getD QE
theorem QkK:Cp Qbz Qh8=some Qgy:=some_of (by decide+kernel)
abbrev Qby:=Dn Qbz Qgy
abbrev Qeu:=Gc "cleared_whole" 1 Qby Qh8
abbrev Qcc:=top 18
theorem Ql7:Sc Qcc ["table"]:=scM rfl rfl rfl (by decide+kernel)
theorem Qne:Qx "turned_back" Qcc ["table"]:=λ_ _ _ _ _ _=>lc λ_=>l0 rfl
def Qh4:=(Cp Qcc Qeu).getD QE
theorem Qm9:Cp Qcc Qeu=some Qh4:=some_of (by decide+kernel)
abbrev Qcb:=Dn Qcc Qh4
abbrev Qfi:=Gc "turned_back" 1 Qcb Qeu
abbrev QfE:=top 20
theorem QvC:Sc QfE ["roads","lanes"]:=scM rfl rfl rfl (by decide+kernel)
theorem Qxm:Qx "steps" QfE ["roads","lanes"]:=λ_ _ _ _ _ _=>lc λ_=>lc λ_=>l0 rfl
def Qqd:=(Cp QfE Qfi).getD QE
theorem Qwh:Cp QfE Qfi=some Qqd:=some_of (by decide+kernel)
abbrev Qem:=Dn QfE Qqd
abbrev Qmq:=Gc "steps" 2 Qem Qfi
abbrev Qct:=top 21
theorem Qm7:Sc Qct ["net"]:=scM rfl rfl rfl (by decide+kernel)
theorem QoP:Qx "toll_table" Qct ["net"]:=λ_ _ _ _ _ _=>lc λ_=>l0 rfl
def Qh9:=(Cp Qct Qmq).getD QE
theorem Qol:Cp Qct Qmq=some Qh9:=some_of (by decide+kernel)
abbrev Qcy:=Dn Qct Qh9
abbrev Qf2:=Gc "toll_table" 1 Qcy Qmq
abbrev Qdg:=top 23
theorem Qoo:Sc Qdg ["net"]:=scM rfl rfl rfl (by decide+kernel)
theorem QpY:Qx "net_table" Qdg ["net"]:=λ_ _ _ _ _ _=>lc λ_=>l0 rfl
def Qjr:=(Cp Qdg Qf2).getD QE
theorem QpM:Cp Qdg Qf2=some Qjr:=some_of (by decide+kernel)
abbrev Q6:=Dn Qdg Qjr
abbrev QgN:=Gc "net_table" 1 Q6 Qf2
abbrev Qdh:=top 30
theorem QnI:Sc Qdh ["lines","number"]:=scM rfl rfl rfl (by decide+kernel)
theorem Qpx:Qx "in_common" Qdh ["lines","number"]:=λ_ _ _ _ _ _=>lc λ_=>lc λ_=>l0 rfl
def Qjj:=(Cp Qdh QgN).getD QE
theorem Qpz:Cp Qdh QgN=some Qjj:=some_of (by decide+kernel)
abbrev Qa3:=Dn Qdh Qjj
abbrev QgI:=Gc "in_common" 2 Qa3 QgN
abbrev QfF:=top 34
theorem Qt1:Sc QfF ["factor","line","other_factor","other_line"]:=scM rfl rfl rfl (by decide+kernel)
theorem Qx1:Qx "added" QfF ["factor","line","other_factor","other_line"]:=λ_ _ _ _ _ _=>lc λ_=>lc λ_=>lc λ_=>lc λ_=>l0 rfl
def Qqh:=(Cp QfF QgI).getD QE
theorem QwU:Cp QfF QgI=some Qqh:=some_of (by decide+kernel)
abbrev Qb9:=Dn QfF Qqh
abbrev QlR:=Gc "added" 4 Qb9 QgI
abbrev Qec:=top 35
theorem Qq0:Sc Qec ["one","other"]:=scM rfl rfl rfl (by decide+kernel)
theorem Qr3:Qx "weighed" Qec ["one","other"]:=λ_ _ _ _ _ _=>lc λ_=>lc λ_=>l0 rfl
def Qm0:=(Cp Qec QlR).getD QE
theorem Qsg:Cp Qec QlR=some Qm0:=some_of (by decide+kernel)
abbrev Qeb:=Dn Qec Qm0
abbrev Qig:=Gc "weighed" 2 Qeb QlR
abbrev QbV:=top 33
theorem QkV:Sc QbV ["free","last"]:=scM rfl rfl rfl (by decide+kernel)
theorem QlD:Qx "column_steps" QbV ["free","last"]:=λ_ _ _ _ _ _=>lc λ_=>lc λ_=>l0 rfl
def Qhe:=(Cp QbV Qig).getD QE
theorem QlU:Cp QbV Qig=some Qhe:=some_of (by decide+kernel)
abbrev QbU:=Dn QbV Qhe
abbrev QeF:=Gc "column_steps" 2 QbU Qig
abbrev QeA:=top 29
theorem Qte:Sc QeA ["line","length"]:=scM rfl rfl rfl (by decide+kernel)
theorem QvD:Qx "within" QeA ["line","length"]:=λ_ _ _ _ _ _=>lc λ_=>lc λ_=>l0 rfl
def Qn3:=(Cp QeA QeF).getD QE
theorem Qt0:Cp QeA QeF=some Qn3:=some_of (by decide+kernel)
abbrev QcK:=Dn QeA Qn3
abbrev QjR:=Gc "within" 2 QcK QeF
abbrev QfG:=top 32
theorem QuM:Sc QfG ["one","other","length"]:=scM rfl rfl rfl (by decide+kernel)
theorem QwA:Qx "mixed" QfG ["one","other","length"]:=λ_ _ _ _ _ _=>lc λ_=>lc λ_=>lc λ_=>l0 rfl
def Qqr:=(Cp QfG QjR).getD QE
theorem Qxi:Cp QfG QjR=some Qqr:=some_of (by decide+kernel)
abbrev Qfy:=Dn QfG Qqr
abbrev Qmd:=Gc "mixed" 3 Qfy QjR
abbrev Qb4:=top 31
theorem QlG:Sc Qb4 ["lines","length"]:=scM rfl rfl rfl (by decide+kernel)
theorem Qnj:Qx "free_column" Qb4 ["lines","length"]:=λ_ _ _ _ _ _=>lc λ_=>lc λ_=>l0 rfl
def Qh1:=(Cp Qb4 Qmd).getD QE
theorem Qnb:Cp Qb4 Qmd=some Qh1:=some_of (by decide+kernel)
abbrev Qb6:=Dn Qb4 Qh1
abbrev Qfh:=Gc "free_column" 2 Qb6 Qmd
abbrev QeC:=top 28
theorem Qtz:Sc QeC ["line","number"]:=scM rfl rfl rfl (by decide+kernel)
theorem QtS:Qx "shared" QeC ["line","number"]:=λ_ _ _ _ _ _=>lc λ_=>lc λ_=>l0 rfl
def QoA:=(Cp QeC Qfh).getD QE
theorem QuG:Cp QeC Qfh=some QoA:=some_of (by decide+kernel)
abbrev Qci:=Dn QeC QoA
abbrev QjU:=Gc "shared" 2 Qci Qfh
abbrev QbP:=top 26
theorem Qk1:Sc QbP ["parts","whole"]:=scM rfl rfl rfl (by decide+kernel)
theorem QlH:Qx "right_tables" QbP ["parts","whole"]:=λ_ _ _ _ _ _=>lc λ_=>lc λ_=>l0 rfl
def Qg4:=(Cp QbP QjU).getD QE
theorem QlI:Cp QbP QjU=some Qg4:=some_of (by decide+kernel)
abbrev QbL:=Dn QbP Qg4
abbrev QeN:=Gc "right_tables" 2 QbL QjU
abbrev Qdj:=top 27
theorem QoY:Sc Qdj ["line","factor"]:=scM rfl rfl rfl (by decide+kernel)
theorem QpD:Qx "by_number" Qdj ["line","factor"]:=λ_ _ _ _ _ _=>lc λ_=>lc λ_=>l0 rfl
def Qjg:=(Cp Qdj QeN).getD QE
theorem QpA:Cp Qdj QeN=some Qjg:=some_of (by decide+kernel)
abbrev Qc4:=Dn Qdj Qjg
abbrev QgH:=Gc "by_number" 2 Qc4 QeN
abbrev Qb8:=top 25
theorem Qmf:Sc Qb8 ["table"]:=scM rfl rfl rfl (by decide+kernel)
theorem Qng:Qx "ring_tables" Qb8 ["table"]:=λ_ _ _ _ _ _=>lc λ_=>l0 rfl
def Qh2:=(Cp Qb8 QgH).getD QE
theorem Qm5:Cp Qb8 QgH=some Qh2:=some_of (by decide+kernel)
abbrev QbA:=Dn Qb8 Qh2
abbrev Qfn:=Gc "ring_tables" 1 QbA QgH
abbrev QdD:=top 37
theorem QpH:Sc QdD ["net"]:=scM rfl rfl rfl (by decide+kernel)
theorem QrN:Qx "how_many" QdD ["net"]:=λ_ _ _ _ _ _=>lc λ_=>l0 rfl
def QkT:=(Cp QdD Qfn).getD QE
theorem QqN:Cp QdD Qfn=some QkT:=some_of (by decide+kernel)
abbrev QbD:=Dn QdD QkT
abbrev QhQ:=Gc "how_many" 1 QbD Qfn
abbrev Qbd:=top 38
theorem Qjd:Sc Qbd ["middle"]:=scM rfl rfl rfl (by decide+kernel)
theorem Qkl:Qx "middle_entries" Qbd ["middle"]:=λ_ _ _ _ _ _=>lc λ_=>l0 rfl
def Qf7:=(Cp Qbd QhQ).getD QE
theorem Qj2:Cp Qbd QhQ=some Qf7:=some_of (by decide+kernel)
abbrev Qbn:=Dn Qbd Qf7
abbrev Qd2:=Gc "middle_entries" 1 Qbn QhQ
abbrev QbT:=top 39
theorem QkI:Sc QbT ["net"]:=scM rfl rfl rfl (by decide+kernel)
theorem Qma:Qx "ring_lengths" QbT ["net"]:=λ_ _ _ _ _ _=>lc λ_=>l0 rfl
def Qg6:=(Cp QbT Qd2).getD QE
theorem QlY:Cp QbT Qd2=some Qg6:=some_of (by decide+kernel)
abbrev Qab:=Dn QbT Qg6
abbrev QeE:=Gc "ring_lengths" 1 Qab Qd2
abbrev Qdc:=top 41
theorem Qog:Sc Qdc ["_law_script","_law_k"]:=scM rfl rfl rfl (by decide+kernel)
theorem QpL:Qx "_law_cell" Qdc ["_law_script","_law_k"]:=λ_ _ _ _ _ _=>lc λ_=>lc λ_=>l0 rfl
def Qji:=(Cp Qdc QeE).getD QE
theorem QpO:Cp Qdc QeE=some Qji:=some_of (by decide+kernel)
abbrev Qam:=Dn Qdc Qji
abbrev QgS:=Gc "_law_cell" 2 Qam QeE
abbrev Qcr:=top 42
theorem Qna:Sc Qcr ["_law_found"]:=scM rfl rfl rfl (by decide+kernel)
theorem Qov:Qx "_law_whole" Qcr ["_law_found"]:=λ_ _ _ _ _ _=>lc λ_=>l0 rfl
def QiF:=(Cp Qcr QgS).getD QE
theorem QnK:Cp Qcr QgS=some QiF:=some_of (by decide+kernel)
abbrev Qax:=Dn Qcr QiF
abbrev QfJ:=Gc "_law_whole" 1 Qax QgS
abbrev QbO:=top 43
theorem QkG:Sc QbO ["_law_found","_law_size"]:=scM rfl rfl rfl (by decide+kernel)
theorem QlN:Qx "_law_numbers" QbO ["_law_found","_law_size"]:=λ_ _ _ _ _ _=>lc λ_=>lc λ_=>l0 rfl
def QgY:=(Cp QbO QfJ).getD QE
theorem Qln:Cp QbO QfJ=some QgY:=some_of (by decide+kernel)
abbrev Qai:=Dn QbO QgY
abbrev QeS:=Gc "_law_numbers" 2 Qai QfJ
abbrev Qbx:=top 44
theorem QjL:Sc Qbx ["_law_found","_law_size"]:=scM rfl rfl rfl (by decide+kernel)
theorem Qlk:Qx "_law_is_table" Qbx ["_law_found","_law_size"]:=λ_ _ _ _ _ _=>lc λ_=>lc λ_=>l0 rfl
def QgE:=(Cp Qbx QeS).getD QE
theorem Qkp:Cp Qbx QeS=some QgE:=some_of (by decide+kernel)
abbrev QaB:=Dn Qbx QgE
abbrev QkQ:=Gc "_law_is_table" 2 QaB QeS
abbrev Q1:=top 45
theorem Qdn:Sc Q1 ["_law_table"]:=scM rfl rfl rfl (by decide+kernel)
theorem QcB:Qx "_law_measure" Q1 ["_law_table"]:=λ_ _ _ _ _ _=>lc λ_=>l0 rfl
abbrev Qgb:Den:=λ_=>none
abbrev Qd0:=Gc "_law_measure" 1 Qgb QkQ
def QfX:=(Cp Q1 Qd0).getD QE
theorem Qj6:Cp Q1 Qd0=some QfX:=some_of (by decide+kernel)
abbrev QcR:=Dn Q1 QfX
abbrev Qd8:=Gc "_law_measure" 1 QcR Qd0
def Qgd:=(Cp Q1 Qd8).getD QE
theorem QjI:Cp Q1 Qd8=some Qgd:=some_of (by decide+kernel)
abbrev QcM:=Dn Q1 Qgd
abbrev Qea:=Gc "_law_measure" 1 QcM Qd8
def QfN:=(Cp Q1 Qea).getD QE
theorem QjV:Cp Q1 Qea=some QfN:=some_of (by decide+kernel)
abbrev QcQ:=Dn Q1 QfN
abbrev Qd5:=Gc "_law_measure" 1 QcQ Qea
def QfY:=(Cp Q1 Qd5).getD QE
theorem Qkh:Cp Q1 Qd5=some QfY:=some_of (by decide+kernel)
abbrev QcW:=Dn Q1 QfY
abbrev Qd1:=Gc "_law_measure" 1 QcW Qd5
abbrev QaZ:=QcW
abbrev QbN:=top 46
theorem Qkx:Sc QbN ["_law_one","_law_other"]:=scM rfl rfl rfl (by decide+kernel)
theorem QlM:Qx "_law_divisor" QbN ["_law_one","_law_other"]:=λ_ _ _ _ _ _=>lc λ_=>lc λ_=>l0 rfl
def Qhp:=(Cp QbN Qd1).getD QE
theorem Qms:Cp QbN Qd1=some Qhp:=some_of (by decide+kernel)
abbrev QbX:=Dn QbN Qhp
abbrev QeR:=Gc "_law_divisor" 2 QbX Qd1
abbrev Qc8:=top 47
theorem QnL:Sc Qc8 ["_law_many","_law_turn","_law_kind"]:=scM rfl rfl rfl (by decide+kernel)
theorem Qpv:Qx "_law_base" Qc8 ["_law_many","_law_turn","_law_kind"]:=λ_ _ _ _ _ _=>lc λ_=>lc λ_=>lc λ_=>l0 rfl
def Qjn:=(Cp Qc8 QeR).getD QE
theorem Qpw:Cp Qc8 QeR=some Qjn:=some_of (by decide+kernel)
abbrev Qda:=Dn Qc8 Qjn
abbrev QgG:=Gc "_law_base" 3 Qda QeR
abbrev Qc3:=top 48
theorem QoS:Sc Qc3 ["_law_many","_law_ways"]:=scM rfl rfl rfl (by decide+kernel)
theorem QpN:Qx "_law_fits" Qc3 ["_law_many","_law_ways"]:=λ_ _ _ _ _ _=>lc λ_=>lc λ_=>l0 rfl
def Qjy:=(Cp Qc3 QgG).getD QE
theorem Qp7:Cp Qc3 QgG=some Qjy:=some_of (by decide+kernel)
abbrev Qa4:=Dn Qc3 Qjy
abbrev QgP:=Gc "_law_fits" 2 Qa4 QgG
abbrev Qc7:=top 49
theorem Qpn:Sc Qc7 ["_law_ways","_law_cells","_law_many","_law_kind"]:=scM rfl rfl rfl (by decide+kernel)
theorem QpQ:Qx "_law_more" Qc7 ["_law_ways","_law_cells","_law_many","_law_kind"]:=λ_ _ _ _ _ _=>lc λ_=>lc λ_=>lc λ_=>lc λ_=>l0 rfl
def Qjo:=(Cp Qc7 QgP).getD QE
theorem Qpy:Cp Qc7 QgP=some Qjo:=some_of (by decide+kernel)
abbrev Qc0:=Dn Qc7 Qjo
abbrev QgL:=Gc "_law_more" 4 Qc0 QgP
abbrev QdQ:=top 50
theorem Qp8:Sc QdQ ["_law_script","_law_most","_law_upto"]:=scM rfl rfl rfl (by decide+kernel)
theorem QqW:Qx "_law_net" QdQ ["_law_script","_law_most","_law_upto"]:=λ_ _ _ _ _ _=>lc λ_=>lc λ_=>lc λ_=>l0 rfl
def Qkv:=(Cp QdQ QgL).getD QE
theorem QqT:Cp QdQ QgL=some Qkv:=some_of (by decide+kernel)
abbrev QdA:=Dn QdQ Qkv
abbrev QhX:=Gc "_law_net" 3 QdA QgL
abbrev Qcu:=top 51
theorem Qm4:Sc Qcu ["_law_net_here"]:=scM rfl rfl rfl (by decide+kernel)
theorem QoH:Qx "_law_tolls" Qcu ["_law_net_here"]:=λ_ _ _ _ _ _=>lc λ_=>l0 rfl
def Qie:=(Cp Qcu QhX).getD QE
theorem QoN:Cp Qcu QhX=some Qie:=some_of (by decide+kernel)
abbrev Qay:=Dn Qcu Qie
abbrev Qgc:=Gc "_law_tolls" 1 Qay QhX
abbrev Qc2:=top 52
theorem Qph:Sc Qc2 ["_law_net_here"]:=scM rfl rfl rfl (by decide+kernel)
theorem QpE:Qx "_law_copy" Qc2 ["_law_net_here"]:=λ_ _ _ _ _ _=>lc λ_=>l0 rfl
def Qjl:=(Cp Qc2 Qgc).getD QE
theorem QpG:Cp Qc2 Qgc=some Qjl:=some_of (by decide+kernel)
abbrev Qde:=Dn Qc2 Qjl
abbrev QgM:=Gc "_law_copy" 1 Qde Qgc
abbrev QbW:=top 53
theorem Qky:Sc QbW ["_law_size","_law_many"]:=scM rfl rfl rfl (by decide+kernel)
theorem Qls:Qx "_law_choices" QbW ["_law_size","_law_many"]:=λ_ _ _ _ _ _=>lc λ_=>lc λ_=>l0 rfl
def Qhh:=(Cp QbW QgM).getD QE
theorem Qmh:Cp QbW QgM=some Qhh:=some_of (by decide+kernel)
abbrev Qbk:=Dn QbW Qhh
abbrev QeB:=Gc "_law_choices" 2 Qbk QgM
abbrev Qcz:=top 54
theorem Qnh:Sc Qcz ["_law_table","_law_many"]:=scM rfl rfl rfl (by decide+kernel)
theorem QnA:Qx "_law_share" Qcz ["_law_table","_law_many"]:=λ_ _ _ _ _ _=>lc λ_=>lc λ_=>l0 rfl
def Qid:=(Cp Qcz QeB).getD QE
theorem Qn0:Cp Qcz QeB=some Qid:=some_of (by decide+kernel)
abbrev Qcq:=Dn Qcz Qid
abbrev QfQ:=Gc "_law_share" 2 Qcq QeB
abbrev QbM:=top 55
theorem Qk3:Sc QbM ["_law_table"]:=scM rfl rfl rfl (by decide+kernel)
theorem QlQ:Qx "_law_lengths" QbM ["_law_table"]:=λ_ _ _ _ _ _=>lc λ_=>l0 rfl
def Qg5:=(Cp QbM QfQ).getD QE
theorem Qlq:Cp QbM QfQ=some Qg5:=some_of (by decide+kernel)
abbrev QbR:=Dn QbM Qg5
abbrev QeV:=Gc "_law_lengths" 1 QbR QfQ
abbrev Qc6:=top 56
theorem Qo1:Sc Qc6 ["_law_net_here"]:=scM rfl rfl rfl (by decide+kernel)
theorem Qqb:Qx "_law_good" Qc6 ["_law_net_here"]:=λ_ _ _ _ _ _=>lc λ_=>l0 rfl
def Qjh:=(Cp Qc6 QeV).getD QE
theorem QpZ:Cp Qc6 QeV=some Qjh:=some_of (by decide+kernel)
abbrev QbK:=Dn Qc6 Qjh
abbrev QgF:=Gc "_law_good" 1 QbK QeV
abbrev Qdi:=top 57
theorem Qow:Sc Qdi ["_law_script"]:=scM rfl rfl rfl (by decide+kernel)
theorem QpC:Qx "_law_line" Qdi ["_law_script"]:=λ_ _ _ _ _ _=>lc λ_=>l0 rfl
def QjA:=(Cp Qdi QgF).getD QE
theorem QpW:Cp Qdi QgF=some QjA:=some_of (by decide+kernel)
abbrev Qdk:=Dn Qdi QjA
abbrev QgT:=Gc "_law_line" 1 Qdk QgF
abbrev Qbe:=top 58
theorem Qjc:Sc Qbe ["_law_net_here","_law_turn"]:=scM rfl rfl rfl (by decide+kernel)
theorem Qj9:Qx "_law_line_good" Qbe ["_law_net_here","_law_turn"]:=λ_ _ _ _ _ _=>lc λ_=>lc λ_=>l0 rfl
def Qf4:=(Cp Qbe QgT).getD QE
theorem Qkj:Cp Qbe QgT=some Qf4:=some_of (by decide+kernel)
abbrev Qbj:=Dn Qbe Qf4
abbrev Qf8:=Gc "_law_line_good" 2 Qbj QgT
abbrev Qja:=top 59
theorem QzN:Sc Qja ["_law_script"]:=scM rfl rfl rfl (by decide+kernel)
theorem QAb:Qx "law" Qja ["_law_script"]:=λ_ _ _ _ _ _=>lc λ_=>l0 rfl
def QvX:=(Cp Qja Qf8).getD QE
theorem QAe:Cp Qja Qf8=some QvX:=some_of (by decide+kernel)
abbrev Qrc:=Dn Qja QvX
theorem QuI:Qch=Qn 2 (HS.QnW):=by kernel_rfl
theorem Quo:Qbi=Qn 1 (HS.Qpa Qch):=by kernel_rfl
theorem Qq7:QbG=Qn 2 (HS.QkL):=by kernel_rfl
theorem Qpq:Qaj=Qn 1 (HS.QiE QbG):=by kernel_rfl
theorem QqP:QbH=Qn 1 (HS.QkC):=by kernel_rfl
theorem QvB:QeP=Qn 2 (HS.Qpb):=by kernel_rfl
theorem QrY:Qej=Qn 2 (HS.QmE QeP):=by kernel_rfl
theorem QrX:QaW=Qn 3 (HS.QmI Qbi Qej):=by kernel_rfl
theorem Qvo:Qd4=Qn 5 (HS.QhS):=by kernel_rfl
theorem Qon:QcC=Qn 4 (HS.Qhc QbH):=by kernel_rfl
theorem Qp2:Qc5=Qn 4 (HS.Qju):=by kernel_rfl
theorem Qr5:Qcg=Qn 5 (HS.Qgx QcC Qc5):=by kernel_rfl
theorem Qtn:Qek=Qn 1 (HS.QmA Qcg):=by kernel_rfl
theorem QkM:Qby=Qn 2 (HS.Qgi Qcg):=by kernel_rfl
theorem Qm8:Qcb=Qn 3 (HS.Qh5 QbG Qby):=by kernel_rfl
theorem Qwk:Qem=Qn 4 (HS.Ql6):=by kernel_rfl
theorem QnD:Qcy=Qn 5 (HS.QfV Qem):=by kernel_rfl
theorem QpI:Q6=Qn 1 (HS.Qjw QbH Qcy):=by kernel_rfl
theorem Qp5:Qa3=Qn 2 (HS.Qje Qd4):=by kernel_rfl
theorem Qwr:Qb9=Qn 4 (HS.QqH):=by kernel_rfl
theorem Qsv:Qeb=Qn 5 (HS.Qgv Qb9):=by kernel_rfl
theorem Ql1:QbU=Qn 10 (HS.QdE Qaj Qeb Qb9 Qbi):=by kernel_rfl
theorem QvJ:QcK=Qn 2 (HS.Qo8):=by kernel_rfl
theorem Qxb:Qfy=Qn 5 (HS.QiY Qa3 QcK):=by kernel_rfl
theorem Qnd:Qb6=Qn 4 (HS.QdY Qch Qfy):=by kernel_rfl
theorem Qt2:Qci=Qn 2 (HS.Qpk):=by kernel_rfl
theorem Qme:QbL=Qn 11 (HS.QdK Qaj Qa3 Qci QcK Qb6 QbU QaW):=by kernel_rfl
theorem Qp1:Qc4=Qn 2 (HS.Qjz):=by kernel_rfl
theorem Qnc:QbA=Qn 9 (HS.Qh3 Qcb QbL Qc4 Qaj Qci QaW Qbi):=by kernel_rfl
theorem Qrr:QbD=Qn 1 (HS.Qkw Q6 Qek):=by kernel_rfl
theorem Qj0:Qbn=Qn 1 (HS.QfS):=by kernel_rfl
theorem Qmp:Qab=Qn 2 (HS.Qhg Q6 QbA Qbn):=by kernel_rfl
theorem QpU:Qam=Qn 3 (HS.Qe4):=by kernel_rfl
theorem Qn4:Qax=Qn 1 (HS.Qiz):=by kernel_rfl
theorem QlZ:Qai=Qn 2 (HS.QfH Qax):=by kernel_rfl
theorem Qk5:QaB=Qn 3 (HS.Qgn Qai):=by kernel_rfl
theorem QjD:QcR=Qn 4 (HS.QcE Qgb):=by kernel_rfl
theorem Qkg:QcM=Qn 4 (HS.QcE QcR):=by kernel_rfl
theorem Qkd:QcQ=Qn 4 (HS.QcE QcM):=by kernel_rfl
theorem QjJ:QcW=Qn 4 (HS.QcE QcQ):=by kernel_rfl
theorem Qlt:QbX=Qn 3 (HS.Qdy):=by kernel_rfl
theorem Qp4:Qda=Qn 7 (HS.Qjm):=by kernel_rfl
theorem Qp6:Qa4=Qn 8 (HS.QgK):=by kernel_rfl
theorem Qqa:Qc0=Qn 9 (HS.QgU Qa4):=by kernel_rfl
theorem QqV:QdA=Qn 10 (HS.QeZ Qam Qda Qc0):=by kernel_rfl
theorem Qn7:Qay=Qn 6 (HS.Qhk):=by kernel_rfl
theorem QpT:Qde=Qn 1 (HS.Qgj):=by kernel_rfl
theorem Qll:Qbk=Qn 5 (HS.Qe7):=by kernel_rfl
theorem Qo2:Qcq=Qn 6 (HS.QcT Qbk QaZ QbX):=by kernel_rfl
theorem Qmb:QbR=Qn 5 (HS.Qfe Qcq):=by kernel_rfl
theorem QpX:QbK=Qn 7 (HS.Qgq Qay Qde Q6 QaB QbD Qax QaZ QbR Qab Qai):=by kernel_rfl
theorem QpJ:Qdk=Qn 8 (HS.Qgl Qam):=by kernel_rfl
theorem Qj5:Qbj=Qn 14 (HS.Qex Qay Q6 QaB QbD Qab Qax Qai):=by kernel_rfl
theorem QAD:Qrc=Qn 6 (HS.QmL QdA Qdk QbK Qbj Qab Q6 Qay):=by kernel_rfl
end
end Law
namespace HS
open PySem PySem.Spec L2
noncomputable def Qt6(mg:Str->Option Value):List Str->Prop
 | []=>True
 | x::r=>mg x=none/\Qt6 mg r
theorem Qn8{mg:Str->Option Value}:∀{l:List Str},Qt6 mg l->∀x∈l,mg x=none
 | [],_,x,h=>by simp at h
 | y::r,h,x,hx=>by
  rcases Zq.mp hx with rfl | hx
  ·exact h.1
  ·exact Qn8 h.2 x hx
noncomputable def QuZ(mg:Str->Option Value):List (Str×Int)->Prop
 | []=>True
 | (x,i)::r=>(∃t,mg x=some (.int i t))/\QuZ mg r
theorem QnU{mg:Str->Option Value}:∀{l:List (Str×Int)},QuZ mg l->∀x i,look x l=some i->∃t,mg x=some (.int i t)
 | [],_,x,i,h=>by cases h
 | (y,j)::r,h,x,i,hx=>by
  unfold look at hx
  split at hx
  ·rename_i e;cases hx;subst e;exact h.1
  ·exact QnU h.2 x i hx
theorem Qzj{mg:Str->Option Value}{cs:List (Str×Int)}(b:Qt6 mg QnB)(c:QuZ mg cs):QhG mg cs:=⟨Qn8 b,QnU c⟩
end HS
namespace Law
open HS
theorem Qv7:Qi6 Qam:=by rw[QpU];exact Qvw
theorem QnP:Qg2 Qax:=by rw[Qn4];exact Qvz
theorem Qrl:Qia Qai:=by rw[QlZ];exact Qw6 QnP
theorem QyV:Qjb QaB:=by rw[Qk5];exact QvE Qrl
theorem QAf:QoC Qda:=by rw[Qp4];exact QwN
theorem QAJ:Qo4 Qa4:=by rw[Qp6];exact Qwt
theorem QAh:QoL Qc0:=by rw[Qqa];exact QxV QAJ
theorem QBJ:Qml QdA:=by rw[QqV];exact QvF Qv7 QAf QAh
theorem Qoe:TabsOk Qay:=by rw[Qn7];exact QwJ
theorem QAA:Qly Qde:=by rw[QpT];exact QuJ
theorem QAl:Qod Qcy:=by rw[QnD,Qwk];exact Qxt
theorem QzA:Qns QbH:=by rw[QqP];exact Qx9
theorem Qhf:Qj1 Q6:=by rw[QpI];exact Qr0 QzA QAl
theorem QqG:QhJ Qch:=by rw[QuI];exact Qr2
theorem Ql3:QfT Qbi:=by rw[Quo];exact Qsf QqG
theorem QwK:Qkn QeP:=by rw[QvB];exact Qsi
theorem QxN:QjO Qej:=by rw[QrY];exact Qsz QwK
theorem Qpo:Qgt QaW:=by rw[QrX];exact Qrs Ql3 QxN
theorem Qxo:QjP Qd4:=by rw[Qvo];exact Qsu
theorem Qv5:Qla QbG:=by rw[Qq7];exact Qwv
theorem Qnw:Qg9 Qaj:=by rw[Qpq];exact Quc Qv5
theorem QBw:QjY QcC:=by rw[Qon];exact Qtt QzA
theorem QBr:Qmr Qc5:=by rw[Qp2];exact Qvm
theorem QyE:Qfr Qcg:=by rw[Qr5];exact QpK QBw QBr
theorem QBa:QgO Qby:=by rw[QkM];exact Qps QyE
theorem hTB:Qmg Qcb:=by rw[Qm8];exact Qt7 Qv5 QBa
theorem Qti:QiX Qa3:=by rw[Qp5];exact QvG Qxo
theorem QsZ:Qi7 Qb9:=by rw[Qwr];exact QvM
theorem QzD:Qlu Qeb:=by rw[Qsv];exact Qu0 QsZ
theorem QyR:QlJ QbU:=by rw[Ql1];exact Quf Qnw QzD QsZ Ql3
theorem Qqo:QhN QcK:=by rw[QvJ];exact Qto
theorem Qyl:Qlw Qfy:=by rw[Qxb];exact Qvu Qti Qqo
theorem Qz6:Qom Qb6:=by rw[Qnd];exact Qxh QqG Qyl
theorem Qqp:QhE Qci:=by rw[Qt2];exact QsG
theorem QzH:Qlp QbL:=by rw[Qme];exact Qus Qnw Qti Qqp Qqo Qz6 QyR Qpo
theorem QyJ:QlC Qc4:=by rw[Qp1];exact Qvr
theorem Qoy:QfC QbA:=by rw[Qnc];exact Quw hTB QzH QyJ Qnw Qqp Qpo Ql3
theorem QBp:QrE Qbn:=by rw[Qj0];exact Qzp
theorem Qri:Qih QbA Qab:=by rw[Qmp];exact Qxc (Qhm Qhf) QBp
theorem QzY:Qiu Qek:=by rw[Qtn];exact Qrn QyE
theorem QyU:Qnn QbD:=by rw[Qrr];exact Qzr (Qhm Qhf) QzY
theorem hDiv:Ql8 QbX:=by rw[Qlt];exact QvN
theorem hM1:QdG 1 QcR:=by rw[QjD];exact Qfq Qw7
theorem hM2:QdG 2 QcM:=by rw[Qkg];exact Qfq hM1
theorem hM3:QdG 3 QcQ:=by rw[Qkd];exact Qfq hM2
theorem hM4:QdG 4 QcW:=by rw[QjJ];exact Qfq hM3
theorem QBy:QgV Qbk:=by rw[Qll];exact Qoz
theorem QBn:Qim Qcq:=by rw[Qo2];exact Qq1 QBy hM4 hDiv
theorem QBu:QjW QbR:=by rw[Qmb];exact Qsk QBn
theorem Qz1:QjX QbK:=by rw[QpX];exact Qsy Qoy Qoe QAA (Qhm Qhf) QyV QyU QnP hM4 QBu Qri Qrl
theorem Qz5:Qkb Qdk:=by rw[QpJ];exact QsF Qv7
theorem Qy3:Qiq Qbj:=by rw[Qj5];exact QqR Qoy Qoe (Qhm Qhf) QyV QyU Qri QnP Qrl
theorem Qyb(ns:List Int)(h:ns.length<=63)(hb:∀k:Nat,PySem.Builtin.Int.intBits (ns.getD k 0)<=2^20):∃fr,Qrc [.lst (ns.map .int)]=some (.bl true,fr):=by
 rw[QAD]
 exact⟨true,QzQ Qoy QBJ Qz5 Qz1 Qy3 Qri (Qhm Qhf) Qoe ns h hb⟩
end Law
namespace PySem.W.Fast
def tw13109574687592663119:=0
def tw6105807695679981819:=0
def tw13651793789890363658:=0
def tw3519996294523838349:=0
def tw13602989647857251684:=0
def tw17697686877419856196:=0
def tw3524493615165056165:=0
def tw14420259243341775263:=0
def tw14378608404466205906:=0
def tw12913118232571315156:=0
def tw3687219876596635867:=0
def tw4518351463029637605:=0
def tw17734217747888840298:=0
def tw5946039736519629998:=0
def tw7109218119727658588:=0
def tw10428041863736039001:=0
def tw13651489574785089853:=0
def tw5320806297206399979:=0
def tw5673978215641187668:=0
def tw14315466485759698277:=0
def tw4900338671359718881:=0
def tw2937320779952387267:=0
def tw1727314967297679022:=0
def tw3977655317522964954:=0
def tw2050616801938013663:=0
def tw14402877529342967562:=0
def tw12455079681194644608:=0
def tw13063380491682985941:=0
def tw11785374902304611909:=0
def tw12481143057196126146:=0
def tw5727529597672710183:=0
def tw18146406687538022376:=0
def tw6685910920585957297:=0
def tw5296262977757213059:=0
def tw4699381086802344979:=0
def tw5477856772711036957:=0
def tw15834048263044312463:=0
def tw16015637483471084436:=0
def tw5533738535318415792:=0
def tw11278038641448504319:=0
def tw4260502269802823630:=0
def tw18388774628682974310:=0
def tw12352681425768907418:=0
def tw7219616568679545903:=0
def tw2879378901557090472:=0
def tw3143935656645489209:=0
def tw17923103173506288544:=0
def tw18436752606519928527:=0
def tw8750425480078631950:=0
def tw5788789276330574922:=0
def tw8558079711431726987:=0
def tw77860421998156959:=0
def tw9817603691137427556:=0
def tw6945217398817706226:=0
def tw7931253115798160902:=0
def tw7735225163525482344:=0
def tw15324726678430700730:=0
def tw1911142178963466080:=0
def tw11973659922394198228:=0
def tw6333732627701475831:=0
def tw3902652483856989786:=0
def tw1025541502800332106:=0
def tw1985366226126783266:=0
def tw7497585233509107010:=0
def tw13983500774026992596:=0
def tw18071307253835803859:=0
def tw12896049074150954859:=0
def tw5732150445096807670:=0
def tw7978582762641694717:=0
def tw13509388367288833050:=0
def tw17411591571090601747:=0
def tw14617135031604155423:=0
def tw4195012303170277690:=0
def tw15804143900485715572:=0
def tw9214396641484367322:=0
def tw3771261951739395032:=0
def tw3354923442841795006:=0
def tw11444495999865184287:=0
def tw13391188035125111630:=0
def tw15033776902304301463:=0
def tw5229735310601071906:=0
def tw216694667491530879:=0
def tw5078804188759110981:=0
def tw7257331874915417722:=0
def tw17528563390491870371:=0
def tw11773481177455749996:=0
def tw1876816697247624540:=0
def tw8045137200912170499:=0
def tw7406611445678067411:=0
def tw13376482863425583899:=0
def tw5377649257137267655:=0
def tw10145738472430146819:=0
def tw9880190166408139915:=0
def tw190333941041555939:=0
def tw14723739571121814706:=0
def tw814345379255341950:=0
def tw4406875337152976481:=0
def tw1184379517978419851:=0
def tw15622007307880183628:=0
def tw16582631648565190972:=0
def tw15508424941020570549:=0
def tw9907077179737450550:=0
def tw3961124383387271706:=0
def tw7601672844065215671:=0
def tw9855765174922338288:=0
def tw5931714412793471717:=0
def tw15866844122395287305:=0
def tw9637063924267537805:=0
def tw16360635018072059520:=0
def tw18361334935902117177:=0
def tw10661401107680283268:=0
def tw4927308502652448274:=0
def tw13069186010530457638:=0
def tw16535694996089548665:=0
def tw13406468112600956732:=0
def tw5904698815941882064:=0
def tw23528174618185155:=0
def tw16808872945981723068:=0
def tw13045318656424450603:=0
def tw5548784470285937109:=0
def tw11761490272768826593:=0
def tw18397560530570441278:=0
def tw9965648253500347943:=0
def tw3649969642128980967:=0
def tw7203310421702662968:=0
def tw17612570857143431586:=0
def tw9648863234935130659:=0
def tw6695639389649238161:=0
def tw17329686870190742643:=0
def tw3101673430624330691:=0
def tw12133314643698000468:=0
end PySem.W.Fast
open PySem PySem.W PyProof.Rows HS
set_option maxRecDepth 100000 in
set_option maxHeartbeats 0 in
theorem PySem.Challenge.cw_heapstill_k41_tables_and_lengths_holds : PySem.Challenge.rw_heapstill_k41_tables_and_lengths.Holds := by
 w_on;o_law;k_head;(case hw=>w_witness2)
 k_fill
 refine HS.QsJ (l:=PySem.Challenge.rw_heapstill_k41_tables_and_lengths) (k:=55) (x:= "_law_script") (den:=Law.Qrc) rfl rfl ⟨rfl,by decide,by decide⟩ (λw h Y=>PySem.W.kIn_of Y) Law.Qyb ?F
 case F=>
  intro w mg fa h KX G hmg
  obtain⟨f_column,f_turned,f_unit_row,f_unit_table,f_opposite,f_scalar,f_line_by,f_product,f_common,f_with_pivot,f_taken_off,f_cleared,f_measure,f_cleared_whole,f_turned_back,f_steps,f_toll_table,f_net_table,f_in_common,f_added,f_weighed,f_column_steps,f_within,f_mixed,f_free_column,f_shared,f_right_tables,f_by_number,f_ring_tables,f_how_many,f_middle_entries,f_ring_lengths,f__law_cell,f__law_whole,f__law_numbers,f__law_is_table,f__law_measure,f__law_divisor,f__law_base,f__law_fits,f__law_more,f__law_net,f__law_tolls,f__law_copy,f__law_choices,f__law_share,f__law_lengths,f__law_good,f__law_line,f__law_line_good,f_law⟩:HS.Fact (L2.KOf KX) "column" Law.QeD/\HS.Fact (L2.KOf KX) "turned" Law.QeI/\HS.Fact (L2.KOf KX) "unit_row" Law.Qdz/\HS.Fact (L2.KOf KX) "unit_table" Law.Qcw/\HS.Fact (L2.KOf KX) "opposite" Law.QdB/\HS.Fact (L2.KOf KX) "scalar" Law.QeY/\HS.Fact (L2.KOf KX) "line_by" Law.Qed/\HS.Fact (L2.KOf KX) "product" Law.Qeh/\HS.Fact (L2.KOf KX) "common" Law.QeJ/\HS.Fact (L2.KOf KX) "with_pivot" Law.Qcx/\HS.Fact (L2.KOf KX) "taken_off" Law.Qdd/\HS.Fact (L2.KOf KX) "cleared" Law.Qei/\HS.Fact (L2.KOf KX) "measure" Law.Qee/\HS.Fact (L2.KOf KX) "cleared_whole" Law.Qbz/\HS.Fact (L2.KOf KX) "turned_back" Law.Qcc/\HS.Fact (L2.KOf KX) "steps" Law.QfE/\HS.Fact (L2.KOf KX) "toll_table" Law.Qct/\HS.Fact (L2.KOf KX) "net_table" Law.Qdg/\HS.Fact (L2.KOf KX) "in_common" Law.Qdh/\HS.Fact (L2.KOf KX) "added" Law.QfF/\HS.Fact (L2.KOf KX) "weighed" Law.Qec/\HS.Fact (L2.KOf KX) "column_steps" Law.QbV/\HS.Fact (L2.KOf KX) "within" Law.QeA/\HS.Fact (L2.KOf KX) "mixed" Law.QfG/\HS.Fact (L2.KOf KX) "free_column" Law.Qb4/\HS.Fact (L2.KOf KX) "shared" Law.QeC/\HS.Fact (L2.KOf KX) "right_tables" Law.QbP/\HS.Fact (L2.KOf KX) "by_number" Law.Qdj/\HS.Fact (L2.KOf KX) "ring_tables" Law.Qb8/\HS.Fact (L2.KOf KX) "how_many" Law.QdD/\HS.Fact (L2.KOf KX) "middle_entries" Law.Qbd/\HS.Fact (L2.KOf KX) "ring_lengths" Law.QbT/\HS.Fact (L2.KOf KX) "_law_cell" Law.Qdc/\HS.Fact (L2.KOf KX) "_law_whole" Law.Qcr/\HS.Fact (L2.KOf KX) "_law_numbers" Law.QbO/\HS.Fact (L2.KOf KX) "_law_is_table" Law.Qbx/\HS.Fact (L2.KOf KX) "_law_measure" Law.Q1/\HS.Fact (L2.KOf KX) "_law_divisor" Law.QbN/\HS.Fact (L2.KOf KX) "_law_base" Law.Qc8/\HS.Fact (L2.KOf KX) "_law_fits" Law.Qc3/\HS.Fact (L2.KOf KX) "_law_more" Law.Qc7/\HS.Fact (L2.KOf KX) "_law_net" Law.QdQ/\HS.Fact (L2.KOf KX) "_law_tolls" Law.Qcu/\HS.Fact (L2.KOf KX) "_law_copy" Law.Qc2/\HS.Fact (L2.KOf KX) "_law_choices" Law.QbW/\HS.Fact (L2.KOf KX) "_law_share" Law.Qcz/\HS.Fact (L2.KOf KX) "_law_lengths" Law.QbM/\HS.Fact (L2.KOf KX) "_law_good" Law.Qc6/\HS.Fact (L2.KOf KX) "_law_line" Law.Qdi/\HS.Fact (L2.KOf KX) "_law_line_good" Law.Qbe/\HS.Fact (L2.KOf KX) "law" Law.Qja:=by
   refine⟨?_,?_,?_,?_,?_,?_,?_,?_,?_,?_,?_,?_,?_,?_,?_,?_,?_,?_,?_,?_,?_,?_,?_,?_,?_,?_,?_,?_,?_,?_,?_,?_,?_,?_,?_,?_,?_,?_,?_,?_,?_,?_,?_,?_,?_,?_,?_,?_,?_,?_,?_⟩<;>(dsimp only[L2.KOf];refine' HS.fact_mk ?a ?l ?c ?k;(case a=>k_is);(case l=>k_is);(case c=>k_is);(case k=>k_is))
  have M:HS.QhG mg Law.cst:=by
   obtain⟨n_range,n_enumerate,n_zip,n_len,n_list,n_min,n_max,n_sum,n_abs,n_isinstance,n_int,n_bool,n_tuple,n_str,n_divmod,n_sorted,n_any,n_all⟩:PySem.W.nsIn (L2.KOf KX) mainGlobals "range" =some none/\PySem.W.nsIn (L2.KOf KX) mainGlobals "enumerate" =some none/\PySem.W.nsIn (L2.KOf KX) mainGlobals "zip" =some none/\PySem.W.nsIn (L2.KOf KX) mainGlobals "len" =some none/\PySem.W.nsIn (L2.KOf KX) mainGlobals "list" =some none/\PySem.W.nsIn (L2.KOf KX) mainGlobals "min" =some none/\PySem.W.nsIn (L2.KOf KX) mainGlobals "max" =some none/\PySem.W.nsIn (L2.KOf KX) mainGlobals "sum" =some none/\PySem.W.nsIn (L2.KOf KX) mainGlobals "abs" =some none/\PySem.W.nsIn (L2.KOf KX) mainGlobals "isinstance" =some none/\PySem.W.nsIn (L2.KOf KX) mainGlobals "int" =some none/\PySem.W.nsIn (L2.KOf KX) mainGlobals "bool" =some none/\PySem.W.nsIn (L2.KOf KX) mainGlobals "tuple" =some none/\PySem.W.nsIn (L2.KOf KX) mainGlobals "str" =some none/\PySem.W.nsIn (L2.KOf KX) mainGlobals "divmod" =some none/\PySem.W.nsIn (L2.KOf KX) mainGlobals "sorted" =some none/\PySem.W.nsIn (L2.KOf KX) mainGlobals "any" =some none/\PySem.W.nsIn (L2.KOf KX) mainGlobals "all" =some none:=by refine⟨?_,?_,?_,?_,?_,?_,?_,?_,?_,?_,?_,?_,?_,?_,?_,?_,?_,?_⟩<;>(dsimp only[L2.KOf];k_is)
   exact HS.Qzj ⟨PySem.W.mg_none_of KX G n_range,PySem.W.mg_none_of KX G n_enumerate,PySem.W.mg_none_of KX G n_zip,PySem.W.mg_none_of KX G n_len,PySem.W.mg_none_of KX G n_list,PySem.W.mg_none_of KX G n_min,PySem.W.mg_none_of KX G n_max,PySem.W.mg_none_of KX G n_sum,PySem.W.mg_none_of KX G n_abs,PySem.W.mg_none_of KX G n_isinstance,PySem.W.mg_none_of KX G n_int,PySem.W.mg_none_of KX G n_bool,PySem.W.mg_none_of KX G n_tuple,PySem.W.mg_none_of KX G n_str,PySem.W.mg_none_of KX G n_divmod,PySem.W.mg_none_of KX G n_sorted,PySem.W.mg_none_of KX G n_any,PySem.W.mg_none_of KX G n_all,True.intro⟩ True.intro
  have t0:∀base:Heap,HS.QcS (PySem.Challenge.rw_heapstill_k41_tables_and_lengths).prog w (L2.KOf KX) mg base 0 []:=λ_=>HS.QcS.nil
  have t_column:=λb=>(t0 b).cons (HS.Qy KX G f_column Law.Qsp Law.Qvt M (t0 b) Law.Quz)
  have t_turned:=λb=>(t_column b).cons (HS.Qy KX G f_turned Law.QsC Law.Qvf M (t_column b) Law.Qud)
  have t_unit_row:=λb=>(t_turned b).cons (HS.Qy KX G f_unit_row Law.QpS Law.Qq8 M (t_turned b) Law.Qrb)
  have t_unit_table:=λb=>(t_unit_row b).cons (HS.Qy KX G f_unit_table Law.Qm6 Law.QoU M (t_unit_row b) Law.Qou)
  have t_opposite:=λb=>(t_unit_table b).cons (HS.Qy KX G f_opposite Law.QpB Law.QrP M (t_unit_table b) Law.QrS)
  have t_scalar:=λb=>(t_opposite b).cons (HS.Qy KX G f_scalar Law.Qtq Law.Qum M (t_opposite b) Law.QuV)
  have t_line_by:=λb=>(t_scalar b).cons (HS.Qy KX G f_line_by Law.Qq3 Law.Qtm M (t_scalar b) Law.QsR)
  have t_product:=λb=>(t_line_by b).cons (HS.Qy KX G f_product Law.QrA Law.Qtd M (t_line_by b) Law.Qr9)
  have t_common:=λb=>(t_product b).cons (HS.Qy KX G f_common Law.Qts Law.Qu8 M (t_product b) Law.Qvn)
  have t_with_pivot:=λb=>(t_common b).cons (HS.Qy KX G f_with_pivot Law.Qni Law.Qnx M (t_common b) Law.Qpe)
  have t_taken_off:=λb=>(t_with_pivot b).cons (HS.Qy KX G f_taken_off Law.Qo0 Law.Qp9 M (t_with_pivot b) Law.QpF)
  have t_cleared:=λb=>(t_taken_off b).cons (HS.Qy KX G f_cleared Law.Qrd Law.QsT M (t_taken_off b) Law.Qsr)
  have t_measure:=λb=>(t_cleared b).cons (HS.Qy KX G f_measure Law.QqO Law.QtA M (t_cleared b) Law.Qtj)
  have t_cleared_whole:=λb=>(t_measure b).cons (HS.Qy KX G f_cleared_whole Law.Qkf Law.QkE M (t_measure b) Law.QkK)
  have t_turned_back:=λb=>(t_cleared_whole b).cons (HS.Qy KX G f_turned_back Law.Ql7 Law.Qne M (t_cleared_whole b) Law.Qm9)
  have t_steps:=λb=>(t_turned_back b).cons (HS.Qy KX G f_steps Law.QvC Law.Qxm M (t_turned_back b) Law.Qwh)
  have t_toll_table:=λb=>(t_steps b).cons (HS.Qy KX G f_toll_table Law.Qm7 Law.QoP M (t_steps b) Law.Qol)
  have t_net_table:=λb=>(t_toll_table b).cons (HS.Qy KX G f_net_table Law.Qoo Law.QpY M (t_toll_table b) Law.QpM)
  have t_in_common:=λb=>(t_net_table b).cons (HS.Qy KX G f_in_common Law.QnI Law.Qpx M (t_net_table b) Law.Qpz)
  have t_added:=λb=>(t_in_common b).cons (HS.Qy KX G f_added Law.Qt1 Law.Qx1 M (t_in_common b) Law.QwU)
  have t_weighed:=λb=>(t_added b).cons (HS.Qy KX G f_weighed Law.Qq0 Law.Qr3 M (t_added b) Law.Qsg)
  have t_column_steps:=λb=>(t_weighed b).cons (HS.Qy KX G f_column_steps Law.QkV Law.QlD M (t_weighed b) Law.QlU)
  have t_within:=λb=>(t_column_steps b).cons (HS.Qy KX G f_within Law.Qte Law.QvD M (t_column_steps b) Law.Qt0)
  have t_mixed:=λb=>(t_within b).cons (HS.Qy KX G f_mixed Law.QuM Law.QwA M (t_within b) Law.Qxi)
  have t_free_column:=λb=>(t_mixed b).cons (HS.Qy KX G f_free_column Law.QlG Law.Qnj M (t_mixed b) Law.Qnb)
  have t_shared:=λb=>(t_free_column b).cons (HS.Qy KX G f_shared Law.Qtz Law.QtS M (t_free_column b) Law.QuG)
  have t_right_tables:=λb=>(t_shared b).cons (HS.Qy KX G f_right_tables Law.Qk1 Law.QlH M (t_shared b) Law.QlI)
  have t_by_number:=λb=>(t_right_tables b).cons (HS.Qy KX G f_by_number Law.QoY Law.QpD M (t_right_tables b) Law.QpA)
  have t_ring_tables:=λb=>(t_by_number b).cons (HS.Qy KX G f_ring_tables Law.Qmf Law.Qng M (t_by_number b) Law.Qm5)
  have t_how_many:=λb=>(t_ring_tables b).cons (HS.Qy KX G f_how_many Law.QpH Law.QrN M (t_ring_tables b) Law.QqN)
  have t_middle_entries:=λb=>(t_how_many b).cons (HS.Qy KX G f_middle_entries Law.Qjd Law.Qkl M (t_how_many b) Law.Qj2)
  have t_ring_lengths:=λb=>(t_middle_entries b).cons (HS.Qy KX G f_ring_lengths Law.QkI Law.Qma M (t_middle_entries b) Law.QlY)
  have t__law_cell:=λb=>(t_ring_lengths b).cons (HS.Qy KX G f__law_cell Law.Qog Law.QpL M (t_ring_lengths b) Law.QpO)
  have t__law_whole:=λb=>(t__law_cell b).cons (HS.Qy KX G f__law_whole Law.Qna Law.Qov M (t__law_cell b) Law.QnK)
  have t__law_numbers:=λb=>(t__law_whole b).cons (HS.Qy KX G f__law_numbers Law.QkG Law.QlN M (t__law_whole b) Law.Qln)
  have t__law_is_table:=λb=>(t__law_numbers b).cons (HS.Qy KX G f__law_is_table Law.QjL Law.Qlk M (t__law_numbers b) Law.Qkp)
  have t__law_measure_0:=λb=>(t__law_is_table b).cons (HS.Qrw KX G f__law_measure Law.QcB)
  have t__law_measure_1:=λb=>(t__law_measure_0 b).cons (HS.Qy KX G f__law_measure Law.Qdn Law.QcB M (t__law_measure_0 b) Law.Qj6)
  have t__law_measure_2:=λb=>(t__law_measure_1 b).cons (HS.Qy KX G f__law_measure Law.Qdn Law.QcB M (t__law_measure_1 b) Law.QjI)
  have t__law_measure_3:=λb=>(t__law_measure_2 b).cons (HS.Qy KX G f__law_measure Law.Qdn Law.QcB M (t__law_measure_2 b) Law.QjV)
  have t__law_measure_4:=λb=>(t__law_measure_3 b).cons (HS.Qy KX G f__law_measure Law.Qdn Law.QcB M (t__law_measure_3 b) Law.Qkh)
  have t__law_divisor:=λb=>(t__law_measure_4 b).cons (HS.Qy KX G f__law_divisor Law.Qkx Law.QlM M (t__law_measure_4 b) Law.Qms)
  have t__law_base:=λb=>(t__law_divisor b).cons (HS.Qy KX G f__law_base Law.QnL Law.Qpv M (t__law_divisor b) Law.Qpw)
  have t__law_fits:=λb=>(t__law_base b).cons (HS.Qy KX G f__law_fits Law.QoS Law.QpN M (t__law_base b) Law.Qp7)
  have t__law_more:=λb=>(t__law_fits b).cons (HS.Qy KX G f__law_more Law.Qpn Law.QpQ M (t__law_fits b) Law.Qpy)
  have t__law_net:=λb=>(t__law_more b).cons (HS.Qy KX G f__law_net Law.Qp8 Law.QqW M (t__law_more b) Law.QqT)
  have t__law_tolls:=λb=>(t__law_net b).cons (HS.Qy KX G f__law_tolls Law.Qm4 Law.QoH M (t__law_net b) Law.QoN)
  have t__law_copy:=λb=>(t__law_tolls b).cons (HS.Qy KX G f__law_copy Law.Qph Law.QpE M (t__law_tolls b) Law.QpG)
  have t__law_choices:=λb=>(t__law_copy b).cons (HS.Qy KX G f__law_choices Law.Qky Law.Qls M (t__law_copy b) Law.Qmh)
  have t__law_share:=λb=>(t__law_choices b).cons (HS.Qy KX G f__law_share Law.Qnh Law.QnA M (t__law_choices b) Law.Qn0)
  have t__law_lengths:=λb=>(t__law_share b).cons (HS.Qy KX G f__law_lengths Law.Qk3 Law.QlQ M (t__law_share b) Law.Qlq)
  have t__law_good:=λb=>(t__law_lengths b).cons (HS.Qy KX G f__law_good Law.Qo1 Law.Qqb M (t__law_lengths b) Law.QpZ)
  have t__law_line:=λb=>(t__law_good b).cons (HS.Qy KX G f__law_line Law.Qow Law.QpC M (t__law_good b) Law.QpW)
  have t__law_line_good:=λb=>(t__law_line b).cons (HS.Qy KX G f__law_line_good Law.Qjc Law.Qj9 M (t__law_line b) Law.Qkj)
  exact HS.QAs KX G hmg f_law Law.QzN Law.QAb M (λbase=>t__law_line_good base) Law.QAe
