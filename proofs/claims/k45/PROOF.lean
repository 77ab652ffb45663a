import PyProof.Rows.All
import Wide.All
import OpenK.AllK
import Wide.FinOn
import Lean
import PyProof.EqAt
import PyProof.EqKinds
import PyProof.TupleCall
import PyProof.ZipIter
import PyProof.EnumMake
import PyProof.Rows.FactsT2
import PyProof.Rows.EnumRows
import PyProof.P3In
import PyProof.NeData
import KE.KUnpack
import PyProof.Rows.SumAny
import PyProof.Rows.MinMaxN
import PyProof.Rows.ListRangeD
import PyProof.Rows.Range3
import PyProof.Rows.RuleM_int
import PyProof.Rows.SortShell
import KE.KTryOn
import PyProof.ExcBaseAll.ValueError
import PyProof.RulesAs
import PyProof.ExcAttrAll.ValueError
import PyProof.Rows.RegTopCatchBFacts
import KE.RegKTryMore
import KE.RegKIsAll
import PySem.Challenge.RW_heapstill_k45_whole_places_in_rings
set_option Elab.async false
set_option linter.all false
set_option maxRecDepth 100000
def Za:= @Option.bind_some
def Zb:= @PySem.Heap.get?_push_of_some
def Zc:= @List.mem_append_right
def Zd:= @List.getElem?_set_ne
def Ze:= @List.mem_cons_of_mem
def Zf:= @List.getElem?_eq_some_iff
def Zg:= @Option.map_eq_some_iff
def Zh:= @Bool.and_eq_true
def Zi:= @Nat.le_refl
def Zj:= @List.mem_append_left
def Zk:= @List.mem_range
def Zl:= @List.getElem?_map
def Zm:= @List.getElem?_eq_none
def Zn:= @List.getElem?_set_self
def Zo:= @List.mem_cons_self
def Zp:= @List.length_map
def Zq:= @Nat.lt_of_lt_of_le
def Zr:= @List.length_append
def Zs:= @List.mem_cons
def Zt:= @List.size_toArray
def Zu:= @List.length_range
def Zv:= @List.lookup_cons
def Zw:= @PySem.Heap.lt_size
def Zx:= @Nat.le_trans
def Zy:= @List.getElem?_range
def Zz:= @List.mem_singleton
def ZA:= @PySem.Heap.get?_push_size
def ZC:= @List.mem_append
def ZD:= @Int.emod_lt_of_pos
def ZE:= @List.length_cons
def ZF:= @Nat.pow_le_pow_right
def ZG:= @Int.mul_zero
def ZH:= @Int.emod_nonneg
def ZI:= @Int.zero_mul
def ZJ:= @Int.mul_assoc
def ZK:= @Int.mul_left_comm
def ZL:= @List.map_congr_left
def ZM:= @List.map_cons
def ZN:= @PyProof.Rows.callWith_type1
def ZO:= @List.count_eq_zero
def ZP:= @List.mem_of_getElem?
def ZQ:= @Int.one_mul
def ZR:= @List.length_set
def ZS:= @Nat.ne_of_lt
def ZT:= @List.mem_map
def ZU:= @List.getElem?_eq_getElem
def ZV:= @Nat.lt_irrefl
def ZW:= @Int.toNat_natCast
def ZX:= @Nat.zero_le
def ZY:= @Int.eq_of_mul_eq_mul_left
def ZZ:= @List.count_pos_iff
def Zaa:= @List.take_of_length_le
def Zab:= @Option.map_some
def Zac:= @Int.natCast_mul
def Zad:= @List.length_take
def Zae:= @PySem.mem_of_lookup
def Zaf:= @List.replicate_succ
def Zag:= @List.map_map
def Zah:= @Int.mul_one
def Zai:= @List.nodup_iff_count
def Zaj:= @List.getElem?_append_left
def Zak:= @List.drop_eq_getElem_cons
def Zal:= @List.flatten_cons
def Zam:= @List.count_append
def Zan:= @List.nodup_nil
def Zao:= @Int.natAbs_mul
def Zap:= @Nat.lt_of_le_of_lt
def Zaq:= @List.all_eq_true
def Zar:= @Int.dvd_mul_of_dvd_left
def Zas:= @PySem.Heap.size_push
def Zat:= @Int.mul_comm
def Zau:= @List.nodup_cons
def Zav:= @Nat.min_eq_left
def Zaw:= @Int.neg_mul
def Zax:= @List.getElem?_zip_eq_some
def Zay:= @List.take_append_drop
def Zaz:= @Bool.false_ne_true
def ZaA:= @Int.mul_add
def ZaB:= @Int.add_mul
def ZaC:= @Bool.not_eq_true'
def ZaD:= @PySem.F.plainAttrs_list
def ZaE:= @List.ext_getElem?
def ZaF:= @Int.zero_sub
def ZaG:= @Int.dvd_add
def ZaH:= @List.length_drop
def ZaI:= @List.getD_eq_getElem?_getD
def ZaJ:= @Int.sub_add_cancel
def ZaK:= @Int.natAbs_dvd_natAbs
def ZaL:= @List.set_eq_take_append_cons_drop
def ZaM:= @List.mem_filter
def ZaN:= @List.map_append
def ZaO:= @List.count_cons
def ZaP:= @List.append_assoc
def ZaQ:= @Nat.mul_comm
def ZaR:= @List.eraseIdx_cons_succ
def ZaS:= @List.append_nil
def ZaT:= @List.nil_append
def ZaU:= @PySem.W.kia_one
def ZaV:= @List.sum_cons
def ZaW:= @List.map_take
def ZaX:= @List.length_singleton
def ZaY:= @Int.emod_add_mul_ediv
def ZaZ:= @Int.natAbs_add_le
def Zba:= @List.getElem?_append_right
def Zbb:= @Nat.mul_le_mul_right
def Zbc:= @Nat.le_of_lt
def Zbd:= @Int.emod_eq_emod_iff_emod_sub_eq_zero
def Zbe:= @Classical.byContradiction
def Zbf:= @List.filter_eq_self
def Zbg:= @PyProof.noPylong_of_log2
def Zbh:= @Int.natCast_add
def Zbi:= @List.mem_filterMap
def Zbj:= @Int.mul_nonpos_of_nonneg_of_nonpos
def Zbk:= @PyProof.Rows.intBits_le
def Zbl:= @Int.dvd_sub
def Zbm:= @Nat.ne_of_gt
def Zbn:= @Nat.lt_succ_of_lt
def Zbo:= @PyProof.Rows.boot_list
def Zbp:= @List.nodup_append
def Zbq:= @List.drop_zero
def Zbr:= @List.range_succ_eq_map
def Zbs:= @Nat.sub_zero
def Zbt:= @Int.sub_self
def Zbu:= @Int.mul_nonneg
def Zbv:= @Nat.mul_le_mul
def Zbw:= @List.contains_iff_mem
def Zbx:= @List.cons_append
def Zby:= @List.mem_flatten
def Zbz:= @Nat.min_le_right
def ZbA:= @Nat.le_succ
def ZbB:= @Nat.add_le_add_right
def ZbC:= @List.eq_nil_of_length_eq_zero
def ZbD:= @PySem.F.slot_zip_next
def ZbE:= @Int.ediv_nonneg
def ZbF:= @List.filterMap_cons
def ZbG:= @List.take_succ_cons
def ZbH:= @Int.add_zero
def ZbI:= @List.nodup_iff_pairwise_ne
def ZbJ:= @Nat.add_sub_cancel
def ZbK:= @List.getElem?_drop
def ZbL:= @List.getElem?_set
def ZbM:= @Int.emod_eq_of_lt
def ZbN:= @Int.mul_neg
def ZbO:= @Option.isSome_iff_exists
def ZbP:= @PySem.F.slot_list_append
def ZbQ:= @PySem.F.type_list_append
def ZbR:= @List.map_drop
def ZbS:= @List.getElem?_replicate
def ZbT:= @Nat.lt_succ_self
def ZbU:= @List.not_mem_nil
def ZbV:= @PySem.Heap.IsList.push
def ZbW:= @List.foldlM_cons
def ZbX:= @PyProof.Rows.boot_tuple
def ZbY:= @List.getElem_mem
def ZbZ:= @List.take_length
def Zca:= @Classical.axiomOfChoice
def Zcb:= @Nat.le_mul_of_pos_right
def Zcc:= @PySem.W.cellsFrom_some
def Zcd:= @Nat.lt_trans
def Zce:= @List.append_eq_nil_iff
def Zcf:= @List.drop_of_length_le
def Zcg:= @Nat.pow_succ
def Zch:= @Int.fmod_nonneg_of_pos
def Zci:= @List.of_mem_zip
def Zcj:= @List.forIn_cons
def Zck:= @Bool.or_eq_true
def Zcl:= @List.range_succ
def Zcm:= @Nat.log2_lt
def Zcn:= @Int.le_refl
def Zco:= @Int.neg_neg
def Zcp:= @Int.mul_sub
def Zcq:= @PySem.W.mg_of
def Zcr:= @Bool.and_true
namespace L2
open PySem PySem.Spec PyProof.Rows
noncomputable abbrev Key:=Sum Int Str
noncomputable def Qvg:Key->Value->Bool
 | .inl k,v=>Value.isInt k v
 | .inr x,v=>Value.isStrOf x v
noncomputable def QAb(w:World):Key->Int
 | .inl k=>hashInt k
 | .inr x=>hashStr w x
theorem Qa4:∀{k:Key}{v:Value},Qvg k v=true->(∃i t,k=Sum.inl i/\v=Value.int i t)∨(∃x t,k=Sum.inr x/\v=Value.str x t)
 | .inl i,v,h=>by
  obtain⟨t,e⟩:=Value.isInt_shape (k:=i) (v:=v) h
  exact .inl ⟨i,t,rfl,e⟩
 | .inr x,v,h=>by
  obtain⟨t,e⟩:=Value.isStrOf_shape (x:=x) (v:=v) h
  exact .inr ⟨x,t,rfl,e⟩
theorem Qyb(a b:Int):decide ((Sum.inl a:Key)=Sum.inl b)=(a == b):=by
 by_cases e:a=b
 ·subst e;simp
 ·have h:¬(Sum.inl a:Key)=Sum.inl b:=λq=>e (Sum.inl.inj q)
  rw[decide_eq_false h]
  exact(beq_eq_false_iff_ne.mpr e).symm
theorem Qxv(a b:Str):decide ((Sum.inr a:Key)=Sum.inr b)=decide (a=b):=by
 by_cases e:a=b
 ·subst e;simp
 ·have h:¬(Sum.inr a:Key)=Sum.inr b:=λq=>e (Sum.inr.inj q)
  rw[decide_eq_false h,decide_eq_false e]
theorem Qx6(a:Int)(b:Str):decide ((Sum.inl a:Key)=Sum.inr b)=false:=decide_eq_false (λq=>nomatch q)
theorem Qx7(a:Str)(b:Int):decide ((Sum.inr a:Key)=Sum.inl b)=false:=decide_eq_false (λq=>nomatch q)
noncomputable def Qlm(prog:Program)(w:World):PySem.KeyKind prog w Key where
 is:=Qvg
 hash:=QAb w
 inj:=λv a b ha hb=>by
  rcases Qa4 ha with⟨i,t,rfl,rfl⟩ | ⟨x,t,rfl,rfl⟩
  ·rcases Qa4 hb with⟨j,u,rfl,e⟩ | ⟨y,u,rfl,e⟩
   ·injection e with e1 _;rw[e1]
   ·exact nomatch e
  ·rcases Qa4 hb with⟨j,u,rfl,e⟩ | ⟨y,u,rfl,e⟩
   ·exact nomatch e
   ·injection e with e1 _;rw[e1]
 byValue:=λk v h=>by
  rcases Qa4 h with⟨i,t,rfl,rfl⟩ | ⟨x,t,rfl,rfl⟩<;>rfl
 pyHash:=λhv h=>by
  rcases Qa4 hv with⟨i,t,rfl,rfl⟩ | ⟨x,t,rfl,rfl⟩
  ·exact wpAny_pyHash_int h
  ·exact wpAny_pyHash_str h
 eqBool:=λhu hv h=>by
  rcases Qa4 hu with⟨i,t,rfl,rfl⟩ | ⟨x,t,rfl,rfl⟩
  ·rcases Qa4 hv with⟨j,u,rfl,rfl⟩ | ⟨y,u,rfl,rfl⟩
   ·rw[Qyb]at h;exact wpAny_eqBool_int h
   ·rw[Qx6]at h;exact SeqAt.EqAt.int_str i t y u _ _ _ _ h
  ·rcases Qa4 hv with⟨j,u,rfl,rfl⟩ | ⟨y,u,rfl,rfl⟩
   ·rw[Qx7]at h;exact SeqAt.EqAt.str_int x t j u _ _ _ _ h
   ·rw[Qxv]at h;exact wpAny_eqBool_str h
 «strs» :=λk x t v h=>by
  rcases Qa4 h with⟨i,u,rfl,e⟩ | ⟨y,u,rfl,e⟩
  ·exact nomatch e
  ·injection e with e1 _
   subst e1
   cases v<;>rfl
end L2
namespace L2
open PySem PySem.Spec PyProof.Rows
inductive V where
 | non | bl (b:Bool) | int (i:Int) | str (x:Str) | byt (b:Array UInt8) | flt (b:UInt64) | ref (a:Addr) | ty (n:String)
 deriving DecidableEq
noncomputable def RelV:V->Value->Prop
 | .non,u=>u=Value.none
 | .bl b,u=>u=Value.bool b
 | .int i,u=>∃t,u=Value.int i t
 | .str x,u=>∃t,u=Value.str x t
 | .byt b,u=>∃t,u=Value.bytes b t
 | .flt b,u=>∃t,u=Value.float b t
 | .ref a,u=>u=Value.ref a
 | .ty n,u=>u=Value.type n
noncomputable abbrev QC:List V->List Value->Prop:=Paired RelV
theorem QC.length{xs:List V}{us:List Value}(r:QC xs us):xs.length=us.length:=Paired.length r
theorem QC.get:∀{xs:List V}{us:List Value}{i:Nat}{x:V},QC xs us->xs[i]? =some x->∃u,us[i]? =some u/\RelV x u
 | _,_,_,_,.nil,e=>by simp at e
 | _,_,0,_,.cons r _,e=>by simp at e;subst e;exact⟨_,rfl,r⟩
 | _,_,i+1,x,.cons _ t,e=>by
  obtain⟨u,h1,h2⟩:=QC.get (i:=i) (x:=x) t (by simpa using e)
  exact⟨u,by simpa using h1,h2⟩
theorem QC.set{x:V}{u:Value}(r:RelV x u):∀{xs:List V}{us:List Value}(i:Nat),QC xs us->QC (xs.set i x) (us.set i u)
 | _,_,_,.nil=> .nil
 | _,_,0,.cons _ t=> .cons r t
 | _,_,i+1,.cons q t=> .cons q (QC.set r i t)
theorem QC.append:∀{xs ys:List V}{us ws:List Value},QC xs us->QC ys ws->QC (xs++ys) (us++ws)
 | _,_,_,_,.nil,s=>s
 | _,_,_,_,.cons r t,s=> .cons r (QC.append t s)
theorem QC.take:∀{xs:List V}{us:List Value}(n:Nat),QC xs us->QC (xs.take n) (us.take n)
 | _,_,0,_=> .nil
 | _,_,_+1,.nil=> .nil
 | _,_,n+1,.cons r t=> .cons r (QC.take n t)
theorem QC.drop:∀{xs:List V}{us:List Value}(n:Nat),QC xs us->QC (xs.drop n) (us.drop n)
 | _,_,0,r=>r
 | _,_,_+1,.nil=> .nil
 | _,_,n+1,.cons _ t=>QC.drop n t
noncomputable def Qx9:Option V->Option Value->Prop
 | some v,some u=>RelV v u
 | none,none=>True
 | _,_=>False
noncomputable def KV{κ:Type}:List (κ×V)->List (κ×Value)->Prop:=Paired λ(p:κ×V) (q:κ×Value)=>p.1=q.1/\RelV p.2 q.2
noncomputable def kV:Key->V
 | .inl i=> .int i
 | .inr x=> .str x
inductive HO where
 | lst (xs:List V)
 | tup (xs:List V)
 | dK (kvs:List (Key×V)) | dT (kvs:List (List Key×V))
 | set (S:Int->Bool) (n:Nat)
 | ins (C dx:Addr) (fs:List (Str×V))
 | own (x:Addr)
 | xd (fs:List (Str×V))
 | met (f x:Addr)
 | rng (lo hi:Int)
 | frz (o:Obj) (u:HO)
 | tbl (ps:Array Value)
 | ext (φ:Heap->Prop)
noncomputable abbrev Hp:=Addr->Option HO
noncomputable def upd(H:Hp)(a:Addr)(o:HO):Hp:=λb=>if b=a then some o else H b
theorem Qaj{H:Hp}{a:Addr}{o:HO}:upd H a o a=some o:=by unfold upd;rw[if_pos rfl]
theorem QS{H:Hp}{a b:Addr}{o:HO}(h:b≠a):upd H a o b=H b:=by unfold upd;rw[if_neg h]
theorem QmW{H:Hp}{a b:Addr}{o u:HO}(h:H a=some o)(h':H b=some u)(d:o≠u):a≠b:=by
 intro e;subst e;rw[h]at h';exact d (Option.some.inj h')
theorem Qb5{H:Hp}{a b:Addr}{o:HO}(h:H a=some o)(h':H b=none):a≠b:=by
 intro e;subst e;rw[h]at h';cases h'
section
variable (P:Program) (w:World)
noncomputable def QcG(H:Hp)(h:Heap)(a:Addr):HO->Prop
 | .lst xs=>xs.length<=sizeLine/\∃(its:List Value) (n:Nat),QC xs its/\h.get? a=some {cls:= .type "list",data:= .seq its.toArray n}
 | .tup xs=>xs.length<=sizeLine/\∃its:List Value,QC xs its/\IsTup h a its.toArray
 | .dK kvs=>kvs.length<=sizeLine/\(a == sysModules)=false/\∃vs,KV kvs vs/\h.DictOf (Qlm P w) a vs
 | .dT kvs=>kvs.length<=sizeLine/\(a == sysModules)=false/\∃xs:List (List Key×Addr×Value),
   Paired (λ(p:List Key×V) (q:List Key×Addr×Value)=>p.1=q.1/\H q.2.1=some (.tup (p.1.map kV))/\RelV p.2 q.2.2) kvs xs∧
   ∃o es ep,h.get? a=some o/\o.ExactDict/\o.data= .dict es ep/\es.toList=xs.map (entryOfKey (tupleKind (Qlm P w)))/\(xs.map (·.1)).Nodup
 | .set S n=>h.SetOf (intKind P w) a S n
 | .ins C dx fs=>H dx=some (.own a)/\fs.length<=1000/\dx≠a/\h.get? a=some (PySem.W.instObj C dx)∧
   ∃mA,h.Ns1 dx mA/\(∀f,Qx9 (fs.lookup f) (mA f))/\PySem.Within mA (fs.map (·.1))
 | .own _=>∃o,h.get? a=some o
 | .xd fs=>∃mA,h.Ns1 a mA/\∀f,Qx9 (fs.lookup f) (mA f)
 | .rng lo hi=>∃t u v,h.get? a=some {cls:= .type "range",data:= .fields #[.int lo t,.int hi u,.int 1 v]}
 | .frz o u=>h.get? a=some o/\QcG H h a u
 | .tbl ps=>h.get? a=some {cls:= .none,data:= .fields ps}
 | .met f x=>h.get? a=some (PySem.W.methodObj (.ref f) (.ref x))
 | .ext φ=>φ h/\(∃o,h.get? a=some o)/\∀h1 h2:Heap,φ h1->(∀o,h1.get? a=some o->h2.get? a=some o)->φ h2
def HOk(H:Hp)(h:Heap):Prop:=∀a o,H a=some o->QcG P w H h a o
end
section
variable {P:Program}{w:World}{H H':Hp}{h h':Heap}{a:Addr}{o:HO}
theorem QcG.lt(x:QcG P w H h a o):a<h.objs.size:=by
 cases o with
 | lst xs=>obtain⟨_,_,_,_,e⟩:=x;exact Zw e
 | tup xs=>obtain⟨_,_,_,p⟩:=x;exact p.lt
 | dK kvs=>obtain⟨_,_,_,_,o,_,_,e,_⟩:=x;exact Zw e
 | dT kvs=>obtain⟨_,_,_,_,o,_,_,e,_⟩:=x;exact Zw e
 | set S n=>obtain⟨o,_,_,_,e,_⟩:=x;exact Zw e
 | ins C dx fs=>obtain⟨_,_,_,e,_⟩:=x;exact Zw e
 | own y=>obtain⟨_,e⟩:=x;exact Zw e
 | xd fs=>obtain⟨_,⟨_,_,_,e,_⟩,_⟩:=x;exact Zw e
 | rng lo hi=>obtain⟨_,_,_,e⟩:=x;exact Zw e
 | frz ob u=>obtain⟨e,_⟩:=x;exact Zw e
 | tbl ps=>exact Zw (show h.get? a=some _ from x)
 | met f y=>exact Zw (show h.get? a=some _ from x)
 | ext φ=>obtain⟨_,⟨_,e⟩,_⟩:=x;exact Zw e
theorem Paired.QyN{α β:Type}{F G:α->β->Prop}:∀{l₁:List α}{l₂:List β},Paired F l₁ l₂->(∀a b,F a b->G a b)->Paired G l₁ l₂
 | _,_,.nil,_=> .nil
 | _,_,.cons r t,f=> .cons (f _ _ r) (Paired.QyN t f)
theorem QcG.QjH(x:QcG P w H h a o)(k:∀b u,(b=a∨H b=some (.own a))->h.get? b=some u->h'.get? b=some u)
  (ho:∀b,H b=some (.own a)->H' b=some (.own a)) (ht:∀b xs,H b=some (.tup xs)->H' b=some (.tup xs)):QcG P w H' h' a o:=by
 induction o with
 | lst xs=>obtain⟨z,its,n,r,e⟩:=x;exact⟨z,its,n,r,k _ _ (.inl rfl) e⟩
 | tup xs=>obtain⟨z,its,r,ob,e,c⟩:=x;exact⟨z,its,r,ob,k _ _ (.inl rfl) e,c⟩
 | dK kvs=>obtain⟨z,y,vs,r,ob,es,ep,e,c⟩:=x;exact⟨z,y,vs,r,ob,es,ep,k _ _ (.inl rfl) e,c⟩
 | dT kvs=>
  obtain⟨z,y,xs,r,ob,es,ep,e,c⟩:=x
  exact⟨z,y,xs,Paired.QyN r λp q z=>⟨z.1,ht _ _ z.2.1,z.2.2⟩,ob,es,ep,k _ _ (.inl rfl) e,c⟩
 | set S n=>obtain⟨ob,es,ep,t,e,c⟩:=x;exact⟨ob,es,ep,t,k _ _ (.inl rfl) e,c⟩
 | ins C dx fs=>
  obtain⟨d,z,ne,e,mA,⟨od,es,ep,e2,c⟩,r⟩:=x
  exact⟨ho _ d,z,ne,k _ _ (.inl rfl) e,mA,⟨od,es,ep,k _ _ (.inr d) e2,c⟩,r⟩
 | own y=>obtain⟨ob,e⟩:=x;exact⟨ob,k _ _ (.inl rfl) e⟩
 | xd fs=>obtain⟨mA,⟨od,es,ep,e,c⟩,r⟩:=x;exact⟨mA,⟨od,es,ep,k _ _ (.inl rfl) e,c⟩,r⟩
 | rng lo hi=>obtain⟨t,u,v,e⟩:=x;exact⟨t,u,v,k _ _ (.inl rfl) e⟩
 | frz ob u ih=>obtain⟨e,q⟩:=x;exact⟨k _ _ (.inl rfl) e,ih q⟩
 | tbl ps=>
  have e:h.get? a=some {cls:= .none,data:= .fields ps}:=x
  show h'.get? a=some {cls:= .none,data:= .fields ps}
  exact k a _ (.inl rfl) e
 | met f y=>
  have e:h.get? a=some (PySem.W.methodObj (.ref f) (.ref y)):=x
  show h'.get? a=some (PySem.W.methodObj (.ref f) (.ref y))
  exact k a _ (.inl rfl) e
 | ext φ=>obtain⟨p,⟨o,e⟩,st⟩:=x;exact⟨st _ _ p λo q=>k _ _ (.inl rfl) q,⟨o,k _ _ (.inl rfl) e⟩,st⟩
theorem HOk.lt(x:HOk P w H h)(e:H a=some o):a<h.objs.size:=(x a o e).lt
theorem HOk.fresh(x:HOk P w H h)(e:h.objs.size<=a):H a=none:=by
 cases q:H a with
 | none=>rfl
 | some u=>exact absurd (Zq (x.lt q) e) (ZV _)
theorem HOk.kept(x:HOk P w H h)(k:∀b u,h.get? b=some u->h'.get? b=some u):HOk P w H h':=λa o e=>
 (x a o e).QjH (λb u _ q=>k b u q) (λ_ q=>q) λ_ _ q=>q
theorem HOk.laid(x:HOk P w H h)(k:∀b u,h.get? b=some u->h'.get? b=some u)(hp:h.objs.size<=a)(new:QcG P w (upd H a o) h' a o):HOk P w (upd H a o) h':=λb u e=>by
 have hn:=x.fresh hp
 by_cases hb:b=a
 ·subst hb;rw[Qaj]at e;cases e;exact new
 ·rw[QS hb]at e
  exact(x b u e).QjH (λc v _ q=>k c v q) (λc q=>by rw[QS (Qb5 q hn)];exact q) λc xs q=>by rw[QS (Qb5 q hn)];exact q
end
def Rd(H:Hp)(a:Addr)(u:HO):Prop:=H a=some u∨∃o,H a=some (.frz o u)
theorem Rd.ok{P:Program}{w:World}{H:Hp}{h:Heap}{a:Addr}{u:HO}(r:Rd H a u)(x:HOk P w H h):QcG P w H h a u:=by
 rcases r with r | ⟨o,r⟩
 ·exact x a u r
 ·obtain⟨_,q⟩:=x a _ r
  exact q
noncomputable def Mut:Option HO->Prop
 | some (.lst _)=>True
 | some (.dK _)=>True
 | some (.dT _)=>True
 | some (.set _ _)=>True
 | some (.ins _ _ _)=>True
 | some (.ext _)=>True
 | _=>False
section
variable {P:Program}{w:World}{H:Hp}{h h':Heap}{x e:Addr}{o':HO}
theorem HOk.write(ok:HOk P w H h)(mu:Mut (H x))(he:e=x∨H e=some (.own x))(k:∀b u,b≠e->h.get? b=some u->h'.get? b=some u)(heo:∃u,h'.get? e=some u)
  (new:QcG P w (upd H x o') h' x o'):HOk P w (upd H x o') h':=λb u q=>by
 have nown:∀c y,H c=some (.own y)->c≠x:=λc y r z=>by subst z;rw[r]at mu;exact mu
 have ntup:∀c xs,H c=some (.tup xs)->c≠x:=λc xs r z=>by subst z;rw[r]at mu;exact mu
 by_cases hb:b=x
 ·subst hb;rw[Qaj]at q;cases q;exact new
 ·rw[QS hb]at q
  by_cases hbe:b=e
  ·have q':H b=some (.own x):=by
    rcases he with z | z
    ·exact absurd (hbe.trans z) hb
    ·rw[hbe];exact z
   rw[q]at q';cases q'
   obtain⟨v,hv⟩:=heo
   exact⟨v,by rw[hbe];exact hv⟩
  ·refine(ok b u q).QjH (λc v hc r=>k c v ?_ r) (λc r=>by rw[QS (nown c b r)];exact r) λc xs r=>by rw[QS (ntup c xs r)];exact r
   rcases hc with rfl | hc
   ·exact hbe
   ·rintro rfl
    rcases he with z | z
    ·exact nown c b hc z
    ·rw[hc]at z;cases z;exact hb rfl
end
structure Un (fs ex:List Addr) (H H':Hp) (h h':Heap):Prop where
 keep:∀b o,h.get? b=some o->H b=none->b∉fs->b∉ex->h'.get? b=some o
 slot:∀b o,h.get? b=some o->H b=none->b∈fs->b∉ex->∃sl,h'.get? b=some {o with slots:=sl}
 free:∀b o,h.get? b=some o->H b=none->b∉ex->H' b=none
 there:∀b o,h.get? b=some o->b∉ex->∃o',h'.get? b=some o'
 tups:∀b xs,H b=some (.tup xs)->H' b=some (.tup xs)
 frzs:∀b o u,H b=some (.frz o u)->H' b=some (.frz o u)
 tbls:∀b ps,H b=some (.tbl ps)->∃more,H' b=some (.tbl (ps++more))
section
variable {fs fs' ex ex':List Addr}{H H1 H2:Hp}{h h1 h2 h':Heap}{a x e:Addr}{o:HO}
theorem Un.any(u:Un fs ex H H1 h h1){b:Addr}{ob:Obj}(q:h.get? b=some ob)(n:H b=none)(hx:b∉ex):∃sl,h1.get? b=some {ob with slots:=sl}:=by
 by_cases hb:b∈fs
 ·exact u.slot b ob q n hb hx
 ·exact⟨ob.slots,u.keep b ob q n hb hx⟩
theorem Un.kept(k:∀b u,h.get? b=some u->h'.get? b=some u):Un fs ex H H h h':=
 ⟨λb ob q _ _ _=>k b ob q,λb ob q _ _ _=>⟨ob.slots,k b ob q⟩,λ_ _ _ n _=>n,λb ob q _=>⟨ob,k b ob q⟩,λ_ _ q=>q,λ_ _ _ q=>q,λ_ ps q=>⟨#[],by rw[q];simp⟩⟩
theorem Un.refl:Un fs ex H H h h:=Un.kept λ_ _ q=>q
theorem Un.laid(k:∀b u,h.get? b=some u->h'.get? b=some u)(hp:h.objs.size<=a)(hn:H a=none):Un fs ex H (upd H a o) h h' where
 keep:=λb u q _ _ _=>k b u q
 slot:=λb u q _ _ _=>⟨u.slots,k b u q⟩
 free:=λb u q n _=>by rw[QS (ZS (Zq (Zw q) hp))];exact n
 there:=λb u q _=>⟨u,k b u q⟩
 tups:=λb xs q=>by rw[QS (Qb5 q hn)];exact q
 frzs:=λb u xs q=>by rw[QS (Qb5 q hn)];exact q
 tbls:=λb ps q=>⟨#[],by rw[QS (Qb5 q hn),q];simp⟩
theorem Un.write(mu:Mut (H x))(he:e=x∨H e=some (.own x))(k:∀b u,b≠e->h.get? b=some u->h'.get? b=some u)(heo:∃u,h'.get? e=some u):Un fs ex H (upd H x o) h h':=by
 have hx:∀b,H b=none->b≠x:=λb n z=>by subst z;rw[n]at mu;exact mu
 have hb:∀b,H b=none->b≠e:=λb n z=>by
  subst z
  rcases he with r | r
  ·exact hx b n r
  ·rw[n]at r;cases r
 have hm:∀b u,H b=some u->¬Mut (some u)->b≠x:=λb u q nm z=>by subst z;rw[q]at mu;exact nm mu
 refine⟨λb u q n _ _=>k b u (hb b n) q,λb u q n _ _=>⟨u.slots,k b u (hb b n) q⟩,λb u q n _=>by rw[QS (hx b n)];exact n,λb u q _=>?_,
  λb xs q=>by rw[QS (hm b _ q λz=>z)];exact q,λb u xs q=>by rw[QS (hm b _ q λz=>z)];exact q,λb ps q=>⟨#[],by rw[QS (hm b _ q λz=>z),q];simp⟩⟩
 by_cases hbe:b=e
 ·subst hbe;exact heo
 ·exact⟨u,k b u hbe q⟩
end
noncomputable def trk(h:Heap)(H:Hp):List Addr:=(List.range h.objs.size).filter λa=>(H a).isSome
noncomputable def Qg7(h:Heap)(H:Hp):Heap:=PySem.W.hideAll h (trk h H)
theorem Qsm(h:Heap)(H:Hp):(Qg7 h H).objs.size=h.objs.size:=PySem.W.hideAll_size _ _
theorem Quh{h:Heap}{H:Hp}{b:Addr}{o:Obj}(e:h.get? b=some o)(n:H b=none):(Qg7 h H).get? b=some o:=
 PySem.W.hideAll_get _ e λhm=>by
  have q:(H b).isSome=true:=(ZaM.mp hm).2
  rw[n]at q;simp at q
theorem Qwy{h:Heap}{H:Hp}{b:Addr}{o:Obj}(e:(Qg7 h H).get? b=some o):h.get? b=some o/\H b=none:=by
 have e':h.get? b=some o:=PySem.W.of_hideAll (trk h H) e
 refine⟨e',?_⟩
 cases q:H b with
 | none=>rfl
 | some x=>
  have hm:b∈trk h H:=ZaM.mpr ⟨Zk.mpr (Zw e'),by simp[q]⟩
  have z:(Qg7 h H).get? b=none:=PySem.W.hideAll_none (trk h H) hm
  rw[z]at e;cases e
end L2
namespace L2
open PySem PySem.Spec PyProof.Rows
structure Mod (K:PySem.W.Frag) (mg:Str->Option Value) (base:Heap):Prop where
 kin:K.In base
 glob:base.Ns mainGlobals mg
 blt:∃mb,base.Ns builtinsNs mb/\∀x:Str,x≠ "__name__" ->mb x=bootBuiltins x
 nolimit:base.NoLimit
structure Cx where
 prog:Program
 w:World
 K:PySem.W.Frag
 mg:Str->Option Value
 base:Heap
 A:Around
 N:List Str
 s₀:Shared
 H₀:Hp
 env:Env
 outer:List Env
 stack:List Env
 ex:List Addr
 fn:Str->Bool
 calm:Bool
 pn:List (Addr×Obj)
 xe:Value->Shared->Prop
noncomputable def frs(l:List Env):List Addr:=l.filterMap (·.frame)
noncomputable abbrev Cx.fs(X:Cx):List Addr:=frs X.outer
def Vis(sc:Scope)(x:Str):Prop:=sc.names.lookup x=some .local ∨sc.names.lookup x=some .cell∨sc.names.lookup x=some .free
def Loc(sc:Scope)(x:Str):Prop:=sc.names.lookup x=some .local ∨sc.names.lookup x=some .cell
def Look(env:Env)(h:Heap)(m:Str->Option Value)(x:Str)(u:Value):Prop:=
 (env.kindOf x=some .local /\m x=some u)∨((env.kindOf x=some .cell∨env.kindOf x=some .free)/\∃c,env.cells.lookup x=some c/\h.IsCell c (some u))
structure Cx.Ok (X:Cx):Prop where
 mod:Mod X.K X.mg X.base
 kind:X.env.scope.kind= .function
 glob:X.env.globals=mainGlobals
 blt:X.env.builtins=builtinsNs
 above:X.s₀.heap.objs.size<=X.env.locals
 inj:∀x y c,X.env.cells.lookup x=some c->X.env.cells.lookup y=some c->x=y
 has:∀x,(X.env.kindOf x=some .cell∨X.env.kindOf x=some .free)->∃c,X.env.cells.lookup x=some c
 cab:∀x c,X.fn x=true->X.env.cells.lookup x=some c->X.s₀.heap.objs.size<=c
 hd:X.calm=true->X.A.handled=none
 frames:X.A.frames=some X.stack
 stk:X.stack=X.outer∨(X.stack=X.env::X.outer/\X.env.frame=some X.env.locals)
 exf:∀b∈X.ex,b≠X.env.locals/\∀x c,X.env.cells.lookup x=some c->c≠b
 bs:∀b o,X.base.get? b=some o->X.s₀.heap.get? b=some o/\X.H₀ b=none
 bsz:X.base.objs.size<=X.s₀.heap.objs.size
 noex:∀b o,X.base.get? b=some o->b∉X.ex
 exfs:∀b∈X.ex,b∉X.fs
 Qf0:X.s₀.heap.FunFrames X.base X.outer
 frf:∀b∈X.fs,X.H₀ b=none
structure Inv (X:Cx) (pins:List (Addr×Obj)) (σ:List (Option V)) (H:Hp) (s:Shared):Prop where
 ok:X.Ok
 os:s.os=X.s₀.os
 bare:AllBare s.gens
 base:Un X.fs X.ex X.H₀ H X.s₀.heap s.heap
 loc:∃m,s.heap.Ns X.env.locals m/\∀(i:Nat) (x:Str) (v:V),X.N[i]? =some x->σ[i]? =some (some v)->Vis X.env.scope x->∃u,RelV v u/\Look X.env s.heap m x u
 cell:∀x c,X.env.cells.lookup x=some c->∃v,s.heap.IsCell c v
 free:H X.env.locals=none
 freeC:∀x c,X.env.cells.lookup x=some c->H c=none
 pin:∀p∈X.pn++pins,s.heap.get? p.1=some p.2/\H p.1=none/\p.1≠X.env.locals/\p.1∉X.fs/\∀v,p.2.data≠ .cell v
 hok:HOk X.prog X.w H s.heap
 len:σ.length=X.N.length
section
variable {X:Cx}{pins:List (Addr×Obj)}{σ:List (Option V)}{H H':Hp}{s:Shared}{h':Heap}
theorem Cx.Ok.Qz0(ok:X.Ok){b:Addr}{o:Obj}(e:X.base.get? b=some o):b∉X.fs:=λhb=>by
 have:=(ok.Qf0.mem hb).1
 rw[e]at this;cases this
theorem Inv.bs(I:Inv X pins σ H s):∀b o,X.base.get? b=some o->s.heap.get? b=some o/\H b=none:=λb o e=>
 ⟨I.base.keep b o (I.ok.bs b o e).1 (I.ok.bs b o e).2 (I.ok.Qz0 e) (I.ok.noex b o e),I.base.free b o (I.ok.bs b o e).1 (I.ok.bs b o e).2 (I.ok.noex b o e)⟩
theorem Inv.bk(I:Inv X pins σ H s):∀b o,X.base.get? b=some o->s.heap.get? b=some o:=λb o e=>(I.bs b o e).1
theorem Inv.mod(I:Inv X pins σ H s):Mod X.K X.mg X.base:=I.ok.mod
theorem Inv.kIn(I:Inv X pins σ H s):X.K.In s.heap:=I.ok.mod.kin.keeps I.bk
theorem Inv.lt(I:Inv X pins σ H s):X.env.locals<s.heap.objs.size:=let ⟨_,hn,_⟩:=I.loc;hn.lt
theorem Inv.sz(I:Inv X pins σ H s):X.s₀.heap.objs.size<=s.heap.objs.size:=Zx I.ok.above (Zbc I.lt)
theorem Inv.QAn(I:Inv X pins σ H s){a:Addr}(h:s.heap.objs.size<=a):a∉X.fs:=λhb=>by
 obtain⟨_,o,ho,_⟩:=I.ok.Qf0.mem hb
 exact absurd (Zq (Zw ho) (Zx I.sz h)) (ZV _)
theorem Inv.cne(I:Inv X pins σ H s):∀x c,X.env.cells.lookup x=some c->c≠X.env.locals:=λx c e z=>by
 obtain⟨v,o,ho,hd⟩:=I.cell x c e
 obtain⟨m,⟨o',es,ep,ho',hd',_⟩,_⟩:=I.loc
 rw[z,ho']at ho;cases ho;rw[hd']at hd;cases hd
theorem Inv.Qf0(I:Inv X pins σ H s):s.heap.FunFrames X.base X.outer:=by
 have all:∀(l:List Env),(∀b∈frs l,b∈X.fs)->X.s₀.heap.FunFrames X.base l->s.heap.FunFrames X.base l:=by
  intro l
  induction l with
  | nil=>intro _ _;trivial
  | cons env r ih=>
   intro hs hl
   obtain⟨hk,⟨L,o,hf,hn,ho,hd⟩,hr⟩:=hl
   have hL:L∈X.fs:=hs L (by unfold frs;rw[ZbF,hf];exact Zo)
   obtain⟨sl,e⟩:=I.base.slot L o ho (I.ok.frf L hL) hL λz=>I.ok.exfs L z hL
   exact⟨hk,⟨L,_,hf,hn,e,hd⟩,ih (λb hb=>hs b (by unfold frs;rw[ZbF,hf];exact Ze _ hb)) hr⟩
 exact all X.outer (λ_ hb=>hb) I.ok.Qf0
theorem Inv.stack(I:Inv X pins σ H s):s.heap.FunFrames X.base X.stack:=by
 rcases I.ok.stk with e | ⟨e,hf⟩
 ·rw[e];exact I.Qf0
 ·rw[e]
  obtain⟨m,hn,_⟩:=I.loc
  refine .cons (by rw[I.ok.kind];decide) hf hn ?_ I.Qf0
  exact Heap.get?_none_of_le (Zx I.ok.bsz I.ok.above)
theorem Inv.QkH(I:Inv X pins σ H s):∀b∈frs X.stack,b∈X.env.locals::X.fs:=λb hb=>by
 rcases I.ok.stk with e | ⟨e,hf⟩
 ·rw[e]at hb;exact Ze _ hb
 ·rw[e]at hb
  unfold frs at hb
  rw[ZbF,hf]at hb
  exact hb
theorem Inv.QpT(I:Inv X pins σ H s):∀b∈frs X.stack,H b=none:=λb hb=>by
 rcases Zs.mp (I.QkH b hb)with e | hb
 ·rw[e];exact I.free
 ·obtain⟨_,o,ho,_⟩:=I.ok.Qf0.mem hb
  exact I.base.free b o ho (I.ok.frf b hb) λz=>I.ok.exfs b z hb
theorem Inv.step{g':Array GenState}{t':Nat}{d':Drawn}{ch:List Addr}(I:Inv X pins σ H s)
  (hch:∀b∈ch,(b∈X.ex∨X.s₀.heap.objs.size<=b)/\b≠X.env.locals/\(∀x c,X.env.cells.lookup x=some c->c≠b)/\∀p∈X.pn++pins,p.1≠b)
  (keep:∀b o,b≠X.env.locals->b∉X.fs->b∉ch->s.heap.get? b=some o->H b=none->h'.get? b=some o)
  (slot:∀b o,b≠X.env.locals->b∈X.fs->b∉ch->s.heap.get? b=some o->H b=none->∃sl,h'.get? b=some {o with slots:=sl}) (free:∀b o,b∉ch->s.heap.get? b=some o->H b=none->H' b=none)
  (there:∀b o,b∉ch->s.heap.get? b=some o->∃o',h'.get? b=some o')
  (tups:∀b xs,H b=some (.tup xs)->H' b=some (.tup xs)) (frzs:∀b o u,H b=some (.frz o u)->H' b=some (.frz o u)) (tbls:∀b ps,H b=some (.tbl ps)->∃more,H' b=some (.tbl (ps++more)))
  (ns:∀m,s.heap.Ns X.env.locals m->h'.Ns X.env.locals m) (hok:HOk X.prog X.w H' h') (hg:AllBare g'):
  Inv X pins σ H' {s with heap:=h',gens:=g',drawn:=d',toks:=t'}:=by
 have neL:∀b o,X.s₀.heap.get? b=some o->b≠X.env.locals:=λb o e=>ZS (Zq (Zw e) I.ok.above)
 have neC:∀b o,X.s₀.heap.get? b=some o->b∉X.ex->b∉ch:=λb o e hx hb=>by
  rcases(hch b hb).1 with z | z
  ·exact hx z
  ·exact absurd (Zq (Zw e) z) (ZV _)
 have cellK:∀x c,X.env.cells.lookup x=some c->∀v,s.heap.IsCell c v->h'.IsCell c v:=λx c e v ⟨o,ho,hd⟩=>by
  have nch:c∉ch:=λz=>(hch c z).2.2.1 x c e rfl
  by_cases hc:c∈X.fs
  ·obtain⟨sl,q⟩:=slot c o (I.cne x c e) hc nch ho (I.freeC x c e)
   exact⟨_,q,hd⟩
  ·exact⟨o,keep c o (I.cne x c e) hc nch ho (I.freeC x c e),hd⟩
 refine⟨I.ok,I.os,hg,⟨λb o e n hb hx=>?_,λb o e n hb hx=>?_,λb o e n hx=>?_,λb o e hx=>?_,λb xs e=>tups b xs (I.base.tups b xs e),λb o xs e=>frzs b o xs (I.base.frzs b o xs e),λb ps e=>?_⟩,?_,λx c e=>?_,?_,λx c e=>?_,λp hp=>?_,hok,I.len⟩
 ·exact keep b o (neL b o e) hb (neC b o e hx) (I.base.keep b o e n hb hx) (I.base.free b o e n hx)
 ·obtain⟨sl,e1⟩:=I.base.slot b o e n hb hx
  obtain⟨sl',e2⟩:=slot b _ (neL b o e) hb (neC b o e hx) e1 (I.base.free b o e n hx)
  exact⟨sl',e2⟩
 ·obtain⟨o',e1⟩:=I.base.there b o e hx
  exact free b o' (neC b o e hx) e1 (I.base.free b o e n hx)
 ·obtain⟨o',e1⟩:=I.base.there b o e hx
  exact there b o' (neC b o e hx) e1
 ·obtain⟨m1,e1⟩:=I.base.tbls b ps e
  obtain⟨m2,e2⟩:=tbls b _ e1
  exact⟨m1++m2,by rw[e2,Array.append_assoc]⟩
 ·obtain⟨m,hn,hl⟩:=I.loc
  refine⟨m,ns m hn,λi x v e1 e2 e3=>?_⟩
  obtain⟨u,r,l⟩:=hl i x v e1 e2 e3
  refine⟨u,r,?_⟩
  rcases l with l | ⟨k,c,e,z⟩
  ·exact .inl l
  ·exact .inr ⟨k,c,e,cellK x c e _ z⟩
 ·obtain⟨v,z⟩:=I.cell x c e
  exact⟨v,cellK x c e v z⟩
 ·obtain⟨m,⟨o,_,_,ho,_⟩,_⟩:=I.loc
  exact free _ o (λz=>(hch _ z).2.1 rfl) ho I.free
 ·obtain⟨v,o,ho,hd⟩:=I.cell x c e
  exact free c o (λz=>(hch c z).2.2.1 x c e rfl) ho (I.freeC x c e)
 ·obtain⟨e,n,ne,nf,d⟩:=I.pin p hp
  have nch:p.1∉ch:=λz=>(hch p.1 z).2.2.2 p hp rfl
  exact⟨keep p.1 p.2 ne nf nch e n,free p.1 p.2 nch e n,ne,nf,d⟩
theorem Inv.un{t':Nat}(I:Inv X pins σ H s)(u:Un X.fs [] H H' s.heap h')(hok:HOk X.prog X.w H' h'):Inv X pins σ H' {s with heap:=h',toks:=t'}:=by
 obtain⟨m,⟨o,es,ep,ho,r⟩,_⟩:=id I.loc
 obtain⟨sl,hL⟩:=u.any ho I.free (by simp)
 exact I.step (g':=s.gens) (d':=s.drawn) (ch:=[]) (λ_ z=>nomatch z) (λb o _ hb _ e n=>u.keep b o e n hb (by simp)) (λb o _ hb _ e n=>u.slot b o e n hb (by simp)) (λb o _ e n=>u.free b o e n (by simp)) (λb o _ e=>u.there b o e (by simp)) u.tups u.frzs u.tbls (λm' hm=>by
  obtain⟨o',es',ep',ho',r'⟩:=hm
  rw[ho]at ho';cases ho'
  exact⟨_,es',ep',hL,r'⟩) hok I.bare
theorem Inv.call{g':Array GenState}{t':Nat}{d':Drawn}{ch:List Addr}(I:Inv X pins σ H s)(u:Un (frs X.stack) ch H H' s.heap h')(hok:HOk X.prog X.w H' h')(hg:AllBare g')
  (hch:∀b∈ch,(b∈X.ex∨X.s₀.heap.objs.size<=b)/\b≠X.env.locals/\(∀x c,X.env.cells.lookup x=some c->c≠b)/\∀p∈X.pn++pins,p.1≠b):
  Inv X pins σ H' {s with heap:=h',gens:=g',drawn:=d',toks:=t'}:=by
 obtain⟨m,⟨o,es,ep,ho,r⟩,_⟩:=id I.loc
 obtain⟨sl,hL⟩:=u.any ho I.free λz=>(hch _ z).2.1 rfl
 exact I.step (ch:=ch) hch (λb o hL hb hc e n=>u.keep b o e n (λz=>(Zs.mp (I.QkH b z)).elim hL hb) hc) (λb o _ _ hc e n=>u.any e n hc) (λb o hc e n=>u.free b o e n hc) (λb o hc e=>u.there b o e hc) u.tups u.frzs u.tbls (λm' hm=>by
  obtain⟨o',es',ep',ho',r'⟩:=hm
  rw[ho]at ho';cases ho'
  exact⟨_,es',ep',hL,r'⟩) hok hg
theorem Inv.turned{t':Nat}{it:Addr}(I:Inv X pins σ H s)(k:∀b o,b≠it->s.heap.get? b=some o->h'.get? b=some o)(hn:H it=none)(hL:it≠X.env.locals)
  (h1:it∈X.ex∨X.s₀.heap.objs.size<=it) (h2:∀x c,X.env.cells.lookup x=some c->c≠it) (h3:∀p∈X.pn++pins,p.1≠it):Inv X pins σ H {s with heap:=h',toks:=t'}:=by
 have nit:∀b u,H b=some u->b≠it:=λb u e z=>by rw[z,hn]at e;cases e
 refine I.step (g':=s.gens) (d':=s.drawn) (ch:=[it]) (λb hb=>?_) (λb o _ _ hc e _=>k b o (λz=>hc (by simp[z])) e) (λb o _ _ hc e _=>⟨o.slots,k b o (λz=>hc (by simp[z])) e⟩) (λ_ _ _ _ n=>n)
  (λb o hc e=>⟨o,k b o (λz=>hc (by simp[z])) e⟩) (λ_ _ e=>e) (λ_ _ _ e=>e) (λb ps e=>⟨#[],by rw[e];simp⟩) (λm hm=>?_) (λb u e=>?_) I.bare
 ·have e:b=it:=by simpa using hb
  subst e
  exact⟨h1,hL,h2,h3⟩
 ·obtain⟨o,es,ep,ho,r⟩:=hm
  exact⟨o,es,ep,k _ o (Ne.symm hL) ho,r⟩
 ·refine(I.hok b u e).QjH (λc v hc q=>k c v ?_ q) (λ_ q=>q) λ_ _ q=>q
  rcases hc with z | z
  ·rw[z];exact nit b u e
  ·exact nit c _ z
theorem Inv.tok(I:Inv X pins σ H s)(t:Nat):Inv X pins σ H {s with toks:=t}:=I.un (h':=s.heap) (t':=t) Un.refl I.hok
theorem Inv.kept{t':Nat}(I:Inv X pins σ H s)(k:∀b u,s.heap.get? b=some u->h'.get? b=some u):Inv X pins σ H {s with heap:=h',toks:=t'}:=I.un (Un.kept k) (I.hok.kept k)
theorem Inv.laid{a:Addr}{o:HO}{t':Nat}(I:Inv X pins σ H s)(k:∀b u,s.heap.get? b=some u->h'.get? b=some u)(hp:s.heap.objs.size<=a)(new:QcG X.prog X.w (upd H a o) h' a o):
  Inv X pins σ (upd H a o) {s with heap:=h',toks:=t'}:=I.un (Un.laid k hp (I.hok.fresh hp)) (I.hok.laid k hp new)
theorem Inv.write{x e:Addr}{o:HO}{t':Nat}(I:Inv X pins σ H s)(mu:Mut (H x))(he:e=x∨H e=some (.own x))(k:∀b u,b≠e->s.heap.get? b=some u->h'.get? b=some u)(heo:∃u,h'.get? e=some u)
  (new:QcG X.prog X.w (upd H x o) h' x o):Inv X pins σ (upd H x o) {s with heap:=h',toks:=t'}:=I.un (Un.write mu he k heo) (I.hok.write mu he k heo new)
theorem Inv.weak{σ':List (Option V)}(I:Inv X pins σ H s)(hl:σ'.length=σ.length)(w:∀(i:Nat) v,σ'[i]? =some (some v)->σ[i]? =some (some v)):Inv X pins σ' H s:=
 ⟨I.ok,I.os,I.bare,I.base,let ⟨m,hn,hl'⟩:=I.loc;⟨m,hn,λi x v e1 e2 e3=>hl' i x v e1 (w i v e2) e3⟩,I.cell,I.free,I.freeC,I.pin,I.hok,hl.trans I.len⟩
theorem Inv.QpV{pins':List (Addr×Obj)}(I:Inv X pins σ H s)(h:∀p∈pins',s.heap.get? p.1=some p.2/\H p.1=none/\p.1≠X.env.locals/\p.1∉X.fs/\∀v,p.2.data≠ .cell v):Inv X pins' σ H s:=
 ⟨I.ok,I.os,I.bare,I.base,I.loc,I.cell,I.free,I.freeC,λp hp=>(ZC.mp hp).elim (λz=>I.pin p (Zj _ z)) (h p),I.hok,I.len⟩
theorem QnO{N:List Str}(hN:N.Nodup){i j:Nat}{x:Str}(a:N[i]? =some x)(b:N[j]? =some x):i=j:=by
 obtain⟨h1,e1⟩:=Zf.mp a
 obtain⟨h2,e2⟩:=Zf.mp b
 exact(List.getElem_inj hN).mp (e1.trans e2.symm)
theorem Qmg{M:Model}{A:Around}{E:Value->Shared->Prop}{i:Nat}{x:Str}{v:V}{u:Value}{Q:Unit->Shared->Prop}(I:Inv X pins σ H s)(hN:X.N.Nodup)(hi:X.N[i]? =some x)(hx:Loc X.env.scope x)(r:RelV v u)
  (h:∀s',Inv X pins (σ.set i (some v)) H s'->(∃a,Heap.SameBut a s.heap s'.heap/\(a=X.env.locals∨X.env.cells.lookup x=some a))->Q () s') (hf:X.fn x=true∨X.env.scope.names.lookup x=some .local :=by first | exact .inl rfl | exact .inr rfl | assumption):wpAny M A (storeName X.env x u) Q E s:=by
 obtain⟨m,hn,hl⟩:=id I.loc
 have hcls:(X.env.scope.kind == .class || (X.env.scope.kind == .module && X.env.locals != X.env.globals))=false:=by rw[I.ok.kind];rfl
 have hiσ:i<σ.length:=by rw[I.len];exact(Zf.mp hi).1
 have cne:=I.cne
 have tracked:∀{a:Addr}{h':Heap},(∃o,s.heap.get? a=some o/\H a=none)->Heap.SameBut a s.heap h'->HOk X.prog X.w H h':=λ{a h'} ha hs b ob e=>by
  obtain⟨_,_,hfree⟩:=ha
  refine(I.hok b ob e).QjH (λc w' hc q=>(hs.2 c ?_).trans q) (λ_ q=>q) λ_ _ q=>q
  rintro rfl
  rcases hc with rfl | hc
  ·rw[hfree]at e;cases e
  ·rw[hfree]at hc;cases hc
 rcases hx with hk | hk
 ·refine wpAny_storeName_local hk hn (λh' hn' hs=>?_) hcls
  obtain⟨oL,_,_,hoL,_⟩:=id hn
  refine h _ ⟨I.ok,I.os,I.bare,⟨λb o e n hb hx=>?_,λb o e n hb hx=>?_,I.base.free,λb o e hx=>?_,I.base.tups,I.base.frzs,I.base.tbls⟩,⟨_,hn',λj y v' e1 e2 e3=>?_⟩,λy c e=>?_,I.free,I.freeC,λp hp=>?_,tracked ⟨oL,hoL,I.free⟩ hs,by simpa using I.len⟩ ⟨_,hs,.inl rfl⟩
  ·exact(hs.2 b (ZS (Zq (Zw e) I.ok.above))).trans (I.base.keep b o e n hb hx)
  ·obtain⟨sl,e1⟩:=I.base.slot b o e n hb hx
   exact⟨sl,(hs.2 b (ZS (Zq (Zw e) I.ok.above))).trans e1⟩
  ·obtain⟨o',e1⟩:=I.base.there b o e hx
   exact⟨o',(hs.2 b (ZS (Zq (Zw e) I.ok.above))).trans e1⟩
  ·by_cases hj:j=i
   ·subst hj
    rw[hi]at e1;cases e1
    rw[Zn hiσ]at e2
    cases e2
    exact⟨u,r,.inl ⟨hk,by simp⟩⟩
   ·rw[Zd (Ne.symm hj)]at e2
    obtain⟨u',r',q⟩:=hl j y v' e1 e2 e3
    refine⟨u',r',?_⟩
    rcases q with⟨k,e⟩ | ⟨k,c,e,z⟩
    ·refine .inl ⟨k,?_⟩
     have:y≠x:=λe=>hj (QnO hN e1 (e▸hi))
     simp[this,e]
    ·exact .inr ⟨k,c,e,z.sameBut hs (cne y c e)⟩
  ·obtain⟨w',z⟩:=I.cell y c e
   exact⟨w',z.sameBut hs (cne y c e)⟩
  ·obtain⟨e,n,ne,nf,d⟩:=I.pin p hp
   exact⟨(hs.2 p.1 ne).trans e,n,ne,nf,d⟩
 ·have hfn:X.fn x=true:=by
   rcases hf with z | z
   ·exact z
   ·rw[z]at hk;cases hk
  obtain⟨c,hc⟩:=I.ok.has x (.inl hk)
  obtain⟨w',z⟩:=I.cell x c hc
  refine wpAny_storeName_cell I.ok.kind hk hc z (λh' hc' hs=>?_)
  obtain⟨oc,hoc,hocd⟩:=id z
  refine h {s with heap:=h'} ⟨I.ok,I.os,I.bare,⟨λb o e n hb hx=>?_,λb o e n hb hx=>?_,I.base.free,λb o e hx=>?_,I.base.tups,I.base.frzs,I.base.tbls⟩,⟨m,hn.sameBut hs (Ne.symm (cne x c hc)),λj y v' e1 e2 e3=>?_⟩,λy c' e=>?_,I.free,I.freeC,λp hp=>?_,tracked ⟨oc,hoc,I.freeC x c hc⟩ hs,by simpa using I.len⟩ ⟨c,hs,.inr hc⟩
  ·exact(hs.2 b (ZS (Zq (Zw e) (I.ok.cab x c hfn hc)))).trans (I.base.keep b o e n hb hx)
  ·obtain⟨sl,e1⟩:=I.base.slot b o e n hb hx
   exact⟨sl,(hs.2 b (ZS (Zq (Zw e) (I.ok.cab x c hfn hc)))).trans e1⟩
  ·obtain⟨o',e1⟩:=I.base.there b o e hx
   exact⟨o',(hs.2 b (ZS (Zq (Zw e) (I.ok.cab x c hfn hc)))).trans e1⟩
  ·by_cases hj:j=i
   ·subst hj
    rw[hi]at e1;cases e1
    rw[Zn hiσ]at e2
    cases e2
    exact⟨u,r,.inr ⟨.inl hk,c,hc,hc'⟩⟩
   ·rw[Zd (Ne.symm hj)]at e2
    obtain⟨u',r',q⟩:=hl j y v' e1 e2 e3
    refine⟨u',r',?_⟩
    rcases q with q | ⟨k,c',e,z'⟩
    ·exact .inl q
    ·refine .inr ⟨k,c',e,z'.sameBut hs ?_⟩
     rintro rfl
     exact hj (QnO hN e1 (I.ok.inj _ _ _ e hc▸hi))
  ·by_cases hcc:c'=c
   ·subst hcc;exact⟨_,hc'⟩
   ·obtain⟨w2,z2⟩:=I.cell y c' e
    exact⟨w2,z2.sameBut hs hcc⟩
  ·obtain⟨e,n,ne,nf,d⟩:=I.pin p hp
   refine⟨(hs.2 p.1 ?_).trans e,n,ne,nf,d⟩
   intro q
   rw[q,hoc]at e
   have q':oc=p.2:=Option.some.inj e
   exact d w' (by rw[← q'];exact hocd)
theorem QoH{M:Model}{A:Around}{E:Value->Shared->Prop}{i:Nat}{x:Str}{v:V}{u:Value}{Q:Unit->Shared->Prop}(I:Inv X pins σ H s)(hN:X.N.Nodup)(hi:X.N[i]? =some x)(hx:Loc X.env.scope x)(r:RelV v u)
  (h:∀s',Inv X pins (σ.set i (some v)) H s'->Q () s') (hf:X.fn x=true∨X.env.scope.names.lookup x=some .local :=by first | exact .inl rfl | exact .inr rfl | assumption):wpAny M A (storeName X.env x u) Q E s:=
 Qmg I hN hi hx r (λs' I' _=>h s' I') hf
theorem Inv.QzG{s':Shared}{ch:List Addr}(I:Inv X pins σ H s)(ho:s'.os=s.os)(u:Un (frs X.stack) ch H H' s.heap s'.heap)(hok:HOk X.prog X.w H' s'.heap)(hg:AllBare s'.gens)
  (hch:∀b∈ch,(b∈X.ex∨X.s₀.heap.objs.size<=b)/\b≠X.env.locals/\(∀x c,X.env.cells.lookup x=some c->c≠b)/\∀p∈X.pn++pins,p.1≠b):Inv X pins σ H' s':=by
 obtain⟨h',g',d',t',o'⟩:=s'
 have e:o'=s.os:=ho
 subst e
 exact I.call (g':=g') (t':=t') (d':=d') u hok hg hch
end
noncomputable abbrev XK:=Value->Option Addr->Hp->Prop
noncomputable abbrev St:=List (Option V)
noncomputable abbrev VK:=V->Hp->Prop
noncomputable abbrev TE:=St->Hp->VK->Prop
noncomputable abbrev TT:=St->Hp->(Bool->Hp->Prop)->Prop
noncomputable abbrev TA:=St->Hp->(List V->Hp->Prop)->Prop
structure Ends where
 nx:St->Hp->Prop
 rt:VK
 bk:St->Hp->Prop:=λ_ _=>False
 ct:St->Hp->Prop:=λ_ _=>False
noncomputable abbrev TS:=Ends->St->Hp->Prop
def EP(X:Cx)(pins:List (Addr×Obj))(σ:St)(Q:VK)(u:Value)(s':Shared):Prop:=∃v H',Inv X pins σ H' s'/\RelV v u/\Q v H'
def TP(X:Cx)(pins:List (Addr×Obj))(σ:St)(Q:Bool->Hp->Prop)(b:Bool)(s':Shared):Prop:=∃H',Inv X pins σ H' s'/\Q b H'
def AP(X:Cx)(pins:List (Addr×Obj))(σ:St)(Q:List V->Hp->Prop)(us:List Value)(s':Shared):Prop:=∃vs H',Inv X pins σ H' s'/\QC vs us/\Q vs H'
def SP(X:Cx)(pins:List (Addr×Obj))(D:Ends)(f:Flow)(s':Shared):Prop:=
 match f with
 | .next=>∃σ' H',Inv X pins σ' H' s'/\D.nx σ' H'
 | .brk=>∃σ' H',Inv X pins σ' H' s'/\D.bk σ' H'
 | .cont=>∃σ' H',Inv X pins σ' H' s'/\D.ct σ' H'
 | .ret u=>∃v σ' H',Inv X pins σ' H' s'/\RelV v u/\D.rt v H'
def PE(X:Cx)(e:Expr)(t:TE):Prop:=
 ∀(pins:List (Addr×Obj)) (s:Shared) (σ:St) (H:Hp) (Q:VK),Inv X pins σ H s->t σ H Q->wpAny (model X.prog X.w) X.A (eval e X.env) (EP X pins σ Q) X.xe s
def PT(X:Cx)(e:Expr)(t:TT):Prop:=
 ∀(pins:List (Addr×Obj)) (s:Shared) (σ:St) (H:Hp) (Q:Bool->Hp->Prop),Inv X pins σ H s->t σ H Q->wpAny (model X.prog X.w) X.A (isTrue e X.env (eval e X.env)) (TP X pins σ Q) X.xe s
def PW(X:Cx)(e:Expr)(t:TT):Prop:=
 ∀(whole:Sem Value) (pins:List (Addr×Obj)) (s:Shared) (σ:St) (H:Hp) (Q:Bool->Hp->Prop),Inv X pins σ H s->t σ H Q->wpAny (model X.prog X.w) X.A (isTrue e X.env whole) (TP X pins σ Q) X.xe s
theorem PW.pt{X:Cx}{e:Expr}{t:TT}(h:PW X e t):PT X e t:=h _
def PA(X:Cx)(es:List Expr)(t:TA):Prop:=
 ∀(pos:Pos) (pins:List (Addr×Obj)) (s:Shared) (σ:St) (H:Hp) (Q:List V->Hp->Prop),Inv X pins σ H s->t σ H Q->wpAny (model X.prog X.w) X.A (spliced (backTo pos (starEach es X.env))) (AP X pins σ Q) X.xe s
def PS(X:Cx)(st:Stmt)(t:TS):Prop:=
 ∀(pins:List (Addr×Obj)) (s:Shared) (σ:St) (H:Hp) (D:Ends),Inv X pins σ H s->t D σ H->wpAny (model X.prog X.w) X.A (exec st X.env) (SP X pins D) X.xe s
def PSs(X:Cx)(st:List Stmt)(t:TS):Prop:=
 ∀(pins:List (Addr×Obj)) (s:Shared) (σ:St) (H:Hp) (D:Ends),Inv X pins σ H s->t D σ H->wpAny (model X.prog X.w) X.A (execs st X.env) (SP X pins D) X.xe s
theorem thn{α:Type}{t:Sem α}{Q Q':α->Shared->Prop}{M:Model}{A:Around}{E:Value->Shared->Prop}{s:Shared}(h:wpAny M A t Q E s)(hQ:∀a s,Q a s->Q' a s):wpAny M A t Q' E s:=wpAny_mono h hQ λ_ _ x=>x
end L2
namespace L2
open PySem PySem.Spec PyProof.Rows
section
variable {X:Cx}
noncomputable def Qgq(i:Nat):TE:=λσ H Q=>∃v,σ[i]? =some (some v)/\Q v H
noncomputable def tC(v:V):TE:=λ_ H Q=>Q v H
theorem QxN{i:Nat}{x:Str}{pos:Pos}(hN:X.N[i]? =some x)(hv:Vis X.env.scope x)(hd:(x == ("__debug__" :Str))=false:=by decide)(hcd:(x == ("__classdict__" :Str))=false:=by decide):PE X (.Name x pos) (Qgq i):=by
 intro pins s σ H Q I h
 obtain⟨v,e,h⟩:=h
 obtain⟨m,hn,hl⟩:=I.loc
 obtain⟨u,r,l⟩:=hl i x v hN e hv
 have fin:EP X pins σ Q u s:=⟨v,H,I,r,h⟩
 rcases l with⟨hk,hm⟩ | ⟨hk,c,hc,hcell⟩
 ·exact wpAny_Name (wpAny_loadName_local I.ok.kind hk hn hm fin) hd
 ·rcases hk with hk | hk
  ·exact wpAny_Name (wpAny_loadName_cell I.ok.kind hk hc hcell fin) hd
  ·exact wpAny_Name (wpAny_loadName_free I.ok.kind hk hc hcell fin hcd) hd
theorem Qyi{i j pos}:PE X (.Constant (.int i) j pos) (tC (.int i)):=λ_ _ _ H _ I h=>wpAny_Constant_int ⟨.int i,H,I.tok _,⟨_,rfl⟩,h⟩
theorem QzJ{b j pos}:PE X (.Constant (.bool b) j pos) (tC (.bl b)):=λ_ _ _ H _ I h=>Constant_bool ⟨.bl b,H,I,rfl,h⟩
theorem Qw3{j pos}:PE X (.Constant .none j pos) (tC .non):=λ_ _ _ H _ I h=>Constant_none ⟨.non,H,I,rfl,h⟩
theorem Qxs{x j pos}:PE X (.Constant (.str x) j pos) (tC (.str x)):=λ_ _ _ H _ I h=>Calls.Constant_str ⟨.str x,H,I.tok _,⟨_,rfl⟩,h⟩
def Gl(X:Cx)(x:Str):Prop:=X.env.kindOf x=some .globalImplicit
theorem Qk7{E:Value->Shared->Prop}{pins:List (Addr×Obj)}{s:Shared}{σ:St}{H:Hp}{x:Str}{u:Value}{pos:Pos}{Q:Value->Shared->Prop}(I:Inv X pins σ H s)(hg:Gl X x)(hm:X.mg x=some u)(h:Q u s)
  (hd:(x == ("__debug__" :Str))=false:=by decide):wpAny (model X.prog X.w) X.A (eval (.Name x pos) X.env) Q E s:=
 Calls.Name_function_global I.ok.kind hg (Calls.loadGlobal_global (by rw[I.ok.glob];exact I.mod.glob.keeps I.bk) hm h) hd
theorem Qdg{E:Value->Shared->Prop}{pins:List (Addr×Obj)}{s:Shared}{σ:St}{H:Hp}{x:Str}{u:Value}{pos:Pos}{Q:Value->Shared->Prop}(I:Inv X pins σ H s)(hg:Gl X x)(hm:X.mg x=none)(hv:bootBuiltins x=some u)(h:Q u s)
  (hn:x≠ "__name__" :=by decide) (hd:(x == ("__debug__" :Str))=false:=by decide):wpAny (model X.prog X.w) X.A (eval (.Name x pos) X.env) Q E s:=by
 obtain⟨mb,h1,h2⟩:=I.mod.blt
 exact Calls.Name_function_global I.ok.kind hg (Calls.loadGlobal_builtin (by rw[I.ok.glob];exact I.mod.glob.keeps I.bk) hm (by rw[I.ok.blt];exact h1.keeps I.bk) ((h2 x hn).trans hv) h) hd
theorem QwE{x:Str}{v:V}{u:Value}{pos:Pos}(hg:Gl X x)(hm:X.mg x=some u)(r:RelV v u)(hd:(x == ("__debug__" :Str))=false:=by decide):PE X (.Name x pos) (tC v):=
 λ_ _ _ H _ I h=>Qk7 I hg hm ⟨v,H,I,r,h⟩ hd
theorem QgF{x:Str}{v:V}{u:Value}{pos:Pos}(hg:Gl X x)(hm:X.mg x=none)(hv:bootBuiltins x=some u)(r:RelV v u)(hn:x≠ "__name__" :=by decide)(hd:(x == ("__debug__" :Str))=false:=by decide):PE X (.Name x pos) (tC v):=
 λ_ _ _ H _ I h=>Qdg I hg hm hv ⟨v,H,I,r,h⟩ hn hd
variable {a b:Expr}{ta tb:TE}{pos:Pos}
variable {tA tB':TT}{rest:List Expr}
noncomputable def QAj(t u:TT):TT:=λσ H Q=>t σ H λc H1=>if c=true then u σ H1 Q else Q false H1
noncomputable def tOr(t u:TT):TT:=λσ H Q=>t σ H λc H1=>if c=true then Q true H1 else u σ H1 Q
noncomputable def QAp(t:TT):TT:=λσ H Q=>t σ H λc H1=>Q (!c) H1
theorem QwP(ha:PT X a tA):PW X (.BoolOp .And [a] pos) tA:=by
 intro wh pins s σ H Q I h
 refine isTrue_and (thn (ha pins s σ H Q I h) λc s1 e=>?_)
 cases c with
 | true=>exact isTrue_and_nil e
 | false=>exact e
theorem Qyz(ha:PT X a tA):PW X (.BoolOp .Or [a] pos) tA:=by
 intro wh pins s σ H Q I h
 refine isTrue_or (thn (ha pins s σ H Q I h) λc s1 e=>?_)
 cases c with
 | false=>exact isTrue_or_nil e
 | true=>exact e
theorem QxI(ha:PT X a tA)(hb:PW X (.BoolOp .And (b::rest) pos) tB'):PW X (.BoolOp .And (a::b::rest) pos) (QAj tA tB'):=by
 intro wh pins s σ H Q I h
 refine isTrue_and (thn (ha pins s σ H _ I h) λc s1 ⟨H1,I1,q1⟩=>?_)
 cases c with
 | true=>exact hb wh pins s1 σ H1 Q I1 q1
 | false=>exact⟨H1,I1,q1⟩
theorem Qzp(ha:PT X a tA)(hb:PW X (.BoolOp .Or (b::rest) pos) tB'):PW X (.BoolOp .Or (a::b::rest) pos) (tOr tA tB'):=by
 intro wh pins s σ H Q I h
 refine isTrue_or (thn (ha pins s σ H _ I h) λc s1 ⟨H1,I1,q1⟩=>?_)
 cases c with
 | true=>exact⟨H1,I1,q1⟩
 | false=>exact hb wh pins s1 σ H1 Q I1 q1
theorem Qxt(ha:PT X a tA):PT X (.UnaryOp .Not a pos) (QAp tA):=by
 intro pins s σ H Q I h
 exact isTrue_not (ha pins s σ H (λc H1=>Q (!c) H1) I h)
theorem QwZ{op}{t:TE}(h:PE X a t):PE X (.BoolOp op [a] pos) t:=λpins s σ H Q I hw=>BoolOp_one (h pins s σ H Q I hw)
noncomputable def tIf(t:TT)(ta tb:TE):TE:=λσ H Q=>t σ H λc H1=>if c=true then ta σ H1 Q else tb σ H1 Q
theorem Qs9{c:Expr}(hc:PT X c tA)(ha:PE X a ta)(hb:PE X b tb):PE X (.IfExp c a b pos) (tIf tA ta tb):=by
 intro pins s σ H Q I h
 refine wpAny_IfExp (thn (hc pins s σ H _ I h) λd s1 ⟨H1,I1,q1⟩=>?_)
 cases d with
 | true=>exact ha pins s1 σ H1 Q I1 q1
 | false=>exact hb pins s1 σ H1 Q I1 q1
end
end L2
namespace L2
open PySem PySem.Spec PyProof.Rows
def SqL(K:PySem.W.Frag)(H:Hp)(a:Addr)(xs:List V):Prop:=
 Rd H a (.lst xs)∨
  ∃(o:Obj) (its:Array Value) (n:Nat),K.lookup a=some o/\o.cls= .type "list" /\o.dict=none/\o.data= .seq its n/\its.size<=sizeLine/\QC xs its.toList
def SqT(K:PySem.W.Frag)(H:Hp)(a:Addr)(xs:List V):Prop:=
 Rd H a (.tup xs)∨
  ∃(o:Obj) (its:Array Value) (n:Nat),K.lookup a=some o/\o.cls= .type "tuple" /\o.data= .seq its n/\its.size<=sizeLine/\QC xs its.toList
noncomputable def QzY:Value->Option V
 | .none=>some .non
 | .bool b=>some (.bl b)
 | .int i _=>some (.int i)
 | .str x _=>some (.str x)
 | .bytes b _=>some (.byt b)
 | .float b _=>some (.flt b)
 | .ref a=>some (.ref a)
 | .type n=>some (.ty n)
 | _=>none
theorem RelV.abs{x:V}{u:Value}(r:RelV x u):QzY u=some x:=by
 cases x with
 | non=>cases r;rfl
 | bl _=>cases r;rfl
 | int _=>obtain⟨t,rfl⟩:=r;rfl
 | str _=>obtain⟨t,rfl⟩:=r;rfl
 | byt _=>obtain⟨t,rfl⟩:=r;rfl
 | flt _=>obtain⟨t,rfl⟩:=r;rfl
 | ref _=>cases r;rfl
 | ty _=>cases r;rfl
theorem RelV.inj{x y:V}{u:Value}(r:RelV x u)(q:RelV y u):x=y:=Option.some.inj (r.abs.symm.trans q.abs)
theorem QC.inj:∀{xs ys:List V}{us:List Value},QC xs us->QC ys us->xs=ys
 | _,_,_,.nil,.nil=>rfl
 | _,_,_,.cons r t,.cons r' t'=>by rw[r.inj r',QC.inj t t']
section
variable {X:Cx}{pins:List (Addr×Obj)}{σ:St}{H:Hp}{s:Shared}{a:Addr}{xs ys:List V}
theorem SqL.of{K:PySem.W.Frag}(h:H a=some (.lst xs)):SqL K H a xs:= .inl (.inl h)
theorem SqT.of{K:PySem.W.Frag}(h:H a=some (.tup xs)):SqT K H a xs:= .inl (.inl h)
theorem Inv.list(I:Inv X pins σ H s)(h:SqL X.K H a xs):∃its:List Value,QC xs its/\PlainL s.heap a its.toArray/\xs.length<=sizeLine:=by
 rcases h with h | ⟨o,its,n,hk,hc,hd,hs,hz,r⟩
 ·obtain⟨z,its,n,r,e⟩:=h.ok I.hok
  exact⟨its,r,⟨_,n,e,rfl,rfl,rfl⟩,z⟩
 ·refine⟨its.toList,r,⟨o,n,I.kIn a o hk,hc,hd,by simpa using hs⟩,?_⟩
  have e:=r.length
  simp only[Array.length_toList]at e
  omega
theorem Inv.tuple(I:Inv X pins σ H s)(h:SqT X.K H a xs):∃its:List Value,QC xs its/\IsTup s.heap a its.toArray/\xs.length<=sizeLine:=by
 rcases h with h | ⟨o,its,n,hk,hc,hs,hz,r⟩
 ·obtain⟨z,its,r,p⟩:=h.ok I.hok
  exact⟨its,r,p,z⟩
 ·refine⟨its.toList,r,⟨o,I.kIn a o hk,hc,n,by simpa using hs⟩,?_⟩
  have e:=r.length
  simp only[Array.length_toList]at e
  omega
theorem Inv.QdR(I:Inv X pins σ H s)(h:SqL X.K H a xs)(h':SqL X.K H a ys):xs=ys:=by
 obtain⟨its,r,⟨o,n,e,_,_,d⟩,_⟩:=I.list h
 obtain⟨its',r',⟨o',n',e',_,_,d'⟩,_⟩:=I.list h'
 rw[e]at e';cases e'
 rw[d]at d'
 injection d' with d1 _
 have:its=its':=by simpa using congrArg Array.toList d1
 subst this
 exact r.inj r'
theorem Inv.Qrh(I:Inv X pins σ H s)(h:SqT X.K H a xs)(h':SqT X.K H a ys):xs=ys:=by
 obtain⟨its,r,⟨o,e,_,n,d⟩,_⟩:=I.tuple h
 obtain⟨its',r',⟨o',e',_,n',d'⟩,_⟩:=I.tuple h'
 rw[e]at e';cases e'
 rw[d]at d'
 injection d' with d1 _
 have:its=its':=by simpa using congrArg Array.toList d1
 subst this
 exact r.inj r'
end
noncomputable abbrev Cx.QfK(X:Cx)(E:Value->Shared->Prop):Cx:={X with xe:=E}
noncomputable abbrev Cx.nox(X:Cx):Cx:=X.QfK λ_ _=>False
theorem Cx.Ok.QfK{X:Cx}(ok:X.Ok)(E:Value->Shared->Prop):(X.QfK E).Ok:=
 ⟨ok.mod,ok.kind,ok.glob,ok.blt,ok.above,ok.inj,ok.has,ok.cab,ok.hd,ok.frames,ok.stk,ok.exf,ok.bs,ok.bsz,ok.noex,ok.exfs,ok.Qf0,ok.frf⟩
theorem Cx.Ok.QeQ{X:Cx}{E:Value->Shared->Prop}(ok:(X.QfK E).Ok):X.Ok:=
 ⟨ok.mod,ok.kind,ok.glob,ok.blt,ok.above,ok.inj,ok.has,ok.cab,ok.hd,ok.frames,ok.stk,ok.exf,ok.bs,ok.bsz,ok.noex,ok.exfs,ok.Qf0,ok.frf⟩
section
variable {X:Cx}{pins:List (Addr×Obj)}{σ:St}{H:Hp}{s:Shared}{E:Value->Shared->Prop}
theorem Inv.QfK(I:Inv X pins σ H s)(E:Value->Shared->Prop):Inv (X.QfK E) pins σ H s:=⟨I.ok.QfK E,I.os,I.bare,I.base,I.loc,I.cell,I.free,I.freeC,I.pin,I.hok,I.len⟩
theorem Inv.QeQ(I:Inv (X.QfK E) pins σ H s):Inv X pins σ H s:=⟨I.ok.QeQ,I.os,I.bare,I.base,I.loc,I.cell,I.free,I.freeC,I.pin,I.hok,I.len⟩
theorem SP.QeQ{D:Ends}{f:Flow}{s':Shared}(h:SP (X.QfK E) pins D f s'):SP X pins D f s':=by
 cases f with
 | next=>obtain⟨σ',H',I,q⟩:=h;exact⟨σ',H',I.QeQ,q⟩
 | brk=>obtain⟨σ',H',I,q⟩:=h;exact⟨σ',H',I.QeQ,q⟩
 | cont=>obtain⟨σ',H',I,q⟩:=h;exact⟨σ',H',I.QeQ,q⟩
 | ret u=>obtain⟨v,σ',H',I,r,q⟩:=h;exact⟨v,σ',H',I.QeQ,r,q⟩
theorem PSs.nox{st:List Stmt}{t:TS}(h:PSs X.nox st t):PSs X st t:=λpins s σ H D I hw=>
 wpAny_mono (h pins s σ H D (I.QfK _) hw) (λ_ _ q=>q.QeQ) λ_ _ z=>False.elim z
end
section
variable {X:Cx}{st:Stmt}{rest:List Stmt}{t u:TS}{e:Expr}{te:TE}{pos:Pos}
noncomputable def Qqy:TS:=λD σ H=>D.nx σ H
noncomputable def QtD(t u:TS):TS:=λD σ H=>t {D with nx:=u D} σ H
theorem Qvr:PSs X [] Qqy:=λ_ _ σ H _ I h=>wpAny_execs_nil ⟨σ,H,I,h⟩
theorem QcF(h1:PS X st t)(h2:PSs X rest u):PSs X (st::rest) (QtD t u):=by
 intro pins s σ H D I h
 refine wpAny_execs_cons (thn (h1 pins s σ H {D with nx:=u D} I h) λf s1 q=>?_)
 cases f with
 | next=>
  obtain⟨σ',H',I',q⟩:=q
  exact h2 pins s1 σ' H' D I' q
 | ret v=>exact q
 | brk=>exact q
 | cont=>exact q
noncomputable def Qxw:TS:=λD σ H=>D.bk σ H
noncomputable def Qy9:TS:=λD σ H=>D.ct σ H
theorem Qww:PS X (.Pass pos) Qqy:=λ_ _ σ H _ I h=>wpAny_Pass ⟨σ,H,I,h⟩
theorem QuN:PS X (.Break pos) Qxw:=λ_ _ σ H _ I h=>wpAny_Break ⟨σ,H,I,h⟩
theorem QoV:PS X (.Continue pos) Qy9:=λ_ _ σ H _ I h=>wpAny_Continue ⟨σ,H,I,h⟩
theorem Inv.quiet{pins:List (Addr×Obj)}{σ:St}{H:Hp}{s:Shared}(I:Inv X pins σ H s):interactive X.env=false:=by simp[interactive,I.ok.kind]
theorem QxK{x j pos pos'}:PS X (.Expr (.Constant (.str x) j pos) pos') Qqy:=λ_ s σ H _ I h=>wpAny_Expr (Calls.Constant_str (show SP X _ _ .next {s with toks:=s.toks+1}from⟨σ,H,I.tok _,h⟩)) I.quiet
noncomputable def QiC(te:TE):TS:=λD σ H=>te σ H λ_ H1=>D.nx σ H1
theorem Qg1(he:PE X e te)(hs:swapsWith e none pos.line X.env=pure false:=by rfl):PS X (.Expr e pos) (QiC te):=by
 intro pins s σ H D I h
 exact wpAny_Expr_any (thn (he pins s σ H _ I h) λv s1 ⟨x,H1,I1,r1,q1⟩=>⟨σ,H1,I1,q1⟩) I.quiet hs
noncomputable def Qz6(te:TE):TS:=λD σ H=>te σ H D.rt
theorem QxU(he:PE X e te):PS X (.Return (some e) pos) (Qz6 te):=by
 intro pins s σ H D I h
 exact wpAny_Return_some (thn (he pins s σ H _ I h) λv s1 ⟨x,H1,I1,r1,q1⟩=>⟨x,σ,H1,I1,r1,q1⟩)
noncomputable def QzI:TS:=λD _ H=>D.rt .non H
theorem Qv0:PS X (.Return none pos) QzI:=λ_ _ σ H _ I h=>wpAny_Return_none ⟨.non,σ,H,I,rfl,h⟩
noncomputable def QAw(c:TT)(t u:TS):TS:=λD σ H=>c σ H λb H1=>if b=true then t D σ H1 else u D σ H1
theorem Qy3{c:Expr}{a b:List Stmt}{tc:TT}(hc:PT X c tc)(ha:PSs X a t)(hb:PSs X b u):PS X (.If c a b pos) (QAw tc t u):=by
 intro pins s σ H D I h
 refine wpAny_If (thn (hc pins s σ H _ I h) λd s1 ⟨H1,I1,q1⟩=>?_)
 cases d with
 | true=>exact ha pins s1 σ H1 D I1 q1
 | false=>exact hb pins s1 σ H1 D I1 q1
noncomputable def QyH:TS:=λ_ _ _=>False
theorem Qs6:PS X st QyH:=λ_ _ _ _ _ _ h=>h.elim
end
noncomputable abbrev TG:=V->St->Hp->(St->Hp->Prop)->Prop
noncomputable abbrev TGs:=List V->St->Hp->(St->Hp->Prop)->Prop
def PG(X:Cx)(target:Expr)(t:TG):Prop:=
 ∀(pins:List (Addr×Obj)) (s:Shared) (σ:St) (H:Hp) (v:V) (u:Value) (Q:St->Hp->Prop),Inv X pins σ H s->RelV v u->t v σ H Q→
  wpAny (model X.prog X.w) X.A (assign target X.env u) (λ_ s'=>∃σ' H',Inv X pins σ' H' s'/\Q σ' H') X.xe s
def PGs(X:Cx)(ts:List Expr)(t:TGs):Prop:=
 ∀(pins:List (Addr×Obj)) (s:Shared) (σ:St) (H:Hp) (vs:List V) (us:List Value) (Q:St->Hp->Prop),Inv X pins σ H s->QC vs us->t vs σ H Q→
  wpAny (model X.prog X.w) X.A (assignInOrder ((assignEach ts X.env).map (·.2)) us) (λ_ s'=>∃σ' H',Inv X pins σ' H' s'/\Q σ' H') X.xe s
noncomputable abbrev Qm4:=V->V->V->Hp->(Hp->Prop)->Prop
def QtY(X:Cx)(t:Qm4):Prop:=
 ∀(pins:List (Addr×Obj)) (s:Shared) (σ:St) (H:Hp) (o i v:V) (ov iv u:Value) (Q:Hp->Prop),Inv X pins σ H s->RelV o ov->RelV i iv->RelV v u->t o i v H Q→
  wpAny (model X.prog X.w) X.A (setItem ov iv u) (λ_ s'=>∃H',Inv X pins σ H' s'/\Q H') X.xe s
noncomputable abbrev TIp:=V->V->Hp->VK->Prop
def PIp(X:Cx)(op:Operator)(t:TIp):Prop:=
 ∀(pins:List (Addr×Obj)) (s:Shared) (σ:St) (H:Hp) (x y:V) (v u:Value) (Q:VK),Inv X pins σ H s->RelV x v->RelV y u->t x y H Q→
  wpAny (model X.prog X.w) X.A (inplaceOp op v u) (EP X pins σ Q) X.xe s
section
variable {X:Cx}{pos:Pos}
noncomputable def Qf5(i:Nat):TG:=λv σ H Q=>Q (σ.set i (some v)) H
theorem QpK{i:Nat}{x:Str}(hN:X.N.Nodup)(hi:X.N[i]? =some x)(hx:Loc X.env.scope x)(hf:X.fn x=true∨X.env.scope.names.lookup x=some .local :=by first | exact .inl rfl | exact .inr rfl | assumption):PG X (.Name x pos) (Qf5 i):=by
 intro pins s σ H v u Q I r h
 exact wpAny_assign_Name (QoH I hN hi hx r (λs' I'=>⟨_,H,I',h⟩) hf)
noncomputable def Qxl:TGs:=λvs σ H Q=>vs=[]/\Q σ H
noncomputable def Qvd(t:TG)(u:TGs):TGs:=λvs σ H Q=>∃v r,vs=v::r/\t v σ H λσ' H'=>u r σ' H' Q
theorem Qvk:PGs X [] Qxl:=by
 intro pins s σ H vs us Q I r h
 obtain⟨e,h⟩:=h
 subst e
 cases r
 exact assignInOrder_nil ⟨σ,H,I,h⟩
theorem QuB{e:Expr}{es:List Expr}{t:TG}{u:TGs}(h1:PG X e t)(h2:PGs X es u)
  (hs:(assignEach (e::es) X.env).map (·.2)=assign e X.env::(assignEach es X.env).map (·.2):=by rfl):PGs X (e::es) (Qvd t u):=by
 intro pins s σ H vs us Q I r h
 obtain⟨v,vr,e1,h⟩:=h
 subst e1
 cases r with
 | cons r rr=>
  rw[hs]
  refine assignInOrder_cons (thn (h1 pins s σ H _ _ _ I r h) λ_ s1 ⟨σ1,H1,I1,q1⟩=>?_)
  exact h2 pins s1 σ1 H1 _ _ Q I1 rr q1
noncomputable def QAi(K:PySem.W.Frag)(n:Nat)(t:TGs):TG:=λv σ H Q=>∃a xs,v= .ref a/\SqT K H a xs/\xs.length=n/\t xs σ H Q
theorem Qxg{es:List Expr}{k:Nat}{t:TGs}{n:Nat}(hc:X.calm=true)(h:PGs X es t)
  (hn:(assignEach es X.env).length=n:=by rfl) (hst:(assignEach es X.env).findIdx? (·.1)=none:=by rfl):PG X (.Tuple es k pos) (QAi X.K n t):=by
 intro pins s σ H v u Q I r hw
 obtain⟨a,xs,e1,hq,hl,hw⟩:=hw
 subst e1
 cases r
 obtain⟨its,rv,ht,hz⟩:=I.tuple hq
 refine assign_Tuple_tuple (I.ok.hd hc) ht (by simp[hn,← hl,rv.length]) hst λh' hx=>?_
 have I1:Inv X pins σ H {s with heap:=h'}:=I.kept (t':=s.toks) λb o e=>hx b o (ZS (Zw e)) e
 exact h pins _ σ H xs _ Q I1 (by simpa using rv) hw
noncomputable def QaJ(to ti:TE)(t:Qm4):TG:=λv σ H Q=>to σ H λo H1=>ti σ H1 λi H2=>t o i v H2 λH3=>Q σ H3
theorem QfW{o i:Expr}{to ti:TE}{t:Qm4}(ho:PE X o to)(hi:PE X i ti)(hs:QtY X t)
  (ha:∀v,assign (.Subscript o i pos) X.env v=(do
   let ov ← holding [v] (eval o X.env)
   let iv ← holding [v,ov] (eval i X.env)
   standAt pos
   holding [v,ov,iv] (setItem ov iv v)
   release [v,ov,iv] []):=by intro _;rfl):PG X (.Subscript o i pos) (QaJ to ti t):=by
 intro pins s σ H v u Q I r h
 rw[ha]
 refine wpAny_bind (wpAny_holding (thn (ho pins s σ H _ I h) λov s1 ⟨x,H1,I1,r1,q1⟩=>?_))
 refine wpAny_bind (wpAny_holding (thn (hi pins s1 σ H1 _ I1 q1) λiv s2 ⟨y,H2,I2,r2,q2⟩=>?_))
 refine wpAny_bind (wpAny_standAt (wpAny_bind (wpAny_holding (thn (hs pins s2 σ H2 x y v ov iv u _ I2 r1 r2 r q2) λ_ s3 ⟨H3,I3,q3⟩=>?_))))
 exact wpAny_release ⟨σ,H3,I3,q3⟩
noncomputable def QeA(te:TE)(g:TG):TS:=λD σ H=>te σ H λx H1=>g x σ H1 D.nx
theorem QeR{tg e:Expr}{te:TE}{g:TG}(he:PE X e te)(hg:PG X tg g)(hs:swapsWithSole [tg] e pos.line X.env=pure false:=by rfl)(hw:swappedStores [tg] e X.env=pure none:=by rfl)
  (h1:(assignEach [tg] X.env).map (·.2)=[assign tg X.env]:=by rfl):PS X (.Assign [tg] e pos) (QeA te g):=by
 intro pins s σ H D I h
 refine wpAny_Assign_stores (thn (he pins s σ H _ I h) λv s1 ⟨x,H1,I1,r1,q1⟩=>?_) hs hw
 rw[h1]
 exact thn (hg pins s1 σ H1 x v _ I1 r1 q1) λ_ s2 q=>q
theorem Qif{i:Nat}{x:Str}{e:Expr}{te:TE}{pos':Pos}(hN:X.N.Nodup)(hi:X.N[i]? =some x)(hx:Loc X.env.scope x)(he:PE X e te)(hs:swapsWith e (some (.Name x pos')) pos.line X.env=pure false:=by rfl)(hf:X.fn x=true∨X.env.scope.names.lookup x=some .local :=by first | exact .inl rfl | exact .inr rfl | assumption):
  PS X (.Assign [.Name x pos'] e pos) (QeA te (Qf5 i)):=by
 intro pins s σ H D I h
 refine wpAny_Assign_Name (thn (he pins s σ H _ I h) λv s1 ⟨y,H1,I1,r1,q1⟩=>?_) hs
 exact QoH I1 hN hi hx r1 (λs2 I2=>⟨_,H1,I2,q1⟩) hf
noncomputable def QzB(to ti te:TE)(tget:V->V->Hp->VK->Prop)(tip:TIp)(tset:Qm4):TS:=λD σ H=>to σ H λo H1=>ti σ H1 λi H2=>tget o i H2 λx H3=>te σ H3 λy H4=>tip x y H4 λz H5=>tset o i z H5 λH6=>D.nx σ H6
def QxY(X:Cx)(t:V->V->Hp->VK->Prop):Prop:=
 ∀(pins:List (Addr×Obj)) (s:Shared) (σ:St) (H:Hp) (o i:V) (ov iv:Value) (Q:VK),Inv X pins σ H s->RelV o ov->RelV i iv->t o i H Q→
  wpAny (model X.prog X.w) X.A (getItem ov iv) (EP X pins σ Q) X.xe s
theorem QvZ{o i e:Expr}{to ti te:TE}{tget:V->V->Hp->VK->Prop}{tip:TIp}{tset:Qm4}{op:Operator}{tpos:Pos}(ho:PE X o to)(hi:PE X i ti)(hg:QxY X tget)(he:PE X e te)(hp:PIp X op tip)(hs:QtY X tset)
  (ha:∀ov iv new,augStore i ov iv new=(do holding [new,ov,iv] (setItem ov iv new);release [new,ov,iv] [];pure .next):=by intros;rfl):PS X (.AugAssign (.Subscript o i tpos) op e pos) (QzB to ti te tget tip tset):=by
 intro pins s σ H D I h
 refine wpAny_AugAssign_SubscriptAny (thn (ho pins s σ H _ I h) λov s1 ⟨x1,H1,I1,r1,q1⟩=>?_) ha
 refine thn (hi pins s1 σ H1 _ I1 q1) λiv s2 ⟨x2,H2,I2,r2,q2⟩=>?_
 refine thn (hg pins s2 σ H2 x1 x2 ov iv _ I2 r1 r2 q2) λold s3 ⟨x3,H3,I3,r3,q3⟩=>?_
 refine thn (he pins s3 σ H3 _ I3 q3) λv s4 ⟨x4,H4,I4,r4,q4⟩=>?_
 refine thn (hp pins s4 σ H4 x3 x4 old v _ I4 r3 r4 q4) λnew s5 ⟨x5,H5,I5,r5,q5⟩=>?_
 exact thn (hs pins s5 σ H5 x1 x2 x5 ov iv new _ I5 r1 r2 r5 q5) λ_ s6 ⟨H6,I6,q6⟩=>⟨σ,H6,I6,q6⟩
end
section
variable {X:Cx}{pos:Pos}
noncomputable def QxL(c:TT)(tb:TS):TS:=λD σ H=>∃W:Nat->St->Hp->Prop,(∃m,W m σ H)/\∀m σ H,W m σ H→
 c σ H λb H1=>if b=true then ∃N:St->Hp->Prop,(∀σ' H',N σ' H'->∃m',m'<m/\W m' σ' H')/\tb {D with nx:=N,ct:=N,bk:=D.nx} σ H1 else D.nx σ H1
theorem Qs2{c:Expr}{body:List Stmt}{tc:TT}{tb:TS}(hp:PassesOwn (model X.prog X.w) X.A X.env X.xe)(hc:PT X c tc)(hb:PSs X body tb):PS X (.While c body [] pos) (QxL tc tb):=by
 intro pins s σ H D I h
 obtain⟨W,⟨m0,w0⟩,turn⟩:=h
 refine wpAny_While (codeAny_whileLoop (λn s'=>∃σ' H',Inv X pins σ' H' s'/\W n σ' H') ?_ m0 ⟨σ,H,I,w0⟩)
 rintro n s1 ⟨σ1,H1,I1,w1⟩
 refine wpAny_passesOwn hp (thn (hc pins s1 σ1 H1 _ I1 (turn n σ1 H1 w1)) λb s2 ⟨H2,I2,q2⟩=>?_)
 cases b with
 | true=>
  obtain⟨N,hN,q2⟩:=q2
  rw[if_pos rfl]
  refine wpAny_passesOwn hp (thn (hb pins s2 σ1 H2 _ I2 q2) λf s3 q3=>?_)
  cases f with
  | next=>
   obtain⟨σ3,H3,I3,n3⟩:=q3
   obtain⟨m',hm,w3⟩:=hN σ3 H3 n3
   exact⟨m',hm,σ3,H3,I3,w3⟩
  | cont=>
   obtain⟨σ3,H3,I3,n3⟩:=q3
   obtain⟨m',hm,w3⟩:=hN σ3 H3 n3
   exact⟨m',hm,σ3,H3,I3,w3⟩
  | brk=>exact q3
  | ret v=>exact q3
 | false=>
  rw[if_neg Zaz]
  exact wpAny_execs_nil ⟨σ1,H2,I2,q2⟩
end
structure It where
 go:Nat->Hp->Prop
 yld:Nat->Hp->V->Hp->Prop
 stop:Nat->Hp->Prop
def Qev(X:Cx)(pins:List (Addr×Obj))(H:Hp)(b:Addr):Prop:=
 H b=none/\b≠X.env.locals/\b∉X.fs/\(b∈X.ex∨X.s₀.heap.objs.size<=b)/\(∀x c,X.env.cells.lookup x=some c->c≠b)/\∀p∈X.pn++pins,p.1≠b
theorem Inv.Qjt{X:Cx}{pins:List (Addr×Obj)}{σ:St}{H H':Hp}{s:Shared}{b:Addr}(I:Inv X pins σ H s)(hb:s.heap.objs.size<=b)(hn:H' b=none):Qev X pins H' b:=by
 refine⟨hn,Zbm (Zq I.lt hb),I.QAn hb,.inr (Zx I.sz hb),λx c e z=>?_,λp hp z=>?_⟩
 ·obtain⟨v,q⟩:=I.cell x c e
  exact absurd (Zq q.lt (by rw[z];exact hb)) (ZV _)
 ·exact absurd (Zq (Zw (I.pin p hp).1) (by rw[z];exact hb)) (ZV _)
structure Turn (P:Program) (w:World) (K:PySem.W.Frag) (tg:Expr) (J:It) (fp:List Addr) (it:Addr) (tn:Nat->Heap->Prop):Prop where
 mem:it∈fp
 obj:∀i h,tn i h->∀b∈fp,∃o,h.get? b=some o/\∀v,o.data≠ .cell v
 keep:∀i h h',tn i h->(∀b∈fp,∀o,h.get? b=some o->h'.get? b=some o)->tn i h'
 item:∀(X:Cx),X.prog=P->X.w=w->X.K=K->X.calm=true->∀(i:Nat) (pins:List (Addr×Obj)) (s:Shared) (σ:St) (H:Hp) (E:Value->Shared->Prop),Inv X pins σ H s->(∀b∈fp,Qev X pins H b)->tn i s.heap->J.go i H→
  wpAny (model P w) X.A (pyNext (.ref it)) (λr s1=>∃u,r=some u∧
   wpAny (model P w) X.A (letOwnedTupleGo tg (.ref it) u) (λ_ s2=>∃x H',Inv X pins σ H' s2/\RelV x u/\J.yld i H x H'/\tn (i+1) s2.heap/\∀b∈fp,H' b=none) E s1) E s
 done:∀(X:Cx),X.prog=P->X.w=w->X.K=K->X.calm=true->∀(i:Nat) (pins:List (Addr×Obj)) (s:Shared) (σ:St) (H:Hp) (E:Value->Shared->Prop),Inv X pins σ H s->(∀b∈fp,Qev X pins H b)->tn i s.heap->J.stop i H→
  wpAny (model P w) X.A (pyNext (.ref it)) (λr s1=>r=none/\Inv X pins σ H s1) E s
 self:∀(A:Around) (i:Nat) (s:Shared) (Q:Value->Shared->Prop) (E:Value->Shared->Prop),tn i s.heap->Q (.ref it) s->wpAny (model P w) A (pyIter (.ref it)) Q E s
noncomputable abbrev TI:=St->Hp->(It->Hp->Prop)->Prop
def PIE(X:Cx)(pins:List (Addr×Obj))(σ:St)(tg:Expr)(R:It->Hp->Prop)(itv:Value)(s2:Shared):Prop:=
 ∃(it:Addr) (fp:List Addr) (tn:Nat->Heap->Prop) (J:It) (H':Hp),itv= .ref it/\Inv X pins σ H' s2/\Turn X.prog X.w X.K tg J fp it tn/\tn 0 s2.heap/\(∀b∈fp,Qev X pins H' b)/\R J H'
def PI(X:Cx)(tg iter:Expr)(wi:TI):Prop:=
 ∀(pins:List (Addr×Obj)) (s:Shared) (σ:St) (H:Hp) (R:It->Hp->Prop),Inv X pins σ H s->wi σ H R→
  wpAny (model X.prog X.w) X.A (eval iter X.env) (λv s1=>wpAny (model X.prog X.w) X.A (pyIter v) (PIE X pins σ tg R) X.xe s1) X.xe s
theorem QmQ{M:Model}{A:Around}{E:Value->Shared->Prop}{s:Shared}{tg:Expr}{it:Addr}{u:Value}{o:Obj}{n:String}{vs:Array Value}{Q:Unit->Shared->Prop}(ho:s.heap.get? it=some o)(hc:o.cls= .type n)(hd:o.data= .fields vs)
    (hn:["enumerate","zip","dict_itemiterator","dict_reverseitemiterator","odict_iterator","itertools.zip_longest","itertools.pairwise"].contains n=false) (hQ:Q () s):wpAny M A (letOwnedTupleGo tg (.ref it) u) Q E s:=by
  unfold letOwnedTupleGo
  cases tg<;>first
    | exact wpAny_pure hQ
    | (cases u<;>first
        | exact wpAny_pure hQ
        | (refine wpAny_bind (wpAny_load ho ?_)
           rw[hc,hd]
           show wpAny M A (if(["enumerate","zip","dict_itemiterator","dict_reverseitemiterator","odict_iterator","itertools.zip_longest","itertools.pairwise"].contains n && vs[0]? == some (rawInt _))=true then _ else _) Q E s
           rw[if_neg (by intro h;rw[hn,Bool.false_and]at h;cases h)]
           exact wpAny_pure hQ))
noncomputable def Itl(K:PySem.W.Frag)(a:Addr):It:=
 ⟨λi H=>∃xs x,SqL K H a xs/\xs[i]? =some x,λi H x H'=>H'=H/\∀xs,SqL K H a xs->xs[i]? =some x,λi H=>∃xs,SqL K H a xs/\xs.length<=i⟩
noncomputable def Itt(K:PySem.W.Frag)(a:Addr):It:=
 ⟨λi H=>∃xs x,SqT K H a xs/\xs[i]? =some x,λi H x H'=>H'=H/\∀xs,SqT K H a xs->xs[i]? =some x,λi H=>∃xs,SqT K H a xs/\xs.length<=i⟩
noncomputable def Itr(lo:Int)(n:Nat):It:=⟨λi _=>i<n,λi H x H'=>H'=H/\x= .int (lo+i),λi _=>n<=i⟩
theorem QsB{P:Program}{w:World}{K:PySem.W.Frag}{tg:Expr}(a it:Addr):Turn P w K tg (Itl K a) [it] it (λi h=>h.IsListIter it a i) where
 mem:=by simp
 obj:=λi h st b hb=>by
  have e:b=it:=by simpa using hb
  subst e
  obtain⟨o,e,c,d⟩:=st
  exact⟨o,e,λv z=>by rw[d]at z;cases z⟩
 keep:=λi h h' st k=>st.at λo e=>k it (by simp) o e
 item:=by
  intro X hP hw hK hc i pins s σ H E I hf st hg
  subst hP hw hK
  obtain⟨xs,x,hq,hx⟩:=hg
  obtain⟨its,rv,p,hz⟩:=I.list hq
  obtain⟨u,hu,ru⟩:=rv.get hx
  obtain⟨f0,f1,f2,f3,f4,f5⟩:=hf it (by simp)
  refine wpAny_pyNext_list_item st p.isList (x:=u) (by simpa using hu) λh' st' sb=>?_
  have I1:Inv X pins σ H {s with heap:=h'}:=I.turned (t':=s.toks) (λb o hb e=>(sb.2 b hb).trans e) f0 f1 f3 f4 f5
  obtain⟨o,e,c,d⟩:=id st'
  exact⟨u,rfl,QmQ (s:={s with heap:=h'}) e c d (by decide) ⟨x,H,I1,ru,⟨rfl,λys hy=>by rw[I.QdR hy hq];exact hx⟩,st',λb hb=>(hf b hb).1⟩⟩
 done:=by
  intro X hP hw hK hc i pins s σ H E I hf st hg
  subst hP hw hK
  obtain⟨xs,hq,hx⟩:=hg
  obtain⟨its,rv,p,hz⟩:=I.list hq
  obtain⟨f0,f1,f2,f3,f4,f5⟩:=hf it (by simp)
  have hl:=rv.length
  exact wpAny_pyNext_list_end (I.ok.hd hc) st p.isList (by simp;omega) λh' eb=>⟨rfl,I.turned (t':=s.toks) (λb o hb e=>eb b o hb e) f0 f1 f3 f4 f5⟩
 self:=λ_ _ _ _ _ st h=>wpAny_pyIter_listiter st h
theorem Qqj{P:Program}{w:World}{K:PySem.W.Frag}{tg:Expr}(a it:Addr):Turn P w K tg (Itt K a) [it] it (λi h=>h.IsTupleIter it a i) where
 mem:=by simp
 obj:=λi h st b hb=>by
  have e:b=it:=by simpa using hb
  subst e
  obtain⟨o,e,c,d⟩:=st
  exact⟨o,e,λv z=>by rw[d]at z;cases z⟩
 keep:=λi h h' st k=>st.at λo e=>k it (by simp) o e
 item:=by
  intro X hP hw hK hc i pins s σ H E I hf st hg
  subst hP hw hK
  obtain⟨xs,x,hq,hx⟩:=hg
  obtain⟨its,rv,p,hz⟩:=I.tuple hq
  obtain⟨u,hu,ru⟩:=rv.get hx
  obtain⟨f0,f1,f2,f3,f4,f5⟩:=hf it (by simp)
  refine wpAny_pyNext_tuple_item st (show s.heap.IsTuple a its.toArray from p) (x:=u) (by simpa using hu) λh' st' sb=>?_
  have I1:Inv X pins σ H {s with heap:=h'}:=I.turned (t':=s.toks) (λb o hb e=>(sb.2 b hb).trans e) f0 f1 f3 f4 f5
  obtain⟨o,e,c,d⟩:=id st'
  exact⟨u,rfl,QmQ (s:={s with heap:=h'}) e c d (by decide) ⟨x,H,I1,ru,⟨rfl,λys hy=>by rw[I.Qrh hy hq];exact hx⟩,st',λb hb=>(hf b hb).1⟩⟩
 done:=by
  intro X hP hw hK hc i pins s σ H E I hf st hg
  subst hP hw hK
  obtain⟨xs,hq,hx⟩:=hg
  obtain⟨its,rv,p,hz⟩:=I.tuple hq
  obtain⟨f0,f1,f2,f3,f4,f5⟩:=hf it (by simp)
  have hl:=rv.length
  exact wpAny_pyNext_tuple_end (I.ok.hd hc) st (show s.heap.IsTuple a its.toArray from p) (by simp;omega) λh' eb=>⟨rfl,I.turned (t':=s.toks) (λb o hb e=>eb b o hb e) f0 f1 f3 f4 f5⟩
 self:=λ_ _ _ _ _ st h=>wpAny_pyIter_tupleiter st h
theorem QqS{P:Program}{w:World}{K:PySem.W.Frag}{tg:Expr}(it:Addr)(lo:Int)(n:Nat):Turn P w K tg (Itr lo n) [it] it (λi h=>IsRangeIter h it (lo+(i:Nat)*1) ((n:Int)-(i:Nat)) 1) where
 mem:=by simp
 obj:=λi h st b hb=>by
  have e:b=it:=by simpa using hb
  subst e
  exact⟨_,st,λv z=>by
   have z':Data.fields _=Data.cell v:=z
   cases z'⟩
 keep:=λi h h' st k=>k it (by simp) _ st
 item:=by
  intro X hP hw hK hc i pins s σ H E I hf st hg
  subst hP hw hK
  obtain⟨f0,f1,f2,f3,f4,f5⟩:=hf it (by simp)
  have W:=Walks.range (prog:=X.prog) (w:=X.w) (I.ok.hd hc) it lo 1 n
  refine W.item i s _ _ hg st λv h' tk hv st' kk=>?_
  obtain⟨t,rfl⟩:=hv
  have I1:Inv X pins σ H {s with heap:=h',toks:=tk}:=I.turned (λb o hb e=>kk b o (by simpa using hb) e) f0 f1 f3 f4 f5
  refine⟨_,rfl,QmQ (s:={s with heap:=h',toks:=tk}) (n:= "range_iterator") st' rfl rfl (by decide) ⟨.int (lo+i),H,I1,⟨t,?_⟩,⟨rfl,rfl⟩,st',λb hb=>(hf b hb).1⟩⟩
  rw[Zah]
 done:=by
  intro X hP hw hK hc i pins s σ H E I hf st hg
  subst hP hw hK
  obtain⟨f0,f1,f2,f3,f4,f5⟩:=hf it (by simp)
  exact wpAny_pyNext_range_end (I.ok.hd hc) st (by have:n<=i:=hg;omega) λh' eb=>⟨rfl,I.turned (t':=s.toks) (λb o hb e=>eb b o hb e) f0 f1 f3 f4 f5⟩
 self:=λ_ _ _ _ _ st h=>wpAny_pyIter_rangeiter st h
end L2
namespace L2
open PySem PySem.Spec PyProof.Rows
section
variable {X:Cx}{tg:Expr}
theorem QnT{pins:List (Addr×Obj)}{σ:St}{H:Hp}{s:Shared}{R:It->Hp->Prop}{E:Value->Shared->Prop}{lo hi:Int}{t u v:Tok}{tk:Nat}(I:Inv X pins σ H s)(h1: -(2^62)<=lo)(h2:lo<2^62)(h3: -(2^62)<=hi)(h4:hi<2^62)
  (q:R (Itr lo (hi-lo).toNat) H):wpAny (model X.prog X.w) X.A (pyIter (.ref s.heap.objs.size)) (PIE X pins σ tg R) E {s with heap:=s.heap.push {cls:= .type "range",data:= .fields #[.int lo t,.int hi u,.int 1 v]},toks:=tk}:=by
 refine wpAny_pyIter_range (IsRange.new ..) (small_one h1 h2 h3 h4) ?_
 have I1:Inv X pins σ H {s with heap:=s.heap.push {cls:= .type "range",data:= .fields #[.int lo t,.int hi u,.int 1 v]},toks:=tk}:=I.kept λb o e=>Zb _ e
 refine⟨(s.heap.push {cls:= .type "range",data:= .fields #[.int lo t,.int hi u,.int 1 v]}).objs.size,[(s.heap.push {cls:= .type "range",data:= .fields #[.int lo t,.int hi u,.int 1 v]}).objs.size],_,_,H,rfl,
  I1.kept (t':=tk) λb o e=>Zb _ e,QqS _ lo (hi-lo).toNat,?_,λb hb=>?_,q⟩
 ·have e1:lo+((0:Nat):Int)*1=lo:=by simp
  have e2:(((hi-lo).toNat:Nat):Int)-((0:Nat):Int)=Builtin.Range.rangeSize lo hi 1:=by rw[rangeSize_one];split<;>omega
  show IsRangeIter _ _ (lo+((0:Nat):Int)*1) ((((hi-lo).toNat:Nat):Int)-((0:Nat):Int)) 1
  rw[e1,e2]
  exact ZA _ rfl
 ·have e:b=(s.heap.push {cls:= .type "range",data:= .fields #[.int lo t,.int hi u,.int 1 v]}).objs.size:=by simpa using hb
  subst e
  exact I1.Qjt (Zi _) (I1.hok.fresh (Zi _))
noncomputable def Qzb(ta:TA):TI:=λσ H R=>ta σ H λvs H1=>∃j:Int,vs=[.int j]/\ -(2^62)<=j/\j<2^62/\R (Itr 0 j.toNat) H1
noncomputable def Qzc(ta:TA):TI:=λσ H R=>ta σ H λvs H1=>∃i j:Int,vs=[.int i,.int j]/\(-(2^62)<=i/\i<2^62/\ -(2^62)<=j/\j<2^62)/\R (Itr i (j-i).toNat) H1
theorem Qr5{a:Expr}{ta:TA}{p pos:Pos}(hg:Gl X "range")(hm:X.mg "range" =none)(ha:PA X [a] ta)(hs:starEach [a] X.env=[(false,eval a X.env)]:=by rfl):PI X tg (.Call (.Name "range" p) [a] [] pos) (Qzb ta):=by
 intro pins s σ H R I h
 refine Call_ (Qdg I hg hm boot_range (ZN (thn (ha pos pins s σ H _ I h) λus s1 ⟨vs,H1,I1,r1,q1⟩=>?_) hs rfl))
 obtain⟨j,e,q1,q2,q⟩:=q1
 subst e
 cases r1 with
 | cons r rr=>
  cases rr
  obtain⟨t,rfl⟩:=r
  exact call_range_1 (QnT I1 (by omega) (by omega) q1 q2 (by simpa using q))
theorem QrR{a b:Expr}{ta:TA}{p pos:Pos}(hg:Gl X "range")(hm:X.mg "range" =none)(ha:PA X [a,b] ta)(hs:starEach [a,b] X.env=[(false,eval a X.env),(false,eval b X.env)]:=by rfl)(hs2:starEach [b] X.env=[(false,eval b X.env)]:=by rfl):
  PI X tg (.Call (.Name "range" p) [a,b] [] pos) (Qzc ta):=by
 intro pins s σ H R I h
 refine Call_ (Qdg I hg hm boot_range (ZN (thn (ha pos pins s σ H _ I h) λus s1 ⟨vs,H1,I1,r1,q1⟩=>?_) (by rw[hs,hs2]) (by rw[hs2];rfl)))
 obtain⟨i,j,e,⟨q1,q2,q3,q4⟩,q⟩:=q1
 subst e
 cases r1 with
 | cons r rr=>
  cases rr with
  | cons r' rr=>
   cases rr
   obtain⟨t,rfl⟩:=r
   obtain⟨t',rfl⟩:=r'
   exact call_range_2 (QnT I1 q1 q2 q3 q4 q)
noncomputable def Qz1(wi:TI)(g:TG)(tb:TS):TS:=λD σ H=>wi σ H λJ H1=>∃W:Nat->Nat->St->Hp->Prop,(∃m,W 0 m σ H1)/\∀i m σ H,W i m σ H→
 (J.stop i H/\D.nx σ H)∨(J.go i H/\∃N:St->Hp->Prop,(∀σ' H',N σ' H'->∃m',m'<m/\W (i+1) m' σ' H')/\∀x H',J.yld i H x H'->g x σ H' λσ2 H2=>tb {D with nx:=N,ct:=N,bk:=D.nx} σ2 H2)
noncomputable def Qh3(fp:List Addr)(h:Heap):List (Addr×Obj):=fp.filterMap λb=>(h.get? b).map λo=>(b,o)
theorem QhA{fp:List Addr}{h:Heap}{b:Addr}{o:Obj}(hb:b∈fp)(e:h.get? b=some o):(b,o)∈Qh3 fp h:=Zbi.mpr ⟨b,hb,by rw[e];rfl⟩
theorem Qra{fp:List Addr}{h:Heap}{p:Addr×Obj}(hp:p∈Qh3 fp h):p.1∈fp/\h.get? p.1=some p.2:=by
 obtain⟨b,hb,e⟩:=Zbi.mp hp
 cases q:h.get? b with
 | none=>rw[q]at e;cases e
 | some o=>
  rw[q]at e
  have e':(b,o)=p:=Option.some.inj e
  subst e'
  exact⟨hb,q⟩
theorem Inv.pinned{pins:List (Addr×Obj)}{σ:St}{H:Hp}{s:Shared}{fp:List Addr}(I:Inv X pins σ H s)(hf:∀b∈fp,Qev X pins H b)(ho:∀b∈fp,∃o,s.heap.get? b=some o/\∀v,o.data≠ .cell v):Inv X (pins++Qh3 fp s.heap) σ H s:=
 I.QpV λp hp=>(ZC.mp hp).elim (λz=>I.pin p (Zc _ z)) λz=>by
  obtain⟨hb,e⟩:=Qra z
  obtain⟨f0,f1,f2,_⟩:=hf p.1 hb
  obtain⟨o,e',d⟩:=ho p.1 hb
  rw[e]at e';cases e'
  exact⟨e,f0,f1,f2,d⟩
theorem Inv.Qhc{pins pl:List (Addr×Obj)}{σ:St}{H:Hp}{s:Shared}(I:Inv X (pins++pl) σ H s):Inv X pins σ H s:=I.QpV λp hp=>I.pin p (Zc _ (Zj _ hp))
theorem QyF{iter:Expr}{body:List Stmt}{wi:TI}{g:TG}{tb:TS}{pos:Pos}(hp:PassesOwn (model X.prog X.w) X.A X.env X.xe)(hc:X.calm=true)(hi:PI X tg iter wi)(hg:PG X tg g)(hb:PSs X body tb)
  (hs:∀x,foldedSetIterable iter X.env x=pure x:=by intro _;rfl):PS X (.For tg iter body [] pos) (Qz1 wi g tb):=by
 intro pins s σ H D I h
 refine wpAny_For (thn (hi pins s σ H _ I h) λv s1 h1=>thn h1 λitv s2 h2=>?_) hs
 obtain⟨it,fp,tn,J,H2,e,I2,T,st2,f2,W,⟨m0,w0⟩,turn⟩:=h2
 subst e
 have stat:∀{H':Hp},(∀b∈fp,H' b=none)->∀b∈fp,Qev X pins H' b:=λhn b hb=>⟨hn b hb,(f2 b hb).2⟩
 refine codeAny_forLoop_any (λn s'=>∃i σ' H',Inv X pins σ' H' s'/\tn i s'.heap/\(∀b∈fp,H' b=none)/\W i n σ' H') ?_ m0 ⟨0,σ,H2,I2,st2,λb hb=>(f2 b hb).1,w0⟩
 rintro n s3 ⟨i,σ3,H3,I3,st3,fr3,w3⟩
 rcases turn i n σ3 H3 w3 with⟨stop,qn⟩ | ⟨go,N,hN,step⟩
 ·refine wpAny_passesOwn hp (thn (T.done X rfl rfl rfl hc i pins s3 σ3 H3 X.xe I3 (stat fr3) st3 stop) λr s4 ⟨hr,I4⟩=>?_)
  subst hr
  exact wpAny_execs_nil ⟨σ3,H3,I4,qn⟩
 ·refine wpAny_passesOwn hp (thn (T.item X rfl rfl rfl hc i pins s3 σ3 H3 X.xe I3 (stat fr3) st3 go) λr s4 ⟨u,hr,h4⟩=>?_)
  subst hr
  refine wpAny_passesOwn hp (thn h4 λ_ s5 ⟨x,H5,I5,r5,y5,st5,fr5⟩=>?_)
  have I5':=I5.pinned (stat fr5) (T.obj _ _ st5)
  refine wpAny_passesOwn hp (thn (hg _ s5 σ3 H5 x u _ I5' r5 (step x H5 y5)) λ_ s6 ⟨σ6,H6,I6,q6⟩=>?_)
  refine wpAny_passesOwn hp (thn (hb _ s6 σ6 H6 _ I6 q6) λf s7 q7=>?_)
  have again:∀{σ7:St}{H7:Hp},Inv X (pins++Qh3 fp s5.heap) σ7 H7 s7->N σ7 H7->∃m,m<n/\∃i σ' H',Inv X pins σ' H' s7/\tn i s7.heap/\(∀b∈fp,H' b=none)/\W i m σ' H':=λ{σ7 H7} I7 n7=>by
   obtain⟨m',hm,w7⟩:=hN σ7 H7 n7
   refine⟨m',hm,i+1,σ7,H7,I7.Qhc,T.keep _ _ _ st5 λb hb o e=>(I7.pin (b,o) (Zc _ (Zc _ (QhA hb e)))).1,λb hb=>?_,w7⟩
   obtain⟨o,e,d⟩:=T.obj _ _ st5 b hb
   exact(I7.pin (b,o) (Zc _ (Zc _ (QhA hb e)))).2.1
  cases f with
  | next=>obtain⟨σ7,H7,I7,n7⟩:=q7;exact again I7 n7
  | cont=>obtain⟨σ7,H7,I7,n7⟩:=q7;exact again I7 n7
  | brk=>obtain⟨σ7,H7,I7,q7⟩:=q7;exact⟨σ7,H7,I7.Qhc,q7⟩
  | ret v=>obtain⟨x7,σ7,H7,I7,r7,q7⟩:=q7;exact⟨x7,σ7,H7,I7.Qhc,r7,q7⟩
end
end L2
namespace L2
open PySem PySem.Spec PyProof.Rows
noncomputable abbrev R2:=V->V->Hp->VK->Prop
def OpR(X:Cx)(f:Value->Value->Sem Value)(r:R2):Prop:=
 ∀(pins:List (Addr×Obj)) (s:Shared) (σ:St) (H:Hp) (x y:V) (v u:Value) (Q:VK),Inv X pins σ H s->RelV x v->RelV y u->r x y H Q→
  wpAny (model X.prog X.w) X.A (f v u) (EP X pins σ Q) X.xe s
def UnR(X:Cx)(f:Value->Sem Value)(r:V->Hp->VK->Prop):Prop:=
 ∀(pins:List (Addr×Obj)) (s:Shared) (σ:St) (H:Hp) (x:V) (v:Value) (Q:VK),Inv X pins σ H s->RelV x v->r x H Q→
  wpAny (model X.prog X.w) X.A (f v) (EP X pins σ Q) X.xe s
def QdJ(X:Cx)(f:Value)(r:List V->Hp->VK->Prop):Prop:=
 ∀(pins:List (Addr×Obj)) (s:Shared) (σ:St) (H:Hp) (xs:List V) (us:List Value) (Q:VK),Inv X pins σ H s->QC xs us->r xs H Q→
  wpAny (model X.prog X.w) X.A (call f us) (EP X pins σ Q) X.xe s
def QAk(X:Cx)(r:V->Hp->(Bool->Hp->Prop)->Prop):Prop:=
 ∀(pins:List (Addr×Obj)) (s:Shared) (σ:St) (H:Hp) (x:V) (v:Value) (Q:Bool->Hp->Prop),Inv X pins σ H s->RelV x v->r x H Q→
  wpAny (model X.prog X.w) X.A (truthy v) (TP X pins σ Q) X.xe s
noncomputable def tOp(r:R2)(ta tb:TE):TE:=λσ H Q=>ta σ H λx H1=>tb σ H1 λy H2=>r x y H2 Q
noncomputable def tUn(r:V->Hp->VK->Prop)(ta:TE):TE:=λσ H Q=>ta σ H λx H1=>r x H1 Q
noncomputable def rI(C:Int->Int->Prop)(g:Int->Int->V):R2:=λx y H Q=>∃i j,x= .int i/\y= .int j/\C i j/\Q (g i j) H
noncomputable def rI0(g:Int->Int->V):R2:=λx y H Q=>∃i j,x= .int i/\y= .int j/\Q (g i j) H
noncomputable def rU(g:Int->V):V->Hp->VK->Prop:=λx H Q=>∃i,x= .int i/\Q (g i) H
section
variable {X:Cx}{a b c:Expr}{ta tb tc:TE}{pos:Pos}
theorem Qt2(ha:PE X a ta)(hb:PE X b tb){pins:List (Addr×Obj)}{s:Shared}{σ:St}{H:Hp}{R:V->V->Hp->Prop}(I:Inv X pins σ H s)
  (h:ta σ H λx H1=>tb σ H1 λy H2=>R x y H2) {Q:Value->Shared->Prop}{f:Value->Value->Sem Value}
  (hf:∀v u s2 x y H2,Inv X pins σ H2 s2->RelV x v->RelV y u->R x y H2->wpAny (model X.prog X.w) X.A (f v u) Q X.xe s2):
  wpAny (model X.prog X.w) X.A (eval a X.env) (λv s₁=>wpAny (model X.prog X.w) X.A (eval b X.env) (λu s₂=>wpAny (model X.prog X.w) X.A (f v u) Q X.xe s₂) X.xe s₁) X.xe s:=by
 refine thn (ha pins s σ H _ I h) λv s1 ⟨x,H1,I1,r1,q1⟩=>?_
 refine thn (hb pins s1 σ H1 _ I1 q1) λu s2 ⟨y,H2,I2,r2,q2⟩=>?_
 exact hf v u s2 x y H2 I2 r1 r2 q2
theorem QqY{op:Operator}{r:R2}(ho:OpR X (binaryOp op) r)(ha:PE X a ta)(hb:PE X b tb):PE X (.BinOp a op b pos) (tOp r ta tb):=by
 intro pins s σ H Q I h
 exact wpAny_BinOp (Qt2 ha hb I h λv u s2 x y H2 I2 rx ry q=>ho pins s2 σ H2 x y v u Q I2 rx ry q)
theorem Qzm{op:UnaryOp}{r:V->Hp->VK->Prop}(ho:UnR X (unaryOp op) r)(ha:PE X a ta):PE X (.UnaryOp op a pos) (tUn r ta):=by
 intro pins s σ H Q I h
 exact UnaryOp_ (thn (ha pins s σ H _ I h) λv s1 ⟨x,H1,I1,r1,q1⟩=>ho pins s1 σ H1 x v Q I1 r1 q1)
theorem QAr{op:Operator}{r:R2}(ho:OpR X (inplaceOp op) r){pins:List (Addr×Obj)}{s:Shared}{σ:St}{H:Hp}{x y:V}{v u:Value}{Q:VK}(I:Inv X pins σ H s)
  (rx:RelV x v) (ry:RelV y u) (q:r x y H Q):wpAny (model X.prog X.w) X.A (inplaceOp op v u) (EP X pins σ Q) X.xe s:=ho pins s σ H x y v u Q I rx ry q
theorem opI{f:Value->Value->Sem Value}{C:Int->Int->Prop}{g:Int->Int->Int}
  (rule:∀(i j:Int) (t u:Tok) (s:Shared) (Q:Value->Shared->Prop) (E:Value->Shared->Prop),C i j->Q (.int (g i j) s.toks) {s with toks:=s.toks+1}->wpAny (model X.prog X.w) X.A (f (.int i t) (.int j u)) Q E s):
  OpR X f (rI C λi j=> .int (g i j)):=by
 intro pins s σ H x y v u Q I rx ry h
 obtain⟨i,j,rfl,rfl,hc,q⟩:=h
 obtain⟨t,rfl⟩:=rx
 obtain⟨t',rfl⟩:=ry
 exact rule i j t t' s _ _ hc ⟨.int (g i j),H,I.tok _,⟨_,rfl⟩,q⟩
theorem QqH{f:Value->Value->Sem Value}{g:Int->Int->Int}
  (rule:∀(i j:Int) (t u:Tok) (s:Shared) (Q:Value->Shared->Prop) (E:Value->Shared->Prop),Q (.int (g i j) s.toks) {s with toks:=s.toks+1}->wpAny (model X.prog X.w) X.A (f (.int i t) (.int j u)) Q E s):
  OpR X f (rI0 λi j=> .int (g i j)):=by
 intro pins s σ H x y v u Q I rx ry h
 obtain⟨i,j,rfl,rfl,q⟩:=h
 obtain⟨t,rfl⟩:=rx
 obtain⟨t',rfl⟩:=ry
 exact rule i j t t' s _ _ ⟨.int (g i j),H,I.tok _,⟨_,rfl⟩,q⟩
theorem QqI{f:Value->Value->Sem Value}{g:Int->Int->Bool}
  (rule:∀(i j:Int) (t u:Tok) (s:Shared) (Q:Value->Shared->Prop) (E:Value->Shared->Prop),Q (.bool (g i j)) s->wpAny (model X.prog X.w) X.A (f (.int i t) (.int j u)) Q E s):
  OpR X f (rI0 λi j=> .bl (g i j)):=by
 intro pins s σ H x y v u Q I rx ry h
 obtain⟨i,j,rfl,rfl,q⟩:=h
 obtain⟨t,rfl⟩:=rx
 obtain⟨t',rfl⟩:=ry
 exact rule i j t t' s _ _ ⟨.bl (g i j),H,I,rfl,q⟩
theorem Qw4:OpR X (binaryOp .Add) (rI0 λi j=> .int (i+j)):=QqH λ_ _ _ _ _ _ _ q=>add_int q
theorem Qyv:OpR X (binaryOp .Sub) (rI0 λi j=> .int (i-j)):=QqH λ_ _ _ _ _ _ _ q=>sub_int q
theorem Qvx:OpR X (inplaceOp .Add) (rI0 λi j=> .int (i+j)):=QqH λ_ _ _ _ _ _ _ q=>iadd_int q
theorem Qwv:OpR X (inplaceOp .Sub) (rI0 λi j=> .int (i-j)):=QqH λ_ _ _ _ _ _ _ q=>isub_int q
theorem unI{f:Value->Sem Value}{g:Int->Int}
  (rule:∀(i:Int) (t:Tok) (s:Shared) (Q:Value->Shared->Prop) (E:Value->Shared->Prop),Q (.int (g i) s.toks) {s with toks:=s.toks+1}->wpAny (model X.prog X.w) X.A (f (.int i t)) Q E s):
  UnR X f (rU λi=> .int (g i)):=by
 intro pins s σ H x v Q I rx h
 obtain⟨i,rfl,q⟩:=h
 obtain⟨t,rfl⟩:=rx
 exact rule i t s _ _ ⟨.int (g i),H,I.tok _,⟨_,rfl⟩,q⟩
theorem QyM:UnR X (unaryOp .USub) (rU λi=> .int (-i)):=unI λ_ _ _ _ _ q=>neg_int q
end
section
variable {X:Cx}{a b c:Expr}{ta tb tc:TE}{pos:Pos}
theorem Qzt:OpR X (compareOp .Lt) (rI0 λi j=> .bl (decide (i<j))):=QqI λ_ _ _ _ _ _ _ q=>lt_int q
theorem QyQ:OpR X (compareOp .LtE) (rI0 λi j=> .bl (decide (i<=j))):=QqI λ_ _ _ _ _ _ _ q=>le_int q
theorem QyW:OpR X (compareOp .Gt) (rI0 λi j=> .bl (decide (j<i))):=QqI λ_ _ _ _ _ _ _ q=>gt_int q
theorem Qzl:OpR X (compareOp .GtE) (rI0 λi j=> .bl (decide (j<=i))):=QqI λ_ _ _ _ _ _ _ q=>ge_int q
theorem OpR.or{f:Value->Value->Sem Value}{r r':R2}(h:OpR X f r)(h':OpR X f r'):OpR X f (λx y H Q=>r x y H Q∨r' x y H Q):=by
 intro pins s σ H x y v u Q I rx ry q
 rcases q with q | q
 ·exact h pins s σ H x y v u Q I rx ry q
 ·exact h' pins s σ H x y v u Q I rx ry q
theorem QwS{op:CmpOp}{r:R2}(ho:OpR X (compareOp op) r)(ha:PE X a ta)(hb:PE X b tb)(hm:behindInMarks op b=false):PE X (.Compare a [op] [b] pos) (tOp r ta tb):=by
 intro pins s σ H Q I h
 exact wpAny_Compare1 (Qt2 ha hb I h λv u s2 x y H2 I2 rx ry q=>ho pins s2 σ H2 x y v u Q I2 rx ry q) hm
noncomputable def Qva(t:TE):TT:=λσ H Q=>t σ H λx H'=>∃k,x= .bl k/\Q k H'
theorem QwH{op:CmpOp}{r:R2}(ho:OpR X (compareOp op) r)(ha:PE X a ta)(hb:PE X b tb)(hm:behindInMarks op b=false):PT X (.Compare a [op] [b] pos) (Qva (tOp r ta tb)):=by
 intro pins s σ H Q I h
 refine wpAny_isTrue_Compare1 (thn (ha pins s σ H _ I h) λv s1 ⟨x,H1,I1,r1,q1⟩=>thn (hb pins s1 σ H1 _ I1 q1) λu s2 ⟨y,H2,I2,r2,q2⟩=>
  thn (ho pins s2 σ H2 x y v u _ I2 r1 r2 q2) λc s3 ⟨z,H3,I3,r3,k,e,q3⟩=>?_) hm
 subst e
 cases r3
 exact wpAny_truthy_bool ⟨H3,I3,q3⟩
noncomputable def Qxa(r r':R2)(ta tb tc:TE):TE:=λσ H Q=>ta σ H λx H1=>tb σ H1 λy H2=>r x y H2 λz H3=>∃k,z= .bl k∧
 (if k=true then tc σ H3 λw' H4=>r' y w' H4 Q else Q (.bl false) H3)
theorem Qt8{op op':CmpOp}{r r':R2}(ho:OpR X (compareOp op) r)(ho':OpR X (compareOp op') r')(ha:PE X a ta)(hb:PE X b tb)(hc:PE X c tc)
  (hm:lastMarks [op,op'] [b,c]=false:=by with_unfolding_all rfl):PT X (.Compare a [op,op'] [b,c] pos) (Qva (Qxa r r' ta tb tc)):=by
 intro pins s σ H Q I h
 refine isTrue_chain (thn (ha pins s σ H _ I h) λv s1 ⟨x,H1,I1,r1,q1⟩=>test_link (thn (hb pins s1 σ H1 _ I1 q1) λu s2 ⟨y,H2,I2,r2,q2⟩=>
  thn (ho pins s2 σ H2 x y v u _ I2 r1 r2 q2) λd s3 ⟨z,H3,I3,r3,k,e,q3⟩=>?_)) hm
 subst e
 cases r3
 refine wpAny_truthy_bool ?_
 cases k with
 | false=>
  obtain⟨k',e',q'⟩:=q3
  cases e'
  exact ite_ff ⟨H3,I3,q'⟩
 | true=>
  refine ite_tt (test_last (thn (hc pins s3 σ H3 _ I3 q3) λw' s4 ⟨z',H4,I4,r4,q4⟩=>thn (ho' pins s4 σ H4 y z' u w' _ I4 r2 r4 q4) λd' s5 ⟨z2,H5,I5,r5,k2,e2,q5⟩=>?_))
  subst e2
  cases r5
  exact wpAny_truthy_bool ⟨H5,I5,q5⟩
def QuJ(K:PySem.W.Frag)(x:V)(H:Hp)(k:Bool):Prop:=
 match x with
 | .non=>k=false
 | .bl b=>k=b
 | .int i=>k=(i != 0)
 | .str y=>y.length<=sizeLine/\k=((y.length:Int) != 0)
 | .byt y=>y.size<=sizeLine/\k=((y.size:Int) != 0)
 | .ref p=>(∃xs,SqL K H p xs/\k= !xs.isEmpty)∨(∃xs,SqT K H p xs/\k= !xs.isEmpty)∨∃kvs,H p=some (.dK kvs)/\k= !kvs.isEmpty
 | _=>False
theorem Qql{κ:Type}{kvs:List (κ×V)}{vs:List (κ×Value)}(r:KV kvs vs):(!vs.isEmpty)= !kvs.isEmpty:=by
 cases r<;>rfl
theorem QkC{xs:List V}{its:List Value}(r:QC xs its):(!its.toArray.isEmpty)= !xs.isEmpty:=by
 cases r<;>simp
theorem QgQ:(sizeLine:Nat)<2^63:=by rw[sizeLine_eq];decide
theorem Qj2:QAk X (λx H Q=>∃k,QuJ X.K x H k/\Q k H):=by
 intro pins s σ H x v Q I rx h
 obtain⟨k,e,q⟩:=h
 have hl:=QgQ
 have hs:sizeLine=16777216:=sizeLine_eq
 cases x with
 | non=>
  cases rx
  have e':k=false:=e
  subst e'
  exact truthy_none ⟨H,I,q⟩
 | bl b=>
  cases rx
  have e':k=b:=e
  subst e'
  exact wpAny_truthy_bool ⟨H,I,q⟩
 | int i=>
  obtain⟨t,rfl⟩:=rx
  have e':k=(i != 0):=e
  subst e'
  exact PySem.P.truthy_int ⟨H,I,q⟩
 | str y=>
  obtain⟨t,rfl⟩:=rx
  obtain⟨hy,e'⟩:y.length<=sizeLine/\k=((y.length:Int) != 0):=e
  subst e'
  exact PySem.P.truthy_str (by omega) ⟨H,I.tok _,q⟩
 | byt y=>
  obtain⟨t,rfl⟩:=rx
  obtain⟨hy,e'⟩:y.size<=sizeLine/\k=((y.size:Int) != 0):=e
  subst e'
  exact PySem.W.truthy_bytes (by omega) ⟨H,I.tok _,q⟩
 | ref p=>
  cases rx
  have e':(∃xs,SqL X.K H p xs/\k= !xs.isEmpty)∨(∃xs,SqT X.K H p xs/\k= !xs.isEmpty)∨∃kvs,H p=some (.dK kvs)/\k= !kvs.isEmpty:=e
  rcases e' with⟨xs,hx,e'⟩ | ⟨xs,hx,e'⟩ | ⟨kvs,hx,e'⟩
  ·subst e'
   obtain⟨its,r,pl,hz⟩:=I.list hx
   have hlen:=r.length
   exact wpAny_truthy_list pl.isList (by simp only[Zt];omega) ⟨H,I.tok _,by rw[QkC r];exact q⟩
  ·subst e'
   obtain⟨its,r,pl,hz⟩:=I.tuple hx
   have hlen:=r.length
   exact truthy_tuple pl (by simp only[Zt];omega) ⟨H,I.tok _,by rw[QkC r];exact q⟩
  ·subst e'
   obtain⟨hz,hS,vs,r,m⟩:kvs.length<=sizeLine/\(p == sysModules)=false/\∃vs,KV kvs vs/\s.heap.DictOf (Qlm X.prog X.w) p vs:=I.hok p _ hx
   have hlen:kvs.length=vs.length:=Paired.length r
   exact wpAny_truthy_dict hS m (by omega) ⟨H,I.tok _,by rw[Qql r];exact q⟩
 | _=>exact(show False from e).elim
theorem Qux(ha:PE X a ta)(he:∀whole,isTrue a X.env whole=(do let v ← whole;standAt a.pos;holding [v] (truthy v))):
  PT X a (λσ H Q=>ta σ H λx H'=>∃k,QuJ X.K x H' k/\Q k H'):=by
 intro pins s σ H Q I h
 exact isTrue_plain (thn (ha pins s σ H _ I h) λv s1 ⟨x,H1,I1,r1,q1⟩=>Qj2 pins s1 σ H1 x v Q I1 r1 q1) (he _)
theorem vals1{x:V}{us:List Value}(r:QC [x] us):∃u,us=[u]/\RelV x u:=by
 cases r with
 | cons r1 r2=>cases r2;exact⟨_,rfl,r1⟩
theorem vals2{x y:V}{us:List Value}(r:QC [x,y] us):∃u w',us=[u,w']/\RelV x u/\RelV y w':=by
 cases r with
 | cons r1 r2=>
  cases r2 with
  | cons r3 r4=>cases r4;exact⟨_,_,rfl,r1,r3⟩
theorem Qtd:QdJ X (.builtin "abs") (λxs H Q=>∃i,xs=[.int i]/\Q (.int (if i<0 then-i else i)) H):=by
 intro pins s σ H xs us Q I r h
 obtain⟨i,rfl,q⟩:=h
 obtain⟨u,rfl,t,rfl⟩:=vals1 r
 exact call_abs_int λu tk=>⟨.int (if i<0 then-i else i),H,I.tok _,⟨_,rfl⟩,q⟩
theorem QsO(hc:X.calm=true):QdJ X (.builtin "max") (λxs H Q=>∃i j,xs=[.int i,.int j]/\Q (.int (if j>i then j else i)) H):=by
 intro pins s σ H xs us Q I r h
 obtain⟨i,j,rfl,q⟩:=h
 obtain⟨u,w',rfl,⟨t,rfl⟩,⟨t',rfl⟩⟩:=vals2 r
 refine max_two_ints (I.ok.hd hc) λh' tk k=>⟨_,H,I.kept k,?_,q⟩
 by_cases hj:j>i
 ·rw[if_pos hj,if_pos hj];exact⟨_,rfl⟩
 ·rw[if_neg hj,if_neg hj];exact⟨_,rfl⟩
theorem Qrp(hc:X.calm=true):QdJ X (.builtin "min") (λxs H Q=>∃i j,xs=[.int i,.int j]/\Q (.int (if j<i then j else i)) H):=by
 intro pins s σ H xs us Q I r h
 obtain⟨i,j,rfl,q⟩:=h
 obtain⟨u,w',rfl,⟨t,rfl⟩,⟨t',rfl⟩⟩:=vals2 r
 refine min_two_ints (I.ok.hd hc) λh' tk k=>⟨_,H,I.kept k,?_,q⟩
 by_cases hj:j<i
 ·rw[if_pos hj,if_pos hj];exact⟨_,rfl⟩
 ·rw[if_neg hj,if_neg hj];exact⟨_,rfl⟩
end
end L2
namespace L2
open PySem PySem.Spec PyProof.Rows
structure QAE (h:Heap) (x dx C:Addr) (mA:Str->Option Value):Prop where
 obj:h.get? x=some (PySem.W.instObj C dx)
 ns:h.Ns1 dx mA
 ne:dx≠x
section
variable {prog:Program}{w:World}{A:Around}{E:Value->Shared->Prop}{s:Shared}{K:PySem.W.Frag}{x dx C f:Addr}{mA:Str->Option Value}{name:Str}{v:Value}
end
section
variable {P:Program}{w:World}{H H':Hp}{h h':Heap}{a C dx:Addr}{fs fs':List (Str×V)}
end
structure Cls (K:PySem.W.Frag) (C:Addr):Prop where
 pg:PySem.W.plainGet K C Str.empty=true
 hd:PySem.W.hasDictIn K C=true
 po:PySem.W.plainOver K C=true
 sa:PySem.W.findIn K (.ref C) "__setattr__" =some (some (.builtin "object.__setattr__"))
structure Con (K:PySem.W.Frag) (C:Addr) (f:Str) (v:V) (u:Value):Prop where
 at_:PySem.W.findIn K (.ref C) f=some (some u)
 rel:RelV v u
 get:PySem.W.specialIn K u "__get__" =some none
 cp:PySem.W.copiedNames.contains f=false
structure QAC (K:PySem.W.Frag) (C:Addr) (m:Str) (f:Addr):Prop where
 at_:PySem.W.findIn K (.ref C) m=some (some (.ref f))
 fn:PySem.W.isFn K (.ref f)=true
 kp:PySem.W.keepIn K (.ref f)=true
section
variable {X:Cx}{pins:List (Addr×Obj)}{σ:St}{H:Hp}{s:Shared}{a C dx:Addr}{fs:List (Str×V)}{f:Str}{v:V}{A:Around}{E:Value->Shared->Prop}
end
section
variable {X:Cx}{o e value:Expr}{f:Str}{pos pos' tpos:Pos}{ta tv:TE}
end
section
variable {X:Cx}{pins:List (Addr×Obj)}{σ:St}{H:Hp}{s:Shared}{A:Around}{E:Value->Shared->Prop}{Q:Value->Shared->Prop}{c:Value}{b:Bool}
end
end L2
namespace L2
open PySem PySem.Spec PyProof.Rows
structure QbH (k:Nat) (A:Around):Prop where
 hd:A.handled=none
 dp:A.depth+3*k+5<recursionLimit
 un:A.units+16*k+200<cLine
theorem QbH.mono{j k:Nat}{A:Around}(r:QbH k A)(h:j<=k):QbH j A:=⟨r.hd,by have:=r.dp;omega,by have:=r.un;omega⟩
theorem QbH.deeper{k:Nat}{A:Around}(r:QbH (k+1) A)(env:Env):QbH k (A.deeper env):=
 ⟨r.hd,by have:=r.dp;show A.depth+1+3*k+5<_;omega,by have:=r.un;show A.units+3+16*k+200<_;omega⟩
theorem QbH.depth{k:Nat}{A:Around}(r:QbH k A):A.depth<recursionLimit:=by have:=r.dp;omega
theorem QbH.units{k:Nat}{A:Around}(r:QbH k A):A.units+64<cLine:=by have:=r.un;omega
noncomputable def QfF:TA:=λ_ H Q=>Q [] H
noncomputable def QcH(ta:TE)(tr:TA):TA:=λσ H Q=>ta σ H λx H1=>tr σ H1 λxs H2=>Q (x::xs) H2
section
variable {X:Cx}{e:Expr}{es:List Expr}{te:TE}{t:TA}{pos:Pos}
theorem QbZ:PA X [] QfF:=λ_ _ _ _ H Q I h=>Calls.spliced_nil ⟨[],H,I,.nil,h⟩
theorem Q9(ha:PE X e te)(hr:PA X es t)(hs:starEach (e::es) X.env=(false,eval e X.env)::starEach es X.env:=by rfl):PA X (e::es) (QcH te t):=by
 intro pos pins s σ H Q I h
 rw[hs]
 show wpAny _ _ (spliced ((false,eval e X.env)::backTo pos (starEach es X.env))) _ _ s
 refine Calls.spliced_cons (thn (ha pins s σ H _ I h) λu s1 ⟨x,H1,I1,r1,q1⟩=>?_)
 exact thn (hr pos pins s1 σ H1 _ I1 q1) λus s2 ⟨xs,H2,I2,r2,q2⟩=>⟨x::xs,H2,I2,.cons r1 r2,q2⟩
noncomputable def Qw2(t:TA):TE:=λσ H Q=>t σ H λxs H1=>xs.length<=sizeLine/\∀p,H1 p=none->Q (.ref p) (upd H1 p (.tup xs))
noncomputable def Qz4(t:TA):TE:=λσ H Q=>t σ H λxs H1=>xs.length<=sizeLine/\∀p,H1 p=none->Q (.ref p) (upd H1 p (.lst xs))
theorem Qsy{x1}(h:PA X es t):PE X (.Tuple es x1 pos) (Qw2 t):=by
 intro pins s σ H Q I hq
 refine wpAny_Tuple_spliced (thn (h pos pins s σ H _ I hq) λus s1 ⟨xs,H1,I1,r,z,q⟩=>⟨by rw[← r.length];exact z,?_⟩)
 have hf:H1 s1.heap.objs.size=none:=I1.hok.fresh (Zi _)
 refine⟨.ref s1.heap.objs.size,upd H1 s1.heap.objs.size (.tup xs),I1.laid (t':=s1.toks) (λb u e=>Zb _ e) (Zi _) ?_,rfl,q _ hf⟩
 exact⟨z,us,r,⟨_,ZA _ rfl,rfl,_,rfl⟩⟩
theorem QxX(h:PA X es t):PE X (.List es pos) (Qz4 t):=by
 intro pins s σ H Q I hq
 refine wpAny_List_spliced (thn (h pos pins s σ H _ I hq) λus s1 ⟨xs,H1,I1,r,z,q⟩=>⟨by rw[← r.length];exact z,?_⟩)
 have hf:H1 s1.heap.objs.size=none:=I1.hok.fresh (Zi _)
 refine⟨.ref s1.heap.objs.size,upd H1 s1.heap.objs.size (.lst xs),I1.laid (t':=s1.toks) (λb u e=>Zb _ e) (Zi _) ?_,rfl,q _ hf⟩
 exact⟨z,us,0,r,ZA _ rfl⟩
end
noncomputable abbrev Sp:=List V->Hp->VK->XK->Prop
noncomputable abbrev CXT:=List Env->Hp->Shared->XK->Value->Shared->Prop
structure QqB (P:Program) (w:World) (K:PySem.W.Frag) (mg:Str->Option Value) (base:Heap) (A:Around) (outer:List Env) (s:Shared) (H:Hp):Prop where
 frames:A.frames=some outer
 mod:Mod K mg base
 bs:∀b o,base.get? b=some o->s.heap.get? b=some o/\H b=none
 bsz:base.objs.size<=s.heap.objs.size
 Qf0:s.heap.FunFrames base outer
 frf:∀b∈frs outer,H b=none
 hok:HOk P w H s.heap
 bare:AllBare s.gens
def CE(outer:List Env)(P:Program)(w:World)(H:Hp)(s:Shared)(Q:VK)(u:Value)(s':Shared):Prop:=
 ∃v H',s'.os=s.os/\AllBare s'.gens/\Un (frs outer) [] H H' s.heap s'.heap/\HOk P w H' s'.heap/\RelV v u/\Q v H'
def CR(CX:CXT)(outer:List Env)(P:Program)(w:World)(H:Hp)(s:Shared)(Q:VK)(E:XK)(r:Result)(s':Shared):Prop:=
 match r with
 | .ok (.ret u)=>CE outer P w H s Q u s'
 | .ok _=>False
 | .error e=>CX outer H s E e s'
structure QdE (P:Program) (w:World) (K:PySem.W.Frag) (mg:Str->Option Value) (base:Heap) (CX:CXT) (k:Nat) (f:Addr) (fd:FuncData) (ps:List Str) (sp:Sp):Prop where
 len:∀vs H Q E,sp vs H Q E->vs.length=ps.length
 run:∀(A:Around) (outer:List Env) (s:Shared) (H:Hp) (args:Args) (us:List Value) (vs:List V) (Q:VK) (E:XK),QbH k A->QqB P w K mg base A outer s H->BindsTo s fd args (ps.zip us)->QC vs us->sp vs H Q E→
  codeAny (model P w) A (.call (.ref f) args) (CR CX outer P w H s Q E) s
theorem QdE.mono{P:Program}{w:World}{K:PySem.W.Frag}{mg:Str->Option Value}{base:Heap}{CX:CXT}{j k:Nat}{f:Addr}{fd:FuncData}{ps:List Str}{sp:Sp}(F:QdE P w K mg base CX j f fd ps sp)(h:j<=k):
  QdE P w K mg base CX k f fd ps sp:=⟨F.len,λA outer s H args us vs Q E hr=>F.run A outer s H args us vs Q E (hr.mono h)⟩
section
variable {X:Cx}{pins:List (Addr×Obj)}{σ:St}{H:Hp}{s s':Shared}
theorem Inv.QAc(I:Inv X pins σ H s):QqB X.prog X.w X.K X.mg X.base X.A X.stack s H:=
 ⟨I.ok.frames,I.ok.mod,I.bs,Zx I.ok.bsz I.sz,I.stack,I.QpT,I.hok,I.bare⟩
theorem Inv.after{Q:VK}{u:Value}(I:Inv X pins σ H s)(h:CE X.stack X.prog X.w H s Q u s'):EP X pins σ Q u s':=by
 obtain⟨v,H',os,bare,un,hok,r,q⟩:=h
 obtain⟨hh,g,d,t,os'⟩:=s'
 obtain rfl:os'=s.os:=os
 exact⟨v,H',I.call (h':=hh) (g':=g) (d':=d) (t':=t) (ch:=[]) un hok bare (λb z=>absurd z (by simp)),r,q⟩
end
noncomputable def QqJ(sp:Sp)(dvs:List V)(E:XK)(t:TA):TE:=λσ H Q=>t σ H λvs H1=>sp (vs++dvs) H1 Q E
def Binds(K:PySem.W.Frag)(fd:FuncData)(ps:List Str)(ds:List Value):Prop:=
 ∀(s:Shared) (us:List Value),K.In s.heap->(us++ds).length=ps.length->BindsTo s fd ⟨us,[]⟩ (ps.zip (us++ds))
theorem Binds.all{K:PySem.W.Frag}{fd:FuncData}{ps:List Str}(h:∀us:List Value,us.length=ps.length->bindArgs fd ⟨us,[]⟩=pure (ps.zip us)):Binds K fd ps []:=λs us _ hl=>by
 rw[ZaS]at hl ⊢
 exact .of_eq (h us hl)
def Qj9(CX:CXT)(X:Cx)(E:XK):Prop:=∀(pins:List (Addr×Obj)) (σ:St) (H:Hp) (s:Shared) (e:Value) (s':Shared),Inv X pins σ H s->CX X.stack H s E e s'->X.xe e s'
section
variable {X:Cx}{CX:CXT}{k:Nat}{f C:Addr}{fd:FuncData}{ps:List Str}{sp:Sp}{dvs:List V}{ds:List Value}{E:XK}{x m:Str}{p pos apos:Pos}{e o:Expr}{es:List Expr}{ta:TE}{t:TA}
theorem Qrn{pins:List (Addr×Obj)}{σ:St}{H:Hp}{s:Shared}{Q:VK}{us:List Value}{vs:List V}(F:QdE X.prog X.w X.K X.mg X.base CX k f fd ps sp)(hr:QbH k X.A)(hb:Binds X.K fd ps ds)(hd:QC dvs ds)(hx:Qj9 CX X E)
  (I:Inv X pins σ H s) (r:QC vs us) (h:sp (vs++dvs) H Q E):wpAny (model X.prog X.w) X.A (call (.ref f) us) (EP X pins σ Q) X.xe s:=by
 have r2:QC (vs++dvs) (us++ds):=r.append hd
 have hl:(us++ds).length=ps.length:=by rw[← r2.length];exact F.len _ _ _ _ h
 refine wpAny_call (codeAny_mono (F.run X.A X.stack s H ⟨us,[]⟩ (us++ds) (vs++dvs) Q E hr I.QAc (hb s us I.kIn hl) r2 h) λr s' hq=>?_)
 cases r with
 | error e=>exact hx pins σ H s e s' I hq
 | ok fl=>
  cases fl with
  | ret u=>exact I.after hq
  | next=>exact False.elim hq
  | brk=>exact False.elim hq
  | cont=>exact False.elim hq
theorem Qwx(F:QdE X.prog X.w X.K X.mg X.base CX k f fd ps sp)(hr:QbH k X.A)(hg:Gl X x)(hm:X.mg x=some (.ref f))(hk:PySem.W.keepIn X.K (.ref f)=true)(hb:Binds X.K fd ps ds)(hd:QC dvs ds)(hx:Qj9 CX X E)
  (ha:PA X (e::es) t) (hdb:(x == ("__debug__" :Str))=false:=by decide) (he:starEach (e::es) X.env=(false,eval e X.env)::starEach es X.env:=by rfl) (hpl:(backTo pos (starEach es X.env)).any (·.1)=false:=by rfl):
  PE X (.Call (.Name x p) (e::es) [] pos) (QqJ sp dvs E t):=by
 intro pins s σ H Q I h
 refine wpAny_Call_Name_kw (Qk7 I hg hm ?_ hdb)
 refine PySem.W.callWith_K (h₀:=X.base) I.ok.mod.kin hk (thn (ha pos pins s σ H _ I h) λus s1 ⟨vs,H1,I1,r,q⟩=>⟨I1.kIn,?_⟩) he hpl
 exact Qrn F hr hb hd hx I1 r q
theorem Qtj(F:QdE X.prog X.w X.K X.mg X.base CX k f fd ps sp)(hr:QbH k X.A)(hg:Gl X x)(hm:X.mg x=some (.ref f))(hk:PySem.W.keepIn X.K (.ref f)=true)(hb:Binds X.K fd ps ds)(hd:QC dvs ds)(hx:Qj9 CX X E)
  (hdb:(x == ("__debug__" :Str))=false:=by decide):PE X (.Call (.Name x p) [] [] pos) (QqJ sp dvs E QfF):=by
 intro pins s σ H Q I h
 refine wpAny_Call_Name_kw (Qk7 I hg hm ?_ hdb)
 exact PySem.W.callWith_K0 I.kIn hk (Qrn (us:=[]) F hr hb hd hx I .nil h)
structure Mk (K:PySem.W.Frag) (C f:Addr):Prop where
 makes:PySem.W.makesIn K C=true
 init:PySem.W.findIn K (.ref C) "__init__" =some (some (.ref f))
 fn:PySem.W.isFn K (.ref f)=true
 kp:PySem.W.keepIn K (.ref C)=true
end
section
variable {X:Cx}{CX:CXT}{k:Nat}{f C:Addr}{fd:FuncData}{ps ks:List Str}{sp:Sp}{E:XK}{x m:Str}{p pos apos kpos:Pos}{e o:Expr}{es:List Expr}{kws:List Keyword}{te ta:TE}{t tk:TA}{nm:Option Str}
structure QAB (K:PySem.W.Frag) (fd:FuncData) (ps ks:List Str) (g:List Value->List Value->List Value) (gV:List V->List V->List V):Prop where
 to:∀(s:Shared) (us ws:List Value),K.In s.heap->(g us ws).length=ps.length->BindsTo s fd ⟨us,ks.zip ws⟩ (ps.zip (g us ws))
 rel:∀{vs:List V}{us:List Value}{zs:List V}{ws:List Value},QC vs us->QC zs ws->QC (gV vs zs) (g us ws)
variable {g:List Value->List Value->List Value}{gV:List V->List V->List V}
end
structure Qdt (N P:List Str) (sc:Scope):Prop where
 kind:sc.kind= .function
 co:sc.isCoroutine=false
 gen:sc.isGenerator=false
 nd:N.Nodup
 pre:N.take P.length=P
 par:∀x∈P,sc.names.lookup x=some .local ∨sc.names.lookup x=some .cell
 nofree:∀y∈sc.names,y.2≠ .free
theorem QlS{kindOf:Str->Option NameKind}{x:Str}:∀{binds:List (Str×Value)}{m:Str->Option Value},(∀v,(x,v)∉binds)->bindL kindOf binds m x=m x
 | [],_,_=>rfl
 | (n,v)::r,m,h=>by
  unfold bindL
  rw[QlS λw hw=>h w (Ze _ hw)]
  split
  ·have:x≠n:=by rintro rfl;exact h v Zo
   simp[this]
  ·rfl
theorem QlV{kindOf:Str->Option NameKind}{x:Str}:∀{binds:List (Str×Value)}{m:Str->Option Value},(∀v,(x,v)∉binds)->bindC kindOf binds m x=m x
 | [],_,_=>rfl
 | (n,v)::r,m,h=>by
  unfold bindC
  rw[QlV λw hw=>h w (Ze _ hw)]
  split
  ·rfl
  ·have:x≠n:=by rintro rfl;exact h v Zo
   simp[this]
theorem Qmb{kindOf:Str->Option NameKind}{x:Str}{v:Value}:∀{P:List Str}{vs:List Value}{i:Nat}{m:Str->Option Value},P.Nodup->P[i]? =some x->vs[i]? =some v->kindOf x=some .local →
  bindL kindOf (P.zip vs) m x=some v
 | [],_,_,_,_,h,_,_=>by simp at h
 | _::_,[],_,_,_,_,h,_=>by simp at h
 | p::P,w::vs,0,m,nd,h1,h2,hk=>by
  simp at h1 h2;subst h1;subst h2
  show bindL kindOf ((p,w)::P.zip vs) m p=_
  unfold bindL
  rw[QlS λv hv=>(Zau.mp nd).1 (Zci hv).1,if_pos hk]
  simp
 | p::P,w::vs,i+1,m,nd,h1,h2,hk=>by
  show bindL kindOf ((p,w)::P.zip vs) m x=_
  unfold bindL
  exact Qmb (i:=i) (Zau.mp nd).2 (by simpa using h1) (by simpa using h2) hk
theorem QlQ{kindOf:Str->Option NameKind}{x:Str}{v:Value}:∀{P:List Str}{vs:List Value}{i:Nat}{m:Str->Option Value},P.Nodup->P[i]? =some x->vs[i]? =some v->kindOf x≠some .local →
  bindC kindOf (P.zip vs) m x=some v
 | [],_,_,_,_,h,_,_=>by simp at h
 | _::_,[],_,_,_,_,h,_=>by simp at h
 | p::P,w::vs,0,m,nd,h1,h2,hk=>by
  simp at h1 h2;subst h1;subst h2
  show bindC kindOf ((p,w)::P.zip vs) m p=_
  unfold bindC
  rw[QlV λv hv=>(Zau.mp nd).1 (Zci hv).1,if_neg hk]
  simp
 | p::P,w::vs,i+1,m,nd,h1,h2,hk=>by
  show bindC kindOf ((p,w)::P.zip vs) m x=_
  unfold bindC
  exact QlQ (i:=i) (Zau.mp nd).2 (by simpa using h1) (by simpa using h2) hk
noncomputable def start(N:List Str)(vs:List V):St:=vs.map some++List.replicate (N.length-vs.length) none
noncomputable def QhT(CX:CXT)(P:Program)(w:World)(K:PySem.W.Frag)(mg:Str->Option Value)(base:Heap)(N:List Str)(qual:Str)(scope:Scope)(f:Addr)(cd:Value)(A:Around)(outer:List Env)(s:Shared)(H:Hp)(E:XK):Cx where
 prog:=P
 w:=w
 K:=K
 mg:=mg
 base:=base
 A:=A.deeper (envOfC qual scope s.heap.objs.size f cd)
 N:=N
 s₀:=s
 H₀:=H
 env:=envOfC qual scope s.heap.objs.size f cd
 outer:=outer
 stack:=envOfC qual scope s.heap.objs.size f cd::outer
 ex:=[]
 calm:=decide (A.handled=none)
 fn:=λ_=>true
 pn:=[]
 xe:=λe s'=>wpAny (model P w) (A.deeper (envOfC qual scope s.heap.objs.size f cd)) (leaving (envOfC qual scope s.heap.objs.size f cd) e) (λ_ s''=>CX outer H s E e s'') (λe' s''=>CX outer H s E e' s'') s'
theorem QmY{sc:Scope}{n:Nat}{x:Str}(h:sc.names.lookup x=some .cell):∃c,(cellsFrom n sc.names []).lookup x=some c:=by
 have q:=Zcc sc.names n [] (.inl h)
 exact ZbO.mp q
theorem QrQ{CX:CXT}{P:Program}{w:World}{K:PySem.W.Frag}{mg:Str->Option Value}{base:Heap}{N ps:List Str}{qual:Str}{scope:Scope}{f:Addr}{cd:Value}{A:Around}{outer:List Env}{s s1:Shared}{H:Hp}{E:XK}{us:List Value}{vs:List V}
  (S:Qdt N ps scope) (e0:QqB P w K mg base A outer s H) (hl:vs.length=ps.length) (r:QC vs us)
  (x:InCallC s s.heap.objs.size (bindL (envOfC qual scope s.heap.objs.size f cd).kindOf (ps.zip us) λ_=>none) (cellsFrom (s.heap.objs.size+1) scope.names []) (bindC (envOfC qual scope s.heap.objs.size f cd).kindOf (ps.zip us) λ_=>none) s1):
  Inv (QhT CX P w K mg base N qual scope f cd A outer s H E) [] (start N vs) H s1:=by
 have hpl:ps.length<=N.length:=by have:=congrArg List.length S.pre;rw[Zad]at this;omega
 obtain⟨h1,tk,rfl,hk⟩:=x.done
 have noA:∀b:Addr,b∉(QhT CX P w K mg base N qual scope f cd A outer s H E).ex:=λb z=>absurd (show b∈([]:List Addr)from z) (by simp)
 refine⟨⟨e0.mod,S.kind,rfl,rfl,Zi _,λy z c h1 h2=>?_,λy hy=>?_,λy c _ h=>?_,λh=>of_decide_eq_true h,Around.frames_deeper e0.frames,.inr ⟨rfl,rfl⟩,λb z=>absurd z (noA b),e0.bs,e0.bsz,λb _ _=>noA b,λb z=>absurd z (noA b),e0.Qf0,e0.frf⟩,
  rfl,e0.bare,Un.kept hk,⟨_,x.toInCall.ns,λi y v h1 h2 h3=>?_⟩,λy c h=>⟨_,x.cell y c h⟩,e0.hok.fresh (Zi _),λy c h=>?_,λp hp=>absurd (show p∈([]:List (Addr×Obj))from hp) (by simp),e0.hok.kept hk,?_⟩
 ·exact name_of_addr x.apart (Zae h1) (Zae h2)
 ·have hy:scope.names.lookup y=some .cell∨scope.names.lookup y=some .free:=hy
  rcases hy with hy | hy
  ·exact QmY hy
  ·exact absurd rfl (S.nofree _ (Zae hy))
 ·exact Zbc (x.above y c (Zae h))
 ·have hi:i<vs.length:=by
   unfold start at h2
   by_cases hi:i<vs.length
   ·exact hi
   ·rw[Zba (by simpa using hi)]at h2
    rw[ZbS]at h2
    split at h2<;>cases h2
  have ha:vs[i]? =some v:=by
   unfold start at h2
   rw[Zaj (by simpa using hi),Zl]at h2
   cases e:vs[i]? with
   | none=>rw[e]at h2;cases h2
   | some a=>rw[e]at h2;cases h2;rfl
  obtain⟨u,hu,rv⟩:=r.get ha
  have hp:ps[i]? =some y:=by
   rw[← S.pre,List.getElem?_take_of_lt (by omega)];exact h1
  have ndP:ps.Nodup:=by rw[← S.pre];exact S.nd.sublist (List.take_sublist _ _)
  refine⟨u,rv,?_⟩
  rcases S.par y (ZP hp)with k | k
  ·exact .inl ⟨k,Qmb ndP hp hu k⟩
  ·obtain⟨c,e⟩:=QmY (n:=s.heap.objs.size+1) k
   refine .inr ⟨.inl k,c,e,?_⟩
   have q:=x.cell y c e
   rw[QlQ ndP hp hu (by show scope.names.lookup y≠_;rw[k];decide)]at q
   exact q
 ·exact e0.hok.fresh (Zbc (x.above y c (Zae h)))
 ·unfold start
  show _=N.length
  rw[Zr,Zp,List.length_replicate]
  omega
theorem Qzk{CX:CXT}{P:Program}{w:World}{K:PySem.W.Frag}{mg:Str->Option Value}{base:Heap}{k:Nat}{f:Addr}{name qual:Str}{params:Arguments}{body:List Stmt}{scope:Scope}{dV kV doc pm cdv ct oc:Value}{an od:Option Addr}
  {osl:Array (Option Value)}{N ps:List Str}{sp:Sp}(lk:K.lookup f=some ⟨oc,od,.func (PySem.W.fnOf name qual params body scope dV kV doc pm an cdv ct),osl⟩) (hcd:PySem.W.codeIn K cdv qual=true) (S:Qdt N ps scope)
  (len:∀vs H Q E,sp vs H Q E->vs.length=ps.length)
  (hbody:∀(A:Around) (outer:List Env) (s:Shared) (H:Hp) (vs:List V) (Q:VK) (E:XK),QbH k (A.deeper (envOfC qual scope s.heap.objs.size f cdv))->sp vs H Q E→
   ∃t,PSs (QhT CX P w K mg base N qual scope f cdv A outer s H E) body t/\t {nx:=λ_ H'=>Q .non H',rt:=Q} (start N vs) H):
  QdE P w K mg base CX (k+1) f (PySem.W.fnOf name qual params body scope dV kV doc pm an cdv ct) ps sp:=by
 refine⟨len,λA outer s H args us vs Q E hr e0 hb r hsp=>?_⟩
 have hl:=len _ _ _ _ hsp
 have KX:K.In s.heap:=e0.mod.kin.keeps λb o e=>(e0.bs b o e).1
 have lim:s.heap.NoLimit:=e0.mod.nolimit.keeps λb o e=>(e0.bs b o e).1
 have hkind:∀y∈ps.zip us,scope.names.lookup y.1=some .local ∨(scope.names.lookup y.1=some .cell/\((cellsFrom (s.heap.objs.size+1) scope.names []).lookup y.1).isSome=true):=λ⟨n,v⟩ hy=>by
  rcases S.par n (Zci hy).1 with q | q
  ·exact .inl q
  ·exact .inr ⟨q,Zcc _ _ _ (.inl q)⟩
 refine codeAny_call_function hr.depth (KX _ _ lk) rfl S.co S.gen rfl (PySem.W.codeRec_of KX hcd) (hb _ _ _ _ ?_)
 refine wpAny_newFunctionEnv_cells S.kind hkind λenv he s1 x=>?_
 subst he
 refine⟨lim.keeps x.toInCall.keep,codeAny_func ?_⟩
 obtain⟨t,ht,hq⟩:=hbody A outer s H vs Q E (hr.deeper _) hsp
 have I:Inv (QhT CX P w K mg base N qual scope f cdv A outer s H E) [] (start N vs) H s1:=QrQ S e0 hl r x
 refine wpAny_mono (ht [] s1 (start N vs) H _ I hq) (λfl s' hs=>?_) λe s' hs=>hs
 have fin:∀{σ':St}{H':Hp}{v:V}{u:Value},Inv (QhT CX P w K mg base N qual scope f cdv A outer s H E) [] σ' H' s'->RelV v u->Q v H'->CE outer P w H s Q u s':=
  λ{σ' H' v u} J rv q=>⟨v,H',J.os,J.bare,J.base,J.hok,rv,q⟩
 cases fl with
 | ret u=>
  obtain⟨v,σ',H',J,rv,q⟩:=hs
  exact fin J rv q
 | next=>
  obtain⟨σ',H',J,q⟩:=hs
  exact fin (v:=V.non) (u:=Value.none) J rfl q
 | brk=>
  obtain⟨_,_,_,q⟩:=hs
  exact False.elim q
 | cont=>
  obtain⟨_,_,_,q⟩:=hs
  exact False.elim q
end L2
namespace L2
open PySem PySem.Spec PyProof.Rows
section
variable {X:Cx}{x:Str}{p pos:Pos}{e:Expr}{es:List Expr}{t:TA}{id T:String}{r:List V->Hp->VK->Prop}
noncomputable def tCB(r:List V->Hp->VK->Prop)(t:TA):TE:=λσ H Q=>t σ H λvs H1=>r vs H1 Q
theorem QjL(hc:QdJ X (.builtin id) r)(hg:Gl X x)(hm:X.mg x=none)(hv:bootBuiltins x=some (.builtin id))(ha:PA X (e::es) t)(hn:x≠ "__name__" :=by decide)(hdb:(x == ("__debug__" :Str))=false:=by decide)
  (he:starEach (e::es) X.env=(false,eval e X.env)::starEach es X.env:=by rfl) (hpl:(backTo pos (starEach es X.env)).any (·.1)=false:=by rfl):PE X (.Call (.Name x p) (e::es) [] pos) (tCB r t):=by
 intro pins s σ H Q I h
 refine wpAny_Call_Name_kw (Qdg I hg hm hv ?_ hn hdb)
 exact PyProof.Rows.callWith_builtin1 (thn (ha pos pins s σ H _ I h) λus s1 ⟨vs,H1,I1,r1,q1⟩=>hc pins s1 σ H1 vs us Q I1 r1 q1) he hpl
theorem Qie(hc:QdJ X (.type T) r)(hg:Gl X x)(hm:X.mg x=none)(hv:bootBuiltins x=some (.type T))(ha:PA X (e::es) t)(hn:x≠ "__name__" :=by decide)(hdb:(x == ("__debug__" :Str))=false:=by decide)
  (he:starEach (e::es) X.env=(false,eval e X.env)::starEach es X.env:=by rfl) (hpl:(backTo pos (starEach es X.env)).any (·.1)=false:=by rfl):PE X (.Call (.Name x p) (e::es) [] pos) (tCB r t):=by
 intro pins s σ H Q I h
 refine wpAny_Call_Name_kw (Qdg I hg hm hv ?_ hn hdb)
 exact ZN (thn (ha pos pins s σ H _ I h) λus s1 ⟨vs,H1,I1,r1,q1⟩=>hc pins s1 σ H1 vs us Q I1 r1 q1) he hpl
end
end L2
namespace HT
open PySem PyProof.Rows
section
open PySem.SeqAt
open PySem.AutoSeq1 (wpAny_loadPart')
open PySem.MeetsSeq PySem.MeetsSeq2 PySem.MeetsSeq3
end
section
variable {prog:Program}{w:World}{A:Around}{E:Value->Shared->Prop}{s:Shared}
noncomputable def sIx(n d:Nat):Option Int->Nat
 | none=>d
 | some v=>if v<0 then(v+(n:Int)).toNat else min v.toNat n
theorem Qeu(n d:Nat):sIx n d none=d:=rfl
theorem Qew(n d k:Nat):sIx n d (some (k:Int))=min k n:=by
 show(if(k:Int)<0 then((k:Int)+(n:Int)).toNat else min (k:Int).toNat n)=min k n
 rw[if_neg (by omega),ZW]
end
end HT
namespace L2
open PySem PySem.Spec PyProof.Rows
noncomputable abbrev TO:=St->Hp->(Option Int->Hp->Prop)->Prop
def PO(X:Cx)(e:Option Expr)(t:TO):Prop:=
 ∀(pins:List (Addr×Obj)) (s:Shared) (σ:St) (H:Hp) (Q:Option Int->Hp->Prop),Inv X pins σ H s->t σ H Q→
  wpAny (model X.prog X.w) X.A (evalPart e X.env) (λu s'=>∃o H',Inv X pins σ H' s'/\IsPart u o/\Q o H') X.xe s
noncomputable def QwA:TO:=λ_ H Q=>Q none H
noncomputable def Qy4(t:TE):TO:=λσ H Q=>t σ H λx H1=>∃i,x= .int i/\Q (some i) H1
theorem intsAre_of{ns:List Int}:∀{us:List Value},QC (ns.map V.int) us->IntsAre us ns:=by
 induction ns with
 | nil=>intro us r;rw[List.map_nil]at r;cases r;exact .nil
 | cons n ns ih=>
  intro us r
  rw[ZM]at r
  cases r with
  | cons r1 r2=>
   obtain⟨t,e⟩:=r1
   subst e
   exact .cons n t (ih r2)
section
variable {X:Cx}{e:Expr}{te:TE}{lo hi:Option Expr}{tl th:TO}{pos p2:Pos}
theorem Qvn:PO X none QwA:=by
 intro pins s σ H Q I h
 rw[evalPart_none]
 exact wpAny_pure ⟨none,H,I,.none,h⟩
theorem Qv4(h:PE X e te):PO X (some e) (Qy4 te):=by
 intro pins s σ H Q I hw
 rw[evalPart_some]
 refine thn (h pins s σ H _ I hw) λu s1 ⟨x,H1,I1,r1,q1⟩=>?_
 obtain⟨i,rfl,q⟩:=q1
 obtain⟨t,rfl⟩:=r1
 exact⟨some i,H1,I1,.int i t,q⟩
def SlR(X:Cx)(r:V->Option Int->Option Int->Hp->VK->Prop):Prop:=
 ∀(pins:List (Addr×Obj)) (s:Shared) (σ:St) (H:Hp) (x:V) (v vl vu:Value) (lo hi:Option Int) (sl:Addr) (Q:VK),Inv X pins σ H s->RelV x v->s.heap.IsSliceOf sl vl vu .none->IsPart vl lo->IsPart vu hi->r x lo hi H Q→
  ∃T id,typeLookup (.type T) "__getitem__" =pure (some (.builtin id))/\s.TypeIs v T/\wpAny (model X.prog X.w) X.A (getItem v (.ref sl)) (EP X pins σ Q) X.xe s
noncomputable def tSl(r:V->Option Int->Option Int->Hp->VK->Prop)(te:TE)(tl th:TO):TE:=λσ H Q=>te σ H λx H1=>tl σ H1 λl H2=>th σ H2 λu H3=>r x l u H3 Q
theorem Qun{r:V->Option Int->Option Int->Hp->VK->Prop}(hr:SlR X r)(he:PE X e te)(hl:PO X lo tl)(hu:PO X hi th):PE X (.Subscript e (.Slice lo hi none p2) pos) (tSl r te tl th):=by
 intro pins s σ H Q I h
 refine Subscript_ (thn (he pins s σ H _ I h) λv s1 ⟨x,H1,I1,r1,q1⟩=>?_)
 refine wpAny_Slice (thn (hl pins s1 σ H1 _ I1 q1) λvl s2 ⟨l,H2,I2,pl,q2⟩=>thn (hu pins s2 σ H2 _ I2 q2) λvu s3 ⟨u,H3,I3,pu,q3⟩=>?_)
 rw[evalPart_none]
 refine wpAny_pure ?_
 have I4:Inv X pins σ H3 {s3 with heap:=s3.heap.push {cls:= .type "slice",data:= .fields #[vl,vu,.none]}}:=I3.kept (t':=s3.toks) λb ob q=>Zb _ q
 obtain⟨T,id,hT,ht,hg⟩:=hr pins {s3 with heap:=s3.heap.push {cls:= .type "slice",data:= .fields #[vl,vu,.none]}} σ H3 x v vl vu l u s3.heap.objs.size Q I4 r1 (Heap.IsSliceOf.new ..) pl pu q3
 show wpAny (model X.prog X.w) X.A (subscriptTail e (.Slice lo hi none p2) v (.ref s3.heap.objs.size)) (EP X pins σ Q) X.xe {s3 with heap:=s3.heap.push {cls:= .type "slice",data:= .fields #[vl,vu,.none]}}
 exact tail_any (ops:=[.ref s3.heap.objs.size,v]) ht hT hg (by with_unfolding_all rfl)
noncomputable def Qlj(xs:List V)(lo hi:Option Int):List V:=(xs.drop (HT.sIx xs.length 0 lo)).take (HT.sIx xs.length xs.length hi-HT.sIx xs.length 0 lo)
theorem Qo3(xs:List V)(lo hi:Option Int):(Qlj xs lo hi).length<=xs.length:=by
 unfold Qlj
 rw[Zad,ZaH]
 omega
end
end L2
namespace L2
open PySem PySem.Spec PyProof.Rows
noncomputable def ixN(n:Nat)(i:Int):Option Nat:=if 0<=i then(if i<n then some i.toNat else none)else if-(n:Int)<=i then some (i+n).toNat else none
noncomputable def atI{α:Type}(xs:List α)(i:Int):Option α:=(ixN xs.length i).bind λj=>xs[j]?
theorem Qcs{n:Nat}{i:Int}{j:Nat}(h:ixN n i=some j):seqIndex? i n=some j/\j<n/\ -(n:Int)<=i/\i<n:=by
 unfold ixN at h
 by_cases h0:0<=i
 ·rw[if_pos h0]at h
  by_cases h1:i<n
  ·rw[if_pos h1]at h
   have e:i.toNat=j:=Option.some.inj h
   exact⟨by rw[seqIndex_of h0 h1,e],by omega,by omega,h1⟩
  ·rw[if_neg h1]at h;cases h
 ·rw[if_neg h0]at h
  by_cases h1: -(n:Int)<=i
  ·rw[if_pos h1]at h
   have e:(i+n).toNat=j:=Option.some.inj h
   exact⟨by rw[seqIndex_neg (by omega) h1,e],by omega,h1,by omega⟩
  ·rw[if_neg h1]at h;cases h
theorem Qk5{α:Type}{xs:List α}{i:Int}{v:α}(h:atI xs i=some v):∃j,seqIndex? i xs.length=some j/\xs[j]? =some v/\j<xs.length/\ -(xs.length:Int)<=i/\i<xs.length:=by
 unfold atI at h
 cases e:ixN xs.length i with
 | none=>rw[e]at h;cases h
 | some j=>
  rw[e]at h
  obtain⟨h1,h2,h3,h4⟩:=Qcs e
  exact⟨j,h1,h,h2,h3,h4⟩
def Qiu(b:Expr):Prop:=∀o i,subscripted b false o i=operate [o,i] (getItem o i)
def IxR(X:Cx)(r:R2):Prop:=
 ∀(value slice:Expr) (pins:List (Addr×Obj)) (s:Shared) (σ:St) (H:Hp) (x y:V) (v u:Value) (Q:VK),Inv X pins σ H s->RelV x v->RelV y u->r x y H Q→
  subscripted slice false v u=operate [v,u] (getItem v u)->wpAny (model X.prog X.w) X.A (subscriptTail value slice v u) (EP X pins σ Q) X.xe s
def MtR(X:Cx)(id:String)(r:V->List V->Hp->VK->Prop):Prop:=
 ∀(pins:List (Addr×Obj)) (s:Shared) (σ:St) (H:Hp) (x:V) (xs:List V) (v:Value) (us:List Value) (Q:VK),Inv X pins σ H s->RelV x v->QC xs us->r x xs H Q→
  wpAny (model X.prog X.w) X.A (call (.builtin id) (v::us)) (EP X pins σ Q) X.xe s
section
variable {X:Cx}{a b:Expr}{ta tb:TE}{pos:Pos}
theorem IxR.or{r r':R2}(h:IxR X r)(h':IxR X r'):IxR X (λx y H Q=>r x y H Q∨r' x y H Q):=by
 intro value slice pins s σ H x y v u Q I rx ry q hs
 rcases q with q | q
 ·exact h value slice pins s σ H x y v u Q I rx ry q hs
 ·exact h' value slice pins s σ H x y v u Q I rx ry q hs
theorem Qvf{r:R2}(hr:IxR X r)(ha:PE X a ta)(hb:PE X b tb)(hs:Qiu b):PE X (.Subscript a b pos) (tOp r ta tb):=by
 intro pins s σ H Q I h
 exact Subscript_ (Qt2 ha hb I h λv u s2 x y H2 I2 rx ry q=>hr a b pins s2 σ H2 x y v u Q I2 rx ry q (hs _ _))
noncomputable def QwX(K:PySem.W.Frag):R2:=λx y H Q=>∃p xs i v,x= .ref p/\y= .int i/\SqL K H p xs/\atI xs i=some v/\Q v H
noncomputable def Qz3(K:PySem.W.Frag):R2:=λx y H Q=>∃p xs i v,x= .ref p/\y= .int i/\SqT K H p xs/\atI xs i=some v/\Q v H
theorem QpW:IxR X (QwX X.K):=by
 intro value slice pins s σ H x y v u Q I rx ry h hs
 obtain⟨p,xs,i,z,rfl,rfl,hq,he,q⟩:=h
 cases rx
 obtain⟨t,rfl⟩:=ry
 obtain⟨its,r,pl,hz⟩:=I.list hq
 obtain⟨j,h1,h2,h3,h4,h5⟩:=Qk5 he
 obtain⟨w,ew,rw'⟩:=r.get h2
 have hl:=r.length
 have hn:=QgQ
 have fin:EP X pins σ Q w s:=⟨z,H,I,rw',q⟩
 by_cases h0:0<=i
 ·have hj:i.toNat=j:=by
   rw[seqIndex_of h0 h5]at h1
   exact Option.some.inj h1
  exact item_listR pl.isList h0 (by omega) (by rw[hj];simpa using ew) fin hs
 ·have hj:(i+(its.toArray.size:Int)).toNat=j:=by
   rw[seqIndex_neg (by omega) h4]at h1
   rw[Zt,← hl]
   exact Option.some.inj h1
  exact subscriptTail_builtinR (x:=w) pl.isList.typeIs slot_list_getitem.lookup
   (wpAny_getItem_list_neg (Q:=λr s'=>r=w/\EP X pins σ Q r s') pl.isList (by omega) (by rw[Zt]<;>omega) (by omega) (by rw[hj];simpa using ew) ⟨rfl,fin⟩) hs
theorem Qrm:IxR X (Qz3 X.K):=by
 intro value slice pins s σ H x y v u Q I rx ry h hs
 obtain⟨p,xs,i,z,rfl,rfl,hq,he,q⟩:=h
 cases rx
 obtain⟨t,rfl⟩:=ry
 obtain⟨its,r,pl,hz⟩:=I.tuple hq
 obtain⟨j,h1,h2,h3,h4,h5⟩:=Qk5 he
 obtain⟨w,ew,rw'⟩:=r.get h2
 have hl:=r.length
 have hn:=QgQ
 have fin:EP X pins σ Q w s:=⟨z,H,I,rw',q⟩
 exact subscriptTail_builtinR (x:=w) pl.typeIs slot_tuple_getitem.lookup
  (getItem_tuple (j:=j) (Q:=λr s'=>r=w/\EP X pins σ Q r s') pl (by omega) (by omega) (by rw[Zt,← hl];exact h1) (by simpa using ew) ⟨rfl,fin⟩) hs
theorem Qq4(its:List Value)(n j:Nat)(u:Value):Obj.mapSeq (·.setIfInBounds j u) {cls:= .type "list",data:= .seq its.toArray n}={cls:= .type "list",data:= .seq (its.set j u).toArray n}:=by
 simp[Obj.mapSeq]
theorem Inv.lst{pins:List (Addr×Obj)}{σ:St}{H:Hp}{s:Shared}{p:Addr}{xs:List V}(I:Inv X pins σ H s)(h:H p=some (.lst xs)):
  ∃(its:List Value) (n:Nat),QC xs its/\s.heap.get? p=some {cls:= .type "list",data:= .seq its.toArray n}/\xs.length<=sizeLine:=by
 obtain⟨z,its,n,r,e⟩:=I.hok p _ h
 exact⟨its,n,r,e,z⟩
theorem Inv.Qxz{pins:List (Addr×Obj)}{σ:St}{H:Hp}{s:Shared}{p:Addr}{xs ys:List V}{its its':List Value}{n n':Nat}{f:Obj->Obj}(I:Inv X pins σ H s)(h:H p=some (.lst xs))
  (ho:s.heap.get? p=some {cls:= .type "list",data:= .seq its.toArray n}) (hf:f {cls:= .type "list",data:= .seq its.toArray n}={cls:= .type "list",data:= .seq its'.toArray n'}) (r:QC ys its') (hz:ys.length<=sizeLine) (t:Nat):
  Inv X pins σ (upd H p (.lst ys)) {s with heap:=s.heap.update p f,toks:=t}:=by
 have e:(s.heap.update p f).get? p=some {cls:= .type "list",data:= .seq its'.toArray n'}:=by
  rw[Heap.get?_update_self f ho (by rw[hf]<;>rfl),hf]
 refine I.write (x:=p) (e:=p) (by rw[h];trivial) (.inl rfl) (λb u hb q=>(Heap.get?_update_other _ _ (Ne.symm hb)).trans q) ⟨_,e⟩ ?_
 exact⟨hz,its',n',r,e⟩
noncomputable def Qf4:V->V->V->Hp->(Hp->Prop)->Prop:=λo i v H Q=>∃p xs k j,o= .ref p/\i= .int k/\H p=some (.lst xs)/\ixN xs.length k=some j/\Q (upd H p (.lst (xs.set j v)))
theorem set_list:QtY X Qf4:=by
 intro pins s σ H o i v ov iv u Q I ro ri rv h
 obtain⟨p,xs,k,j,rfl,rfl,hp,hj,q⟩:=h
 cases ro
 obtain⟨t,rfl⟩:=ri
 obtain⟨its,n,r,ho,hz⟩:=I.lst hp
 obtain⟨h1,h2,h3,h4⟩:=Qcs hj
 have hl:=r.length
 have hn:=QgQ
 have I':Inv X pins σ (upd H p (.lst (xs.set j v))) {s with heap:=s.heap.update p (Obj.mapSeq (·.setIfInBounds j u))}:=
  I.Qxz hp ho (Qq4 its n j u) (r.set rv j) (by rw[ZR];exact hz) s.toks
 by_cases h0:0<=k
 ·have hk:k.toNat=j:=by
   rw[seqIndex_of h0 h4]at h1
   exact Option.some.inj h1
  exact PySem.W.ki_setAt ho h0 (by omega) (by rw[Zt,← hl];exact h4) (by rw[hk];exact⟨_,I',q⟩)
 ·have hk:(k+(its.toArray.size:Int)).toNat=j:=by
   rw[seqIndex_neg (by omega) h3]at h1
   rw[Zt,← hl]
   exact Option.some.inj h1
  exact PySem.W.ki_setBack ho (by omega) (by rw[Zt,← hl];exact h3) (by omega) (by rw[hk];exact⟨_,I',q⟩)
theorem QnK(lo hi:Option Int)(n:Nat):(sliceBounds lo hi none n).1=((HT.sIx n 0 lo:Nat):Int)/\(sliceBounds lo hi none n).2.1=((HT.sIx n n hi:Nat):Int)/\(sliceBounds lo hi none n).2.2=1:=by
 refine⟨?_,?_,rfl⟩
 ·cases lo with
  | none=>simp[sliceBounds,HT.sIx]
  | some i=>
   simp only[sliceBounds,HT.sIx,Option.getD_none,show(1:Int)>0 by decide,if_true]
   by_cases h:i<0
   ·simp only[h,if_true]<;>omega
   ·simp only[h,if_false]<;>omega
 ·cases hi with
  | none=>simp[sliceBounds,HT.sIx]
  | some i=>
   simp only[sliceBounds,HT.sIx,Option.getD_none,show(1:Int)>0 by decide,if_true]
   by_cases h:i<0
   ·simp only[h,if_true]<;>omega
   ·simp only[h,if_false]<;>omega
theorem Qmq(its:List Value)(lo hi:Option Int):slicePick its.toArray lo hi none=((its.drop (HT.sIx its.length 0 lo)).take (HT.sIx its.length its.length hi-HT.sIx its.length 0 lo)).toArray:=by
 obtain⟨h1,h2,h3⟩:=QnK lo hi its.toArray.size
 unfold slicePick
 rw[h1,h2,h3]
 simp only[sliceRange_one,pick_run,Zt]<;>rfl
noncomputable def QAd(K:PySem.W.Frag):V->Option Int->Option Int->Hp->VK->Prop:=λx lo hi H Q=>∃a xs,x= .ref a/\SqL K H a xs/\∀p,H p=none->Q (.ref p) (upd H p (.lst (Qlj xs lo hi)))
theorem Qwg:SlR X (QAd X.K):=by
 intro pins s σ H x v vl vu lo hi sl Q I rx hs pl pu h
 obtain⟨a,xs,rfl,hx,q⟩:=h
 cases rx
 obtain⟨its,r,ht,hz⟩:=I.list hx
 have hlen:=r.length
 refine⟨"list",_,slot_list_getitem.lookup,ht.isList.typeIs,?_⟩
 refine wpAny_getItem_list_slice ht.isList hs pl pu .none (by simp) ?_ (by rw[Zt]<;>omega)
 rw[Qmq,← hlen]
 refine⟨.ref s.heap.objs.size,_,I.laid (t':=s.toks) (o:= .lst (Qlj xs lo hi)) (λb ob q=>Zb _ q) (Zi _) ?_,rfl,q _ (I.hok.fresh (Zi _))⟩
 exact⟨Zx (Qo3 xs lo hi) hz,_,0,(r.drop (HT.sIx xs.length 0 lo)).take (HT.sIx xs.length xs.length hi-HT.sIx xs.length 0 lo),ZA _ rfl⟩
theorem Qno:QdJ X (.builtin "len") (λxs H Q=>∃p ys,xs=[.ref p]/\(SqL X.K H p ys∨SqT X.K H p ys)/\Q (.int ys.length) H):=by
 intro pins s σ H xs us Q I r h
 obtain⟨p,ys,rfl,hq,q⟩:=h
 obtain⟨u,rfl,rx⟩:=vals1 r
 cases rx
 have hn:=QgQ
 rcases hq with hq | hq
 ·obtain⟨its,r',pl,hz⟩:=I.list hq
  have hlen:=r'.length
  exact Calls.call_len_list pl.isList (by simp only[Zt]<;>omega) ⟨.int ys.length,H,I.tok _,⟨s.toks+1,by rw[Zt,hlen]⟩,q⟩
 ·obtain⟨its,r',pl,hz⟩:=I.tuple hq
  have hlen:=r'.length
  exact len_tuple pl (by simp only[Zt]<;>omega) ⟨.int ys.length,H,I.tok _,⟨s.toks+1,by rw[Zt,hlen]⟩,q⟩
theorem QhV:QdJ X (.type "list") (λxs H Q=>∃p ys,xs=[.ref p]/\(SqL X.K H p ys∨SqT X.K H p ys)/\∀l,H l=none->Q (.ref l) (upd H l (.lst ys))):=by
 intro pins s σ H xs us Q I r h
 obtain⟨p,ys,rfl,hq,q⟩:=h
 obtain⟨u,rfl,rx⟩:=vals1 r
 cases rx
 have fin:∀(its:List Value),QC ys its->ys.length<=sizeLine->∀(h':Heap) (c':Nat),(∀b o',s.heap.get? b=some o'->h'.get? b=some o')→
   h'.get? s.heap.objs.size=some {cls:= .type "list",dict:=none,data:= .seq its.toArray c',slots:= #[]}->EP X pins σ Q (.ref s.heap.objs.size) {s with heap:=h'}:=λits r' hz h' c' kp e=>
  ⟨.ref s.heap.objs.size,_,I.laid (t':=s.toks) kp (Zi _) (show QcG X.prog X.w _ h' _ (.lst ys)from⟨hz,its,c',r',e⟩),rfl,q _ (I.hok.fresh (Zi _))⟩
 rcases hq with hq | hq
 ·obtain⟨its,r',pl,hz⟩:=I.list hq
  have hlen:=r'.length
  obtain⟨o,ho,hc,n,hd⟩:=pl.isList
  exact call_list_seq p (.inl rfl) ho hc hd (λh' c' kp e=>fin its r' hz h' c' kp e) (by simp only[Zt]<;>omega)
 ·obtain⟨its,r',pl,hz⟩:=I.tuple hq
  have hlen:=r'.length
  obtain⟨o,ho,hc,n,hd⟩:=pl
  exact call_list_seq p (.inr rfl) ho hc hd (λh' c' kp e=>fin its r' hz h' c' kp e) (by simp only[Zt]<;>omega)
theorem QmC:QdJ X (.type "tuple") (λxs H Q=>∃p ys,xs=[.ref p]/\((SqL X.K H p ys/\∀l,H l=none->Q (.ref l) (upd H l (.tup ys)))∨(SqT X.K H p ys/\Q (.ref p) H))):=by
 intro pins s σ H xs us Q I r h
 obtain⟨p,ys,rfl,h⟩:=h
 obtain⟨u,rfl,rx⟩:=vals1 r
 cases rx
 rcases h with⟨hq,q⟩ | ⟨hq,q⟩
 ·obtain⟨its,r',pl,hz⟩:=I.list hq
  have hlen:=r'.length
  refine call_tuple_list pl.isList (λh' kp=>?_) (by simp only[Zt]<;>omega)
  have I1:Inv X pins σ H {s with heap:=h'}:=I.kept (t':=s.toks) kp
  have I2:Inv X pins σ (upd H h'.objs.size (.tup ys)) {s with heap:=h'.push {cls:= .type "tuple",data:= .seq its.toArray}}:=
   I1.laid (t':=s.toks) (λb o e=>Zb _ e) (Zi _) (show QcG X.prog X.w _ _ _ (.tup ys)from⟨hz,its,r',IsTup.new _ _⟩)
  exact⟨.ref h'.objs.size,_,I2,rfl,q _ (I1.hok.fresh (Zi _))⟩
 ·obtain⟨its,r',pl,hz⟩:=I.tuple hq
  exact call_tuple_same pl ⟨.ref p,H,I,rfl,q⟩
def tyV(K:PySem.W.Frag)(T:String)(x:V)(H:Hp):Prop:=match x with
 | .str _=>T= "str"
 | .int _=>T= "int"
 | .ref p=>(T= "list" /\∃xs,SqL K H p xs)∨(T= "tuple" /\∃o,K.lookup p=some o/\o.cls= .type "tuple" /\o.dict=none)∨
   (T= "dict" /\((∃kvs,H p=some (.dK kvs))∨∃kvs,H p=some (.dT kvs)))∨(T= "set" /\∃S n,H p=some (.set S n))
 | _=>False
theorem Qsz{pins:List (Addr×Obj)}{σ:St}{H:Hp}{s:Shared}{T:String}{x:V}{v:Value}(I:Inv X pins σ H s)(r:RelV x v)(ty:tyV X.K T x H):
  s.TypeIs v T/\∀a,v= .ref a->∃ob,s.heap.get? a=some ob/\ob.dict=none:=by
 cases x with
 | str z=>
  obtain⟨t,rfl⟩:=r
  cases(show T= "str" from ty)
  exact⟨typeIs_str s z t,λ_ e=>nomatch e⟩
 | int i=>
  obtain⟨t,rfl⟩:=r
  cases(show T= "int" from ty)
  exact⟨typeIs_int s i t,λ_ e=>nomatch e⟩
 | ref p=>
  cases r
  rcases ty with⟨rfl,xs,hq⟩ | ⟨rfl,o,hk,hc,hd⟩ | ⟨rfl,hk⟩ | ⟨rfl,S,n,hk⟩
  ·obtain⟨its,_,pl,_⟩:=I.list hq
   refine⟨pl.isList.typeIs,λa e=>?_⟩
   cases e
   obtain⟨o,n,e,c,hd,_⟩:=pl
   exact⟨o,e,hd⟩
  ·refine⟨⟨o,I.kIn p o hk,hc⟩,λa e=>?_⟩
   cases e
   exact⟨o,I.kIn _ o hk,hd⟩
  ·have z:∃o,s.heap.get? p=some o/\o.ExactDict:=by
    rcases hk with⟨kvs,hk⟩ | ⟨kvs,hk⟩
    ·obtain⟨_,_,_,_,o,_,_,e,ex,_⟩:=I.hok p _ hk
     exact⟨o,e,ex⟩
    ·obtain⟨_,_,_,_,o,_,_,e,ex,_⟩:=I.hok p _ hk
     exact⟨o,e,ex⟩
   obtain⟨o,e,ex⟩:=z
   refine⟨⟨o,e,ex.1⟩,λa e2=>?_⟩
   cases e2
   exact⟨o,e,ex.2.1⟩
  ·obtain⟨o,_,_,_,e,ex,_⟩:=I.hok p _ hk
   refine⟨⟨o,e,ex.1⟩,λa e2=>?_⟩
   cases e2
   exact⟨o,e,ex.2.1⟩
 | _=>exact False.elim ty
noncomputable def QyK(K:PySem.W.Frag)(T:String)(r:V->List V->Hp->VK->Prop)(to:TE):TE:=λσ H Q=>to σ H λx H1=>tyV K T x H1/\r x [] H1 Q
noncomputable def tBM(K:PySem.W.Frag)(T:String)(r:V->List V->Hp->VK->Prop)(to:TE)(t:TA):TE:=λσ H Q=>to σ H λx H1=>tyV K T x H1/\t σ H1 λxs H2=>r x xs H2 Q
variable {o e:Expr}{es:List Expr}{to:TE}{t:TA}{name:Str}{apos cpos:Pos}{T id:String}{r:V->List V->Hp->VK->Prop}
theorem Qya(pa:PlainAttrs T)(slot:Slot T name id)(hty:typeOf (.builtin id)=pure (.type "method_descriptor"))(hm:MtR X id r)(ho:PE X o to)
  (hbase:attributeBase o name X.env (eval o X.env)=eval o X.env:=by rfl) (hline:(apos.endLine == cpos.line)=true:=by rfl):PE X (.Call (.Attribute o name apos) [] [] cpos) (QyK X.K T r to):=by
 intro pins s σ H Q I h
 refine wpAny_Call_method0_late hbase hline (thn (ho pins s σ H _ I h) λv s1 ⟨x,H1,I1,r1,ty,q1⟩=>?_)
 obtain⟨h1,h2⟩:=Qsz I1 r1 ty
 exact⟨T,id,pa,slot,hty,h1,h2,Calls.callWith_builtin rfl (PySem.evalArgs_none (hm pins s1 σ H1 x [] v [] Q I1 r1 .nil q1))⟩
theorem QmI(pa:PlainAttrs T)(slot:Slot T name id)(hty:typeOf (.builtin id)=pure (.type "method_descriptor"))(hm:MtR X id r)(ho:PE X o to)(ha:PA X (e::es) t)
  (hbase:attributeBase o name X.env (eval o X.env)=eval o X.env:=by rfl)
  (hfew:((backTo cpos (starEach (e::es) X.env)).all (λx=> !x.1) && (backToKw cpos (keywordEach [] X.env)).all (λx=>x.1.isSome)
   && decide ((e::es).length+([]:List Keyword).length+(if([]:List Keyword).isEmpty then 0 else 1)<30))=true:=by rfl)
  (hline:(apos.endLine == cpos.line)=true:=by rfl) (hs:starEach (e::es) X.env=(false,eval e X.env)::starEach es X.env:=by rfl) (hplain:(backTo cpos (starEach es X.env)).any (·.1)=false:=by rfl):
  PE X (.Call (.Attribute o name apos) (e::es) [] cpos) (tBM X.K T r to t):=by
 intro pins s σ H Q I h
 refine wpAny_Call_method_late hbase hfew hline rfl (thn (ho pins s σ H _ I h) λv s1 ⟨x,H1,I1,r1,ty,q1⟩=>?_)
 obtain⟨h1,h2⟩:=Qsz I1 r1 ty
 refine⟨T,id,pa,slot,hty,h1,h2,?_⟩
 have hA:=ha cpos pins s1 σ H1 _ I1 q1
 rw[hs]at hA ⊢
 refine Calls.callWith_builtin (by show(false || (backTo cpos (starEach es X.env)).any (·.1))=false;rw[hplain]<;>rfl) (Calls.evalArgs_plain ?_)
 exact thn hA λus s2 ⟨vs,H2,I2,r2,q2⟩=>hm pins s2 σ H2 x vs v us Q I2 r1 r2 q2
end
end L2
namespace L2
open PySem PySem.Spec PyProof.Rows
def MtM(X:Cx)(id:String)(r:V->List V->Hp->VK->Prop):Prop:=
 ∀(pins:List (Addr×Obj)) (s:Shared) (σ:St) (H:Hp) (x:V) (xs:List V) (v:Value) (us:List Value) (Q:VK),Inv X pins σ H s->RelV x v->QC xs us->r x xs H Q→
  wpAny (model X.prog X.w) X.A (call (.builtin id) (v::us)) (EP X pins σ Q) X.xe s
theorem QC.one:∀{x:V}{us:List Value},QC [x] us->∃u,us=[u]/\RelV x u
 | _,_,.cons r .nil=>⟨_,rfl,r⟩
theorem QC.zero:∀{us:List Value},QC [] us->us=[]
 | _,.nil=>rfl
theorem QC.eraseIdx:∀{xs:List V}{us:List Value}(i:Nat),QC xs us->QC (xs.eraseIdx i) (us.eraseIdx i)
 | _,_,_,.nil=> .nil
 | _,_,0,.cons _ t=>t
 | _,_,i+1,.cons r t=> .cons r (QC.eraseIdx i t)
theorem QC.rep{xs:List V}{us:List Value}(h:QC xs us):∀k:Nat,QC (List.replicate k xs).flatten (List.replicate k us).flatten
 | 0=> .nil
 | k+1=>by
  rw[Zaf,Zaf,Zal,Zal]
  exact QC.append h (QC.rep h k)
theorem Ql1{α:Type}:∀(l:List α) (i:Nat),(l.eraseIdx i).length<=l.length
 | [],_=>Zi _
 | _::_,0=>ZbA _
 | _::r,i+1=>Nat.succ_le_succ (Ql1 r i)
theorem foldl_rep(its:List Value):∀(k:Nat) (acc:List Value),
  List.foldl (λx1 x2=>x1++x2) acc.toArray (List.replicate k its.toArray)=(acc++(List.replicate k its).flatten).toArray
 | 0,acc=>by simp
 | k+1,acc=>by
  have e:acc.toArray++its.toArray=(acc++its).toArray:=by simp
  have e2:(acc++its)++(List.replicate k its).flatten=acc++(List.replicate (k+1) its).flatten:=by
   rw[Zaf,Zal,ZaP]
  rw[← e2,← foldl_rep its k (acc++its),← e,Zaf,List.foldl_cons]
section
variable {X:Cx}{pins:List (Addr×Obj)}{σ:St}{H:Hp}{s:Shared}{l b:Addr}{xs ys zs:List V}
theorem Inv.Qqd{its its':List Value}{n:Nat}{f:Array Value->Array Value}{t':Nat}(I:Inv X pins σ H s)(hH:H l=some (.lst xs))
  (e:s.heap.get? l=some {cls:= .type "list",data:= .seq its.toArray n}) (hf:f its.toArray=its'.toArray) (hv:QC ys its') (hz:ys.length<=sizeLine):
  Inv X pins σ (upd H l (.lst ys)) {s with heap:=s.heap.update l (Obj.mapSeq f),toks:=t'}:=by
 have q:=PySem.IsL.update e f
 rw[hf]at q
 refine I.write (x:=l) (e:=l) (by rw[hH];exact trivial) (.inl rfl) (λb' u hb hu=>(Heap.get?_update_other s.heap (Obj.mapSeq f) (Ne.symm hb)).trans hu) ⟨_,q⟩ ?_
 exact⟨hz,its',_,hv,q⟩
theorem Inv.Qyn{its:List Value}{t':Nat}(I:Inv X pins σ H s)(hv:QC ys its)(hz:ys.length<=sizeLine):
  Inv X pins σ (upd H s.heap.objs.size (.lst ys)) {s with heap:=s.heap.push {cls:= .type "list",data:= .seq its.toArray},toks:=t'}:=
 I.laid (λ_ _ q=>Zb _ q) (Zi _) ⟨hz,its,0,hv,ZA _ rfl⟩
theorem Inv.fresh(I:Inv X pins σ H s):H s.heap.objs.size=none:=I.hok.fresh (Zi _)
theorem Inv.QnG(I:Inv X pins σ H s)(hH:H l=some (.lst xs)):xs.length<=sizeLine/\∃(its:List Value) (n:Nat),QC xs its/\xs.length=its.length/\s.heap.get? l=some {cls:= .type "list",data:= .seq its.toArray n}:=by
 obtain⟨z,its,n,r,e⟩:=I.hok l _ hH
 exact⟨z,its,n,r,r.length,e⟩
theorem Qs0{n:Nat}(h:n<=sizeLine):Builtin.List.listTooLong n=false:=by
 unfold Builtin.List.listTooLong
 exact decide_eq_false (by omega)
end
section
variable {X:Cx}
noncomputable def Qlo:V->List V->Hp->VK->Prop:=λx vs H Q=>∃l xs y,x= .ref l/\vs=[y]/\H l=some (.lst xs)/\xs.length<sizeLine/\Q .non (upd H l (.lst (xs++[y])))
theorem Qin:MtM X "list.append" Qlo:=by
 intro pins s σ H x vs v us Q I rx rv h
 obtain⟨l,xs,y,rfl,rfl,hH,hz,q⟩:=h
 cases rx
 obtain⟨u,rfl,ru⟩:=rv.one
 obtain⟨z,its,n,r,hl,e⟩:=I.QnG hH
 refine call_meets F.slot_list_append ⟨_,e,rfl⟩ F.entry_list_append (F.args_list_append_2 _ _) (PySem.list_append l its.toArray n u (by rw[Zt];omega)) ⟨e,?_⟩
 refine⟨.non,_,I.Qqd (its':=its++[u]) hH e (by simp) (r.append (.cons ru .nil)) ?_,rfl,q⟩
 rw[Zr,ZaX]
 omega
noncomputable def Qn3:V->List V->Hp->VK->Prop:=λx vs H Q=>∃l xs i k y,x= .ref l/\vs=[.int i]/\H l=some (.lst xs)/\ -(2^63)<=i/\i<2^63/\seqIndex? i xs.length=some k/\xs[k]? =some y/\Q y (upd H l (.lst (xs.eraseIdx k)))
theorem Qta:MtM X "list.pop" Qn3:=by
 intro pins s σ H x vs v us Q I rx rv h
 obtain⟨l,xs,i,k,y,rfl,rfl,hH,h1,h2,hk,hy,q⟩:=h
 cases rx
 obtain⟨u,rfl,ru⟩:=rv.one
 obtain⟨t,rfl⟩:=ru
 obtain⟨z,its,n,r,hl,e⟩:=I.QnG hH
 obtain⟨w,hw,rw'⟩:=r.get hy
 refine call_meets F.slot_list_pop ⟨_,e,rfl⟩ F.entry_list_pop (F.args_list_pop_2 _ _)
  (MeetsSeq.list_pop_at l its.toArray n i t k w (fitsIndex_both h1 h2) (by rw[Zt,← hl];exact hk) (by rw[← Array.getElem?_toList];exact hw) (by rw[Zt];omega)) ⟨e,?_⟩
 refine⟨y,_,I.Qqd (its':=its.eraseIdx k) hH e ?_ (r.eraseIdx k) ?_,rw',q⟩
 ·show its.toArray.eraseIdxIfInBounds k=(its.eraseIdx k).toArray
  rw[List.eraseIdxIfInBounds_toArray]
 ·have:=Ql1 xs k
  omega
noncomputable def QsN:V->List V->Hp->VK->Prop:=λx vs H Q=>∃l xs,x= .ref l/\vs=[]/\H l=some (.lst xs)/\Q .non (upd H l (.lst []))
theorem Qt1:MtM X "list.clear" QsN:=by
 intro pins s σ H x vs v us Q I rx rv h
 obtain⟨l,xs,rfl,rfl,hH,q⟩:=h
 cases rx
 have hus:=rv.zero
 subst hus
 obtain⟨z,its,n,r,hl,e⟩:=I.QnG hH
 refine call_meets F.slot_list_clear ⟨_,e,rfl⟩ F.entry_list_clear (F.args_list_clear_1 _) (AutoSeq1.list_clear_list_0 l its.toArray n (by rw[Zt];omega)) ⟨e,?_⟩
 exact⟨.non,_,I.Qqd (its':=[]) (ys:=[]) hH e rfl .nil (ZX _),rfl,q⟩
theorem len_rep{α:Type}(xs:List α)(k:Nat):(List.replicate k xs).flatten.length=k*xs.length:=by
 induction k with
 | zero=>simp
 | succ k ih=>rw[Zaf,Zal,Zr,ih,Nat.succ_mul,Nat.add_comm]
end
section
variable {prog:Program}{w:World}{A:Around}{E:Value->Shared->Prop}{s:Shared}
end
section
variable {X:Cx}
end
end L2
namespace Att
open PySem PySem.W PySem.Calls PyProof.Rows
theorem Qki{P:Params}{h:Heap}:∀(ns:List Int) (vs:List Value),WellAll P h vs (ns.map WData.int)->IntsAre vs ns:=by
 intro ns
 induction ns with
 | nil=>
  intro vs w
  rw[List.map_nil]at w
  cases w
  exact .nil
 | cons n ns ih=>
  intro vs w
  rw[ZM]at w
  cases w with
  | cons a b=>
   cases a
   exact .cons _ _ (ih _ b)
theorem QsU{l:OpenLaw}{n:Nat}(hn:l.most=some n){P:Params}{h:Heap}{args:List WData}{vals:List Value}
  (hpre:l.row.toRowW.claim.pre args=true) (hwl:WellAll P h vals args):
  ∃a vs ns,vals=[Value.ref a]/\args=[WData.list (ns.map WData.int)]/\h.get? a=some {cls:= .type "list",data:= .seq vs.toArray}/\IntsAre vs ns/\ns.length<=n:=by
 have hsh:WShape.hasAll [] args [.list .int]=true:=(pre_splitW hpre).1
 have hc:l.pre.holds [] {args:=args}=true:=(pre_splitW hpre).2
 obtain⟨d,r,rfl,h1,h2⟩:=hasAllW_cons hsh
 obtain rfl:=hasAllW_nil h2
 obtain⟨xs,rfl,h3⟩:=hasW_list h1
 obtain⟨ns,rfl⟩:=items_int h3
 have hlen:ns.length<=n:=by
  unfold OpenLaw.pre at hc
  have h4:(WTm.not (.lt (.lit (.int (n:Int))) (.len (.arg 0)))).holds [] {args:=[.list (ns.map .int)]}=true:=by
   have h4:=(holds_andW hc).1
   rw[hn]at h4
   exact h4
  have h5:=condW_of h4 (w_not (w_lt w_lit (w_len_list (w_arg rfl))))
  rw[Zp]at h5
  refine Nat.le_of_not_lt λq=>?_
  have q':(n:Int)<((ns.length:Nat):Int):=by omega
  first
   | (rw[decide_eq_true q']at h5;exact absurd h5 (by decide))
   | (simp at h5;omega)
 cases hwl with
 | cons w1 w2=>
  cases w2
  cases w1 with
  | list ho hall=>exact⟨_,_,ns,rfl,rfl,ho,Qki ns _ hall,hlen⟩
theorem Qrs(l:OpenLaw)(args:List WData):l.row.toRowW.claim.post args (.bool true) args=true:=
 postW_of (r:=l.row.toRowW) (X:=(true == true))
  (show WShape.has [] (.bool true) .bool=true by first | rfl | decide | simp[WShape.has,WShape.arms,WShape.armsAll])
  (show(WTm.eq .res (.lit (.bool true))).value [] {args:=args,res:=some (.bool true),after:=args}=some (.bool (true == true))from w_eq_bool (w_res rfl) w_lit) rfl
theorem QoP{l:OpenLaw}{n:Nat}{q:Program}{loose:List Str}{XP:(Str->Option Value)->Heap->Prop}{YP:World->Heap->Prop}{d:DefRec}
  (hn:l.most=some n) (hdf:d.params.defaults=[])
  (call:∀(w:World) (s₀ s₁:Shared) (mg mb:Str->Option Value) (fa:Addr) (o:Obj) (pm cd doc:Value) (a:Addr) (vs:List Value) (ns:List Int),
   Ground q loose [] XP w s₀ mg mb s₁.heap->YP w s₁.heap→
   s₁.heap.get? fa=some o->o.data= .func (docDef d.name d.params d.body d.scope pm cd doc)->s₁.heap.CodeRec cd d.name->mg d.name=some (.ref fa)→
   s₁.heap.get? a=some {cls:= .type "list",data:= .seq vs.toArray}->IntsAre vs ns->ns.length<=n->s₁.gens= #[]→
   codeAny (model l.prog w) callerA (.call (.ref fa) ⟨[.ref a],[]⟩) (λr s'=>r= .ok (.ret (.bool true))/\OldK s₁.heap s'.heap/\s'.os=s₁.os/\AllBare s'.gens) s₁):
  WalkO q loose XP YP l.row.toRowW d [] (λf vs=>PySem.call f vs):=by
 intro w s₀ s₁ mg mb G Y fa o pm cd doc dV kV ho hd hcd hD hmg hg args vals as hpre hlay hrd hwl hlo
 obtain rfl:dV= .none:=Dflts.none hD hdf
 obtain rfl:kV= .none:=Dflts.noKw hD
 obtain⟨a,vs,ns,rfl,rfl,hobj,hints,hlen⟩:=QsU hn hpre hwl
 refine enter_call (codeAny_mono (call w s₀ s₁ mg mb fa o pm cd doc a vs ns G Y ho (fd_plain hd) hcd hmg hobj hints hlen hg) λr s' hq=>?_)
 obtain⟨rfl,h2,h3,h4⟩:=hq
 exact⟨.inl ⟨.bool true,.bool true,[],rfl,λ_=>rfl,.bool true,Qrs l _,λ_=>⟨List.Pairwise.nil,λ_ hm=>(nomatch hm)⟩⟩,h2,h3,h4⟩
section
variable {prog:Program}{w:World}{A:Around}{E:Value->Shared->Prop}{s:Shared}{K:Frag}
end
end Att
namespace L2
open PySem PySem.Spec PyProof.Rows
theorem QeP:∀{vs:List Value}{ns:List Int},IntsAre vs ns->QC (ns.map V.int) vs
 | _,_,.nil=> .nil
 | _,_,.cons n t h=> .cons ⟨t,rfl⟩ (QeP h)
def QxR(H:Hp):Prop:=∀b,H b=none∨∃o xs,H b=some (.frz o (.lst xs))
theorem QuY{P:Program}{w:World}{K:PySem.W.Frag}{mg mb:Str->Option Value}{CX:CXT}{k:Nat}{fa a:Addr}{fd:FuncData}{x:Str}{sp:Sp}{s₁:Shared}{vs:List Value}{ns:List Int}
  (KX:K.In s₁.heap) (hns:s₁.heap.Ns mainGlobals mg) (hb:s₁.heap.Ns builtinsNs mb) (hbb:∀x:Str,x≠ "__name__" ->mb x=bootBuiltins x) (hlim:s₁.heap.NoLimit) (hg:s₁.gens= #[])
  (ha:s₁.heap.get? a=some {cls:= .type "list",data:= .seq vs.toArray}) (hi:IntsAre vs ns) (hl:ns.length<=sizeLine) (hr:QbH k callerA)
  (F:∀base:Heap,K.In base->base.Ns mainGlobals mg->QdE P w K mg base CX k fa fd [x] sp) (hbind:∀(s:Shared) (u:Value),BindsTo s fd ⟨[u],[]⟩ [(x,u)])
  (hsp:∀H:Hp,QxR H->SqL K H a (ns.map V.int)->sp [.ref a] H (λv _=>v= .bl true) λ_ _ _=>False)
  (hCX:∀H e s',CX [] H s₁ (λ_ _ _=>False) e s'->False):
  codeAny (model P w) callerA (.call (.ref fa) ⟨[.ref a],[]⟩) (λr s'=>r= .ok (.ret (.bool true))/\OldK s₁.heap s'.heap/\s'.os=s₁.os/\AllBare s'.gens) s₁:=by
 have rv:=QeP hi
 have lenV:=hi.length
 have core:∀H:Hp,QxR H->SqL K H a (ns.map V.int)->HOk P w H s₁.heap->(∀b,H b≠none->b=a)->(H a≠none->K.lookup a=none)→
   codeAny (model P w) callerA (.call (.ref fa) ⟨[.ref a],[]⟩) (λr s'=>r= .ok (.ret (.bool true))/\OldK s₁.heap s'.heap/\s'.os=s₁.os/\AllBare s'.gens) s₁:=by
  intro H hO hS hok hA hK
  have base_of:∀{b:Addr}{o:Obj},s₁.heap.get? b=some o->H b=none->(Qg7 s₁.heap H).get? b=some o:=λe n=>Quh e n
  have noA:∀{b:Addr}{o:Obj}{es:Array DictEntry}{ep:Nat},s₁.heap.get? b=some o->o.data= .dict es ep->H b=none:=λ{b o es ep} e d=>by
   cases q:H b with
   | none=>rfl
   | some u=>
    have e':b=a:=hA b (by rw[q];simp)
    subst e'
    rw[ha]at e;cases e
    have d':Data.seq vs.toArray _=Data.dict es ep:=d
    cases d'
  have nsK:∀{b:Addr}{m:Str->Option Value},s₁.heap.Ns b m->(Qg7 s₁.heap H).Ns b m:=λ{b m} ⟨o,es,ep,e,d,r⟩=>⟨o,es,ep,base_of e (noA e d),d,r⟩
  have hKb:K.In (Qg7 s₁.heap H):=λb o e=>base_of (KX b o e) (by
   cases q:H b with
   | none=>rfl
   | some u=>
    have e':b=a:=hA b (by rw[q];simp)
    subst e'
    rw[hK (by rw[q];simp)]at e;cases e)
  have hM:Mod K mg (Qg7 s₁.heap H):=⟨hKb,nsK hns,⟨mb,nsK hb,hbb⟩,let ⟨mc,h1,h2⟩:=hlim;⟨mc,nsK h1,h2⟩⟩
  have e0:QqB P w K mg (Qg7 s₁.heap H) callerA [] s₁ H:=⟨rfl,hM,λb o e=>Qwy e,Nat.le_of_eq (Qsm _ _),trivial,λb hb=>absurd (show b∈([]:List Addr)from hb) (by simp),hok,.of_eq hg⟩
  refine codeAny_mono ((F _ hKb (nsK hns)).run callerA [] s₁ H ⟨[.ref a],[]⟩ [.ref a] [.ref a] _ _ hr e0 (hbind s₁ (.ref a)) (.cons rfl .nil) (hsp H hO hS)) λr s' h=>?_
  cases r with
  | error e=>exact(hCX H e s' h).elim
  | ok fl=>
   cases fl with
   | next=>exact False.elim h
   | brk=>exact False.elim h
   | cont=>exact False.elim h
   | ret u=>
    obtain⟨v,H',os,bare,un,hok',r',q⟩:=h
    have q':v= .bl true:=q
    subst q'
    obtain rfl:u=Value.bool true:=r'
    refine⟨rfl,OldK.of_keep λb o e=>?_,os,bare⟩
    cases q:H b with
    | none=>exact un.keep b o e q (by intro z;exact absurd (show b∈([]:List Addr)from z) (by simp)) (by simp)
    | some u=>
     rcases hO b with z | ⟨ob,xs,z⟩
     ·rw[q]at z;cases z
     ·have z2:=un.frzs b ob _ z
      obtain⟨e1,_⟩:=hok b _ z
      obtain⟨e2,_⟩:=hok' b _ z2
      rw[e]at e1;cases e1
      exact e2
 cases hk:K.lookup a with
 | some o=>
  have e:=KX a o hk
  rw[ha]at e
  cases e
  refine core (λ_=>none) (λ_=> .inl rfl) (.inr ⟨_,vs.toArray,_,hk,rfl,rfl,rfl,by rw[Zt,lenV];exact hl,by simpa using rv⟩) (λb u z=>by have z':(none:Option HO)=some u:=z;cases z') (λb z=>absurd rfl z) λz=>absurd rfl z
 | none=>
  refine core (λb=>if b=a then some (.frz {cls:= .type "list",data:= .seq vs.toArray} (.lst (ns.map V.int)))else none) (λb=>?_) (.inl (.inr ⟨{cls:= .type "list",data:= .seq vs.toArray},if_pos rfl⟩)) (λb u z=>?_) (λb z=>?_) λ_=>hk
  ·by_cases hb:b=a
   ·exact .inr ⟨_,_,if_pos hb⟩
   ·exact .inl (if_neg hb)
  ·by_cases hb:b=a
   ·have z':=(if_pos hb).symm.trans z
    cases z'
    subst hb
    exact⟨ha,by rw[Zp];exact hl,vs,_,rv,ha⟩
   ·have z':=(if_neg hb).symm.trans z
    cases z'
  ·by_cases hb:b=a
   ·exact hb
   ·exact absurd (if_neg hb) z
end L2
namespace L2
open PySem PySem.Spec PyProof.Rows
noncomputable abbrev KOf{K:PySem.W.Frag}{h:Heap}(_:K.In h):PySem.W.Frag:=K
end L2
namespace L2
open PySem PySem.Spec PyProof.Rows
noncomputable def Qfj(s:Stmt):Arguments:=match s with
 | .FunctionDef _ a _ _ _ _ _ _ _ _=>a
 | _=>{posonlyargs:=[],args:=[],vararg:=none,kwonlyargs:=[],kw_defaults:=[],kwarg:=none,defaults:=[]}
noncomputable def Qck(s:Stmt):List Stmt:=match s with
 | .FunctionDef _ _ b _ _ _ _ _ _ _=>b
 | _=>[]
noncomputable def Qz(s:Stmt):Scope:=match s with
 | .FunctionDef _ _ _ _ _ _ sc _ _ _=>sc
 | _=>{kind:= .function,names:=[],isGenerator:=false,isCoroutine:=false}
noncomputable abbrev CX0:CXT:=λ_ _ _ _ _ _=>False
noncomputable abbrev E0:XK:=λ_ _ _=>False
theorem Qu4{X:Cx}:Qj9 CX0 X E0:=λ_ _ _ _ _ _ _ h=>h.elim
structure Fun (K:PySem.W.Frag) (x qual:Str) (st:Stmt) (f:Addr) (fd:FuncData):Prop where
 ex:∃(oc:Value) (od:Option Addr) (kV doc pm:Value) (an:Option Addr) (cdv ct:Value) (osl:Array (Option Value)),
  fd=PySem.W.fnOf x qual (Qfj st) (Qck st) (Qz st) .none kV doc pm an cdv ct/\K.lookup f=some ⟨oc,od,.func fd,osl⟩/\PySem.W.codeIn K cdv qual=true
 kp:PySem.W.keepIn K (.ref f)=true
section
variable {P:Program}{w:World}{K:PySem.W.Frag}{mg:Str->Option Value}{base:Heap}
theorem Fun.ok{x qual:Str}{st:Stmt}{f:Addr}{fd:FuncData}{N ps:List Str}{k:Nat}{sp:Sp}(F:Fun K x qual st f fd)(S:Qdt N ps (Qz st))(len:∀vs H Q E,sp vs H Q E->vs.length=ps.length)
  (hbody:∀(cdv:Value) (A:Around) (outer:List Env) (s:Shared) (H:Hp) (vs:List V) (Q:VK) (E:XK),QbH k (A.deeper (envOfC qual (Qz st) s.heap.objs.size f cdv))->sp vs H Q E→
   ∃t,PSs (QhT CX0 P w K mg base N qual (Qz st) f cdv A outer s H E).nox (Qck st) t/\t {nx:=λ_ H'=>Q .non H',rt:=Q} (start N vs) H):QdE P w K mg base CX0 (k+1) f fd ps sp:=by
 obtain⟨oc,od,kV,doc,pm,an,cdv,ct,osl,rfl,lk,hcd⟩:=F.ex
 refine Qzk lk hcd S len λA outer s H vs Q E hr hsp=>?_
 obtain⟨t,h,q⟩:=hbody cdv A outer s H vs Q E hr hsp
 exact⟨t,h.nox,q⟩
theorem Fun.binds{x qual:Str}{st:Stmt}{f:Addr}{fd:FuncData}{ps:List Str}(F:Fun K x qual st f fd)
  (h:∀(kV doc pm:Value) (an:Option Addr) (cdv ct:Value) (us:List Value),us.length=ps.length->bindArgs (PySem.W.fnOf x qual (Qfj st) (Qck st) (Qz st) .none kV doc pm an cdv ct) ⟨us,[]⟩=pure (ps.zip us)):Binds K fd ps []:=by
 obtain⟨oc,od,kV,doc,pm,an,cdv,ct,osl,rfl,lk,hcd⟩:=F.ex
 exact .all (h kV doc pm an cdv ct)
theorem QxF{x qual:Str}{st:Stmt}{f:Addr}{oc:Value}{od an:Option Addr}{osl:Array (Option Value)}{kV doc pm cdv ct:Value}(l:K.lookup f=some ⟨oc,od,.func (PySem.W.fnOf x qual (Qfj st) (Qck st) (Qz st) .none kV doc pm an cdv ct),osl⟩)
  (c:PySem.W.codeIn K cdv qual=true) (k:PySem.W.keepIn K (.ref f)=true):Fun K x qual st f (PySem.W.fnOf x qual (Qfj st) (Qck st) (Qz st) .none kV doc pm an cdv ct):=⟨⟨oc,od,kV,doc,pm,an,cdv,ct,osl,rfl,l,c⟩,k⟩
end
section
variable {X:Cx}
end
theorem Qt0{A B:Prop}(h:B):if false=true then A else B:=by
 rw[if_neg Zaz]
 exact h
theorem Qul{A B:Prop}(h:A):if true=true then A else B:=by
 rw[if_pos rfl]
 exact h
def QP(H H':Hp):Prop:=∀b o,H b=some o->H' b=some o
theorem QP.refl(H:Hp):QP H H:=λ_ _ h=>h
theorem QP.trans{H H1 H2:Hp}(a:QP H H1)(b:QP H1 H2):QP H H2:=λc o h=>b c o (a c o h)
theorem QP.free{H H':Hp}(e:QP H H'){l:Addr}(h:H' l=Option.none):H l=Option.none:=by
 cases q:H l with
 | none=>rfl
 | some o=>
  rw[e l o q]at h
  cases h
end L2
namespace L2
open PySem PySem.Spec PyProof.Rows
theorem Qlx(env:Env)(body:Str×NameKind->List (Str×Addr)->Sem (ForInStep (List (Str×Addr))))
  (hb:∀n k cs,body (n,k) cs=if(k == NameKind.free)=true then(do let c ← cellOf env n;pure (ForInStep.yield ((n,c)::cs)))else pure (ForInStep.yield cs)):
  ∀(names:List (Str×NameKind)) (acc:List (Str×Addr)),(∀y∈names,y.2= .free->∃c,env.cells.lookup y.1=some c)->(∀x c,acc.lookup x=some c->env.cells.lookup x=some c)→
   ∃cl,forIn names acc body=(pure cl:Sem _)/\(∀x c,cl.lookup x=some c->env.cells.lookup x=some c)/\(∀x,acc.lookup x≠none->cl.lookup x≠none)/\∀y∈names,y.2= .free->cl.lookup y.1≠none
 | [],acc,_,ha=>⟨acc,rfl,ha,λ_ h=>h,λy hy=>by simp at hy⟩
 | (n,k)::r,acc,hn,ha=>by
  rw[Zcj,hb]
  have hr:∀y∈r,y.2= .free->∃c,env.cells.lookup y.1=some c:=λy hy=>hn y (Ze _ hy)
  by_cases hk:k= .free
  ·subst hk
   obtain⟨c,hc⟩:=hn (n,.free) Zo rfl
   have hce:cellOf env n=pure c:=by unfold cellOf;rw[show env.cells.lookup n=some c from hc]
   rw[if_pos (by rfl),hce]
   obtain⟨cl,e,h1,h2,h3⟩:=Qlx env body hb r ((n,c)::acc) hr (λx c' e=>by
    rw[Zv]at e
    cases q:x == n with
    | true=>rw[q]at e;cases e;rw[beq_iff_eq]at q;rw[q];exact hc
    | false=>rw[q]at e;exact ha x c' e)
   have hcons:∀x,((n,c)::acc).lookup x≠none->cl.lookup x≠none:=h2
   refine⟨cl,by simpa using e,h1,λx hx=>hcons x ?_,λy hy hf=>?_⟩
   ·rw[Zv];cases x == n with
    | true=>simp
    | false=>exact hx
   ·rcases Zs.mp hy with rfl | hy
    ·exact hcons _ (by simp[Zv])
    ·exact h3 y hy hf
  ·rw[if_neg (by simpa using hk)]
   obtain⟨cl,e,h1,h2,h3⟩:=Qlx env body hb r acc hr ha
   refine⟨cl,by simpa using e,h1,h2,λy hy hf=>?_⟩
   rcases Zs.mp hy with rfl | hy
   ·exact absurd hf hk
   ·exact h3 y hy hf
theorem QvI{scope:Scope}{env:Env}(h:∀y∈scope.names,y.2= .free->∃c,env.cells.lookup y.1=some c):
  ∃cl,closureFor scope env=pure cl/\(∀x c,cl.lookup x=some c->env.cells.lookup x=some c)/\∀y∈scope.names,y.2= .free->∃c,cl.lookup y.1=some c:=by
 unfold closureFor
 obtain⟨cl,e,h1,_,h3⟩:=Qlx env (λx cs=>match x with | (name,kind)=>if(kind == NameKind.free)=true then(do let c ← cellOf env name;pure (ForInStep.yield ((name,c)::cs)))else pure (ForInStep.yield cs)) (λ_ _ _=>rfl) scope.names [] h (λx c e=>by simp at e)
 refine⟨cl,?_,h1,λy hy hf=>Option.ne_none_iff_exists'.mp (h3 y hy hf)⟩
 show(forIn scope.names [] _ >>= λr=>pure r)=_
 rw[e];rfl
noncomputable def cxc(X:Cx)(N':List Str)(scope:Scope)(cl:List (Str×Addr))(C:Addr)(fp:List Addr)(s3:Shared)(H3:Hp):Cx:=
 {X with N:=N',s₀:=s3,H₀:=H3,env:=compEnvC scope cl C X.env,outer:=X.stack,ex:=fp,fn:=λx=>decide (scope.names.lookup x=some .cell),pn:=[],xe:=λ_ _=>False}
def PTs(X:Cx)(ifs:List Expr)(t:TT):Prop:=
 ∀(pins:List (Addr×Obj)) (s:Shared) (σ:St) (H:Hp) (Q:Bool->Hp->Prop),Inv X pins σ H s->t σ H Q→
  wpAny (model X.prog X.w) X.A (forIn ifs true λc r=>if r=true then do let ok ← isTrue c X.env (eval c X.env);pure (ForInStep.yield ok)else pure (ForInStep.yield r)) (TP X pins σ Q) X.xe s
noncomputable def QAy:TT:=λ_ H Q=>Q true H
theorem QwQ{X:Cx}:PTs X [] QAy:=λ_ _ _ H _ I h=>wpAny_tests_nil ⟨H,I,h⟩
theorem QwK{X:Cx}{c:Expr}{t:TT}(h:PT X c t):PTs X [c] t:=λpins s σ H Q I q=>wpAny_tests_one (h pins s σ H Q I q)
def Qkv(X:Cx)(N':List Str)(scope:Scope)(σ σ':St):Prop:=
 σ'.length=N'.length/\∀(j:Nat) (x:Str) (v:V),N'[j]? =some x->σ'[j]? =some (some v)->scope.names.lookup x=some .free/\∃i:Nat,X.N[i]? =some x/\σ[i]? =some (some v)/\(X.env.kindOf x=some .cell∨X.env.kindOf x=some .free)
noncomputable def QmL(wi:TI)(cap:St->St->Prop)(g:TG)(tc:TT)(te:TE):TE:=λσ H Q=>wi σ H λJ H1=>∃σc,cap σ σc/\∀D,H1 D=none->∃W:Nat->Nat->List V->Hp->Prop,
 (∃m,W 0 m [] (upd H1 D (.lst [])))/\∀i m acc H2,W i m acc H2->(J.stop i H2/\Q (.ref D) H2)∨
  (J.go i H2/\∀x H3,J.yld i H2 x H3->g x σc H3 λσ2 H4=>(∀(j:Nat) v,σc[j]? =some (some v)->σ2[j]? =some (some v))/\tc σ2 H4 λb H5=>if b=true then
   te σ2 H5 λy H6=>H6 D=some (.lst acc)/\acc.length<sizeLine/\∃m',m'<m/\W (i+1) m' (acc++[y]) (upd H6 D (.lst (acc++[y])))
   else ∃m',m'<m/\W (i+1) m' acc H5)
theorem Qc8{env:Env}:∀{names:List (Str×NameKind)}{x:Str},names.lookup x=some .free→
  (names.map λ(n,k)=>if(k == NameKind.free && env.scope.kind == .function && env.kindOf n == some .cell)then(n,NameKind.cell)else(n,k)).lookup x=some .cell∨
  (names.map λ(n,k)=>if(k == NameKind.free && env.scope.kind == .function && env.kindOf n == some .cell)then(n,NameKind.cell)else(n,k)).lookup x=some .free
 | [],_,h=>by simp at h
 | (n,k)::r,x,h=>by
  have ih:= @Qc8 env r x
  rw[ZM]
  cases hx:x == n with
  | true=>
   simp only[Zv,hx]at h
   cases h
   dsimp only
   split
   ·left;simp[Zv,hx]
   ·right;simp[Zv,hx]
  | false=>
   simp only[Zv,hx]at h
   dsimp only
   split
   ·simp only[Zv,hx];exact ih h
   ·simp only[Zv,hx];exact ih h
theorem QeM{env:Env}:∀{names:List (Str×NameKind)}{x:Str},
  ((names.map λ(n,k)=>if(k == NameKind.free && env.scope.kind == .function && env.kindOf n == some .cell)then(n,NameKind.cell)else(n,k)).lookup x=some .cell∨
  (names.map λ(n,k)=>if(k == NameKind.free && env.scope.kind == .function && env.kindOf n == some .cell)then(n,NameKind.cell)else(n,k)).lookup x=some .free)→
  ∃k,(x,k)∈names/\(k= .free∨k= .cell)
 | [],_,h=>by simp at h
 | (n,k)::r,x,h=>by
  have ih:= @QeM env r x
  rw[ZM]at h
  cases hx:x == n with
  | true=>
   have hn:x=n:=by simpa using hx
   subst hn
   dsimp only at h
   split at h
   ·rename_i hc
    simp only[Zh]at hc
    refine⟨k,Zo,.inl (by simpa using hc.1.1)⟩
   ·simp only[Zv,hx]at h
    refine⟨k,Zo,?_⟩
    rcases h with h | h
    ·exact .inr (Option.some.inj h)
    ·exact .inl (Option.some.inj h)
  | false=>
   dsimp only at h
   have:∃k,(x,k)∈r/\(k= .free∨k= .cell):=by
    apply ih
    split at h
    ·simpa only[Zv,hx]using h
    ·simpa only[Zv,hx]using h
   obtain⟨k',h1,h2⟩:=this
   exact⟨k',Ze _ h1,h2⟩
theorem QgH:∀(names:List (Str×NameKind)) (n:Nat) (acc:List (Str×Addr)) (x:Str) (c:Addr),(cellsFrom n names acc).lookup x=some c->acc.lookup x=some c∨(n<=c/\(x,NameKind.cell)∈names)
 | [],_,_,_,_,h=> .inl h
 | (nm,k)::r,n,acc,x,c,h=>by
  unfold cellsFrom at h
  split at h
  ·rename_i hk
   have hk:k= .cell:=by simpa using hk
   rcases QgH r (n+1) ((nm,n)::acc) x c h with h | ⟨h1,h2⟩
   ·rw[Zv]at h
    cases q:x == nm with
    | true=>
     rw[q]at h
     cases h
     have:x=nm:=by simpa using q
     exact .inr ⟨Zi _,by rw[this,hk];exact Zo⟩
    | false=>rw[q]at h;exact .inl h
   ·exact .inr ⟨by omega,Ze _ h2⟩
  ·rcases QgH r n acc x c h with h | ⟨h1,h2⟩
   ·exact .inl h
   ·exact .inr ⟨h1,Ze _ h2⟩
theorem QnW:∀(names:List (Str×NameKind)) (n:Nat) (acc:List (Str×Addr)) (x:Str) (c:Addr),(x,NameKind.cell)∈names->(cellsFrom n names acc).lookup x=some c->n<=c
 | (nm,k)::r,n,acc,x,c,hm,h=>by
  unfold cellsFrom at h
  split at h
  ·by_cases hr:(x,NameKind.cell)∈r
   ·have:=QnW r (n+1) _ x c hr h
    omega
   ·have hx:x=nm:=by
     rcases Zs.mp hm with e | e
     ·exact(Prod.mk.inj e).1
     ·exact absurd e hr
    rcases QgH r (n+1) ((nm,n)::acc) x c h with h | ⟨h1,_⟩
    ·rw[Zv,show(x == nm)=true by simpa using hx]at h
     cases h
     exact Zi _
    ·omega
  ·rename_i hk
   rcases Zs.mp hm with e | e
   ·exact absurd (by rw[← (Prod.mk.inj e).2];rfl) hk
   ·exact QnW r n acc x c e h
theorem QnP:∀(names:List (Str×NameKind)) (n:Nat) (acc:List (Str×Addr)),(∀x y c,acc.lookup x=some c->acc.lookup y=some c->x=y)->(∀x c,acc.lookup x=some c->c<n)→
  ∀x y c,(cellsFrom n names acc).lookup x=some c->(cellsFrom n names acc).lookup y=some c->x=y
 | [],_,_,hi,_,x,y,c,h1,h2=>hi x y c h1 h2
 | (nm,k)::r,n,acc,hi,hb,x,y,c,h1,h2=>by
  unfold cellsFrom at h1 h2
  split at h1
  ·rename_i hk
   rw[if_pos hk]at h2
   refine QnP r (n+1) ((nm,n)::acc) (λx y c h1 h2=>?_) (λx c h=>?_) x y c h1 h2
   ·rw[Zv]at h1 h2
    cases qx:x == nm with
    | true=>
     rw[qx]at h1
     cases h1
     cases qy:y == nm with
     | true=>rw[show x=nm by simpa using qx,show y=nm by simpa using qy]
     | false=>rw[qy]at h2;exact absurd (hb y _ h2) (ZV _)
    | false=>
     rw[qx]at h1
     cases qy:y == nm with
     | true=>rw[qy]at h2;cases h2;exact absurd (hb x _ h1) (ZV _)
     | false=>rw[qy]at h2;exact hi x y c h1 h2
   ·rw[Zv]at h
    cases qx:x == nm with
    | true=>rw[qx]at h;cases h;exact ZbT _
    | false=>rw[qx]at h;exact Zbn (hb x c h)
  ·rename_i hk
   rw[if_neg hk]at h2
   exact QnP r n acc hi hb x y c h1 h2
theorem QgB:∀(names:List (Str×NameKind)) (n:Nat) (acc:List (Str×Addr)) (x:Str),(∃c,acc.lookup x=some c)->∃c,(cellsFrom n names acc).lookup x=some c
 | [],_,_,_,h=>h
 | (nm,k)::r,n,acc,x,h=>by
  unfold cellsFrom
  split
  ·refine QgB r (n+1) _ x ?_
   rw[Zv]
   cases x == nm with
   | true=>exact⟨n,rfl⟩
   | false=>exact h
  ·exact QgB r n acc x h
theorem Qne:∀(names:List (Str×NameKind)) (n:Nat) (acc:List (Str×Addr)) (x:Str),(x,NameKind.cell)∈names->∃c,(cellsFrom n names acc).lookup x=some c
 | (nm,k)::r,n,acc,x,hm=>by
  unfold cellsFrom
  rcases Zs.mp hm with e | e
  ·obtain⟨e1,e2⟩:=Prod.mk.inj e
   subst e1
   rw[← e2,if_pos (by rfl)]
   exact QgB r (n+1) _ x ⟨n,by simp[Zv]⟩
  ·split
   ·exact Qne r (n+1) _ x e
   ·exact Qne r n acc x e
theorem QkV(lo:Nat):∀(names:List (Str×NameKind)) (h:Heap) (acc:List (Str×Addr)),(∀x c,acc.lookup x=some c->lo<=c->h.IsCell c none)->lo<=h.objs.size→
  ∀x c,(cellsFrom h.objs.size names acc).lookup x=some c->lo<=c->(pushCells h names).IsCell c none
 | [],_,_,ha,_,x,c,e,hl=>ha x c e hl
 | (nm,k)::r,h,acc,ha,hlo,x,c,e,hl=>by
  unfold cellsFrom at e
  unfold pushCells
  split at e
  ·rename_i hk
   rw[if_pos hk]
   have hs:=Zas h {cls:= .type "cell",data:= .cell none}
   refine QkV lo r (h.push {cls:= .type "cell",data:= .cell none}) ((nm,h.objs.size)::acc) (λx c e hl=>?_) (by rw[hs];omega) x c (by rw[hs];exact e) hl
   rw[Zv]at e
   cases q:x == nm with
   | true=>rw[q]at e;cases e;exact⟨_,ZA _ rfl,rfl⟩
   | false=>rw[q]at e;exact(ha x c e hl).keeps λb o e=>Zb _ e
  ·rename_i hk
   rw[if_neg hk]
   exact QkV lo r h acc ha hlo x c e hl
theorem Qqm{M:Model}{A:Around}{E:Value->Shared->Prop}{s:Shared}{scope:Scope}{globals builtins:Addr}{cl:List (Str×Addr)}{qual:Str}{env:Env}{Q:Env->Shared->Prop}
  (hQ:∀h':Heap,h'.Ns s.heap.objs.size (λ_=>none)->(∀b o,s.heap.get? b=some o->h'.get? b=some o)->((∀x c,cl.lookup x=some c->c<s.heap.objs.size)->∀x c,(cellsFrom (s.heap.objs.size+1) scope.names cl).lookup x=some c->s.heap.objs.size+1<=c->h'.IsCell c none)→
   Q (newEnv scope s.heap.objs.size globals (cellsFrom (s.heap.objs.size+1) scope.names cl) qual none .none (some env) builtins) {s with heap:=h'}):
  wpAny M A (newFunctionEnv scope globals cl [] qual none .none (some env) builtins) Q E s:=by
 simp only[newFunctionEnv,Option.isSome_some,if_true]
 refine wpAny_bind (wpAny_alloc ?_)
 refine wpAny_bind (wpAny_layCells _ (λname kind cells=>by cases hkc:kind == NameKind.cell<;>simp[hkc]) _ _ _ _ ?_)
 have hs:=Zas s.heap {cls:= .type "dict",data:= .dict #[]}
 rw[show({s with heap:=s.heap.push {cls:= .type "dict",data:= .dict #[]}}:Shared).heap.objs.size=s.heap.objs.size+1 from hs]
 refine wpAny_bind (wpAny_pure (wpAny_pure ?_))
 refine hQ _ ((Heap.Ns.new s.heap (.type "dict")).keeps (pushCells_keeps _ _)) (λb o e=>pushCells_keeps _ _ b o (Zb _ e)) λhb x c e hl=>?_
 refine QkV (s.heap.objs.size+1) scope.names (s.heap.push {cls:= .type "dict",data:= .dict #[]}) cl (λx c e hl=>?_) (by rw[hs];exact Zi _) x c (by rw[hs];exact e) hl
 exact absurd (Zq (hb x c e) (Zx (ZbA _) hl)) (ZV _)
section
variable {X:Cx}{tg iter elt:Expr}{ifs:List Expr}{scope:Scope}{N':List Str}{pos:Pos}
structure QeS (X:Cx) (N':List Str) (scope:Scope):Prop where
 kind:scope.kind= .function
 own:∀y∈scope.names,y.2= .cell->scope.names.lookup y.1=some .cell
 loc:∀y∈scope.names,y.2= .local ->scope.names.lookup y.1=some .local
 free:∀y∈scope.names,y.2= .free->X.env.kindOf y.1=some .cell∨X.env.kindOf y.1=some .free
theorem QuL{pins:List (Addr×Obj)}{σ σc:St}{H3:Hp}{s3:Shared}{fp:List Addr}{cl:List (Str×Addr)}{h':Heap}{tk:Nat}(S:QeS X N' scope)(I:Inv X pins σ H3 s3)
  (hf:∀b∈fp,Qev X pins H3 b) (hfl:∀b∈fp,b<s3.heap.objs.size) (hc1:∀x c,cl.lookup x=some c->X.env.cells.lookup x=some c) (hc2:∀y∈scope.names,y.2= .free->∃c,cl.lookup y.1=some c) (cap:Qkv X N' scope σ σc)
  (hns:h'.Ns s3.heap.objs.size (λ_=>none)) (hk:∀b o,s3.heap.get? b=some o->h'.get? b=some o)
  (hown:(∀x c,cl.lookup x=some c->c<s3.heap.objs.size)->∀x c,(cellsFrom (s3.heap.objs.size+1) scope.names cl).lookup x=some c->s3.heap.objs.size+1<=c->h'.IsCell c none):
  Inv (cxc X N' scope (cellsFrom (s3.heap.objs.size+1) scope.names cl) s3.heap.objs.size fp s3 H3) [] σc H3 {s3 with heap:=h',toks:=tk}:=by
 have nold:∀b,b∈fp->b≠s3.heap.objs.size:=λb hb e=>absurd (hfl b hb) (by rw[e];exact ZV _)
 have cellOld:∀x c,cl.lookup x=some c->∃v,s3.heap.IsCell c v:=λx c e=>I.cell x c (hc1 x c e)
 have cellLt:∀x c,cl.lookup x=some c->c<s3.heap.objs.size:=λx c e=>let ⟨v,q⟩:=cellOld x c e;q.lt
 have cellNew:∀c v,s3.heap.IsCell c v->h'.IsCell c v:=λc v ⟨o,ho,hd⟩=>⟨o,hk c o ho,hd⟩
 have hown:=hown cellLt
 have look:∀x c,(cellsFrom (s3.heap.objs.size+1) scope.names cl).lookup x=some c->cl.lookup x=some c∨(s3.heap.objs.size+1<=c/\(x,NameKind.cell)∈scope.names):=QgH scope.names _ cl
 refine⟨⟨I.ok.mod,S.kind,I.ok.glob,I.ok.blt,Zi _,QnP scope.names _ cl (λx y c h1 h2=>I.ok.inj x y c (hc1 x c h1) (hc1 y c h2)) (λx c e=>Zbn (cellLt x c e)),λx hx=>?_,λx c e1 e2=>?_,I.ok.hd,I.ok.frames,.inl rfl,λb hb=>⟨nold b hb,λx c e=>?_⟩,
  I.bs,Zx I.ok.bsz I.sz,λb o e hb=>?_,λb hb hs=>?_,I.stack,I.QpT⟩,rfl,I.bare,Un.kept hk,⟨_,hns,λj x v h1 h2 h3=>?_⟩,λx c e=>?_,I.hok.fresh (Zi _),λx c e=>?_,λp hp=>absurd (show p∈([]:List (Addr×Obj))from hp) (by simp),I.hok.kept hk,cap.1⟩
 ·obtain⟨k,hm,hk'⟩:=QeM (env:=X.env) (names:=scope.names) (x:=x) hx
  rcases hk' with rfl | rfl
  ·exact QgB scope.names _ cl x (hc2 _ hm rfl)
  ·exact Qne scope.names _ cl x hm
 ·have e1:decide (scope.names.lookup x=some .cell)=true:=e1
  have:=QnW scope.names _ cl x c (Zae (of_decide_eq_true e1)) e2
  exact Zx (ZbA _) this
 ·rcases look x c e with e | ⟨e,_⟩
  ·exact(hf b hb).2.2.2.2.1 x c (hc1 x c e)
  ·intro z
   rw[z]at e
   exact absurd (Zq (hfl b hb) (Zx (ZbA _) e)) (ZV _)
 ·rcases(hf b hb).2.2.2.1 with z | z
  ·exact I.ok.noex b o e z
  ·exact absurd (Zq (Zw e) (Zx I.ok.bsz z)) (ZV _)
 ·rcases Zs.mp (I.QkH b hs)with e | z
  ·exact(hf b hb).2.1 e
  ·exact(hf b hb).2.2.1 z
 ·obtain⟨hl,i,e1,e2,e3⟩:=cap.2 j x v h1 h2
  obtain⟨m,hn,look'⟩:=I.loc
  obtain⟨u,r,l⟩:=look' i x v e1 e2 (e3.elim (λz=> .inr (.inl z)) λz=> .inr (.inr z))
  refine⟨u,r,.inr ⟨Qc8 hl,?_⟩⟩
  rcases l with⟨k,_⟩ | ⟨_,c,ec,hcell⟩
  ·rcases e3 with z | z<;>(rw[k]at z;cases z)
  ·obtain⟨c',ec'⟩:=QgB scope.names (s3.heap.objs.size+1) cl x (hc2 (x,.free) (Zae hl) rfl)
   rcases look x c' ec' with q | ⟨_,q⟩
   ·have:=hc1 x c' q
    rw[ec]at this;cases this
    exact⟨c,ec',cellNew c _ hcell⟩
   ·have:=S.own _ q rfl
    rw[hl]at this
    cases this
 ·rcases look x c e with q | ⟨q,_⟩
  ·obtain⟨v,q⟩:=cellOld x c q
   exact⟨v,cellNew c v q⟩
  ·exact⟨none,hown x c e q⟩
 ·rcases look x c e with q | ⟨q,_⟩
  ·exact I.freeC x c (hc1 x c q)
  ·exact I.hok.fresh (by omega)
theorem QrT{prog:Program}{w:World}{A:Around}{env:Env}{it acc:Value}{R:Result->Shared->Prop}{s0:Shared}(J:Nat->Shared->Prop)
  (turn:∀n s,J n s->wpAny (model prog w) A (pyNext it) (λr s1=>match r with
   | none=>R (.ok .next) s1
   | some v=>wpAny (model prog w) A (letOwnedTupleGo tg it v) (λ_ s2=>wpAny (model prog w) A (assign tg env v) (λ_ s3=>
     wpAny (model prog w) A (forIn ifs true λc r=>if r=true then do let ok ← isTrue c env (eval c env);pure (ForInStep.yield ok)else pure (ForInStep.yield r)) (λok s4=>
      if ok=true then wpAny (model prog w) A (eval elt env) (λx s5=>wpAny (model prog w) A (call (.builtin "list.append") [acc,x]) (λ_ s6=>∃m,m<n/\J m s6) (λ_ _=>False) s5) (λ_ _=>False) s4
      else ∃m,m<n/\J m s4) (λ_ _=>False) s3) (λ_ _=>False) s2) (λ_ _=>False) s1) (λ_ _=>False) s)
  (n:Nat) (h:J n s0):codeAny (model prog w) A (.compLoop (.ListComp elt [⟨tg,iter,ifs,0⟩] scope pos) 0 it acc env) R s0:=by
 have up:∀{α:Type}{t:Sem α}{Q:α->Shared->Prop}{E:Value->Shared->Prop}{s:Shared},wpAny (model prog w) A t Q (λ_ _=>False) s->wpAny (model prog w) A t Q E s:=λh=>wpAny_mono h (λ_ _ q=>q) λ_ _ f=>f.elim
 refine codeAny_loop (by rfl) J (λk sk hk=>?_) n h
 show wpAny (model prog w) A ((compTurn (.ListComp elt [⟨tg,iter,ifs,0⟩] scope pos) 0 it acc env).onRaise (λx=>do noteFrame x env;theTreesLotGoes x)) _ _ sk
 refine wpAny_noted (up ?_)
 rw[compTurn_list]
 refine wpAny_bind (wpAny_standAt (wpAny_bind (thn (turn k sk hk) λr s1 h1=>?_)))
 cases r with
 | none=>exact wpAny_pure h1
 | some v=>
  refine wpAny_bind (thn h1 λ_ s2 h2=>wpAny_bind (thn h2 λ_ s3 h3=>wpAny_bind (thn h3 λok s4 h4=>?_)))
  cases ok with
  | false=>exact wpAny_pure ⟨rfl,h4⟩
  | true=>exact wpAny_bind (wpAny_bind (thn h4 λx s5 h5=>wpAny_bind (thn h5 λ_ s6 h6=>wpAny_pure (wpAny_pure ⟨rfl,h6⟩))))
theorem QuF{it D C:Addr}{fp:List Addr}{tn:Nat->Heap->Prop}{J:It}{cl:List (Str×Addr)}{s3 s4:Shared}{H3:Hp}{σc:St}{g:TG}{tc:TT}{te:TE}{Q:Hp->Prop}(hcalm:X.calm=true)
  (T:Turn X.prog X.w X.K tg J fp it tn)
  (hg:PG (cxc X N' scope cl C fp s3 H3) tg g) (ht:PTs (cxc X N' scope cl C fp s3 H3) ifs tc) (he:PE (cxc X N' scope cl C fp s3 H3) elt te)
  (I:Inv (cxc X N' scope cl C fp s3 H3) [] σc H3 s4) (st:tn 0 s4.heap) (ff:∀b∈fp,Qev (cxc X N' scope cl C fp s3 H3) [] H3 b)
  (W:Nat->Nat->List V->Hp->Prop) (hw:∃m,W 0 m [] H3)
  (turn:∀i m acc H2,W i m acc H2->(J.stop i H2/\Q H2)∨
   (J.go i H2/\∀x H5,J.yld i H2 x H5->g x σc H5 λσ2 H6=>(∀(j:Nat) v,σc[j]? =some (some v)->σ2[j]? =some (some v))/\tc σ2 H6 λb H7=>if b=true then
    te σ2 H7 λy H8=>H8 D=some (.lst acc)/\acc.length<sizeLine/\∃m',m'<m/\W (i+1) m' (acc++[y]) (upd H8 D (.lst (acc++[y])))
    else ∃m',m'<m/\W (i+1) m' acc H7))
  {R:Result->Shared->Prop}(hR:∀H' s',Inv (cxc X N' scope cl C fp s3 H3) [] σc H' s'->Q H'->R (.ok .next) s'):
  codeAny (model X.prog X.w) X.A (.compStart (.ListComp elt [⟨tg,iter,ifs,0⟩] scope pos) 0 (.ref it) (.ref D) (compEnvC scope cl C X.env)) R s4:=by
 obtain⟨m0,w0⟩:=hw
 have stat:∀{H':Hp},(∀b∈fp,H' b=none)->∀b∈fp,Qev (cxc X N' scope cl C fp s3 H3) [] H' b:=λhn b hb=>⟨hn b hb,(ff b hb).2⟩
 have loop:codeAny (model X.prog X.w) X.A (.compLoop (.ListComp elt [⟨tg,iter,ifs,0⟩] scope pos) 0 (.ref it) (.ref D) (compEnvC scope cl C X.env)) R s4:=by
  refine QrT (λn s'=>∃i acc H',Inv (cxc X N' scope cl C fp s3 H3) [] σc H' s'/\tn i s'.heap/\(∀b∈fp,H' b=none)/\W i n acc H') ?_ m0 ⟨0,[],H3,I,st,λb hb=>(ff b hb).1,w0⟩
  rintro n s5 ⟨i,acc,H5,I5,st5,fr5,w5⟩
  rcases turn i n acc H5 w5 with⟨stop,q⟩ | ⟨go,step⟩
  ·refine thn (T.done (cxc X N' scope cl C fp s3 H3) rfl rfl rfl hcalm i [] s5 σc H5 _ I5 (stat fr5) st5 stop) λr s6 ⟨hr,I6⟩=>?_
   subst hr
   exact hR H5 s6 I6 q
  ·refine thn (T.item (cxc X N' scope cl C fp s3 H3) rfl rfl rfl hcalm i [] s5 σc H5 _ I5 (stat fr5) st5 go) λr s6 ⟨u,hr,h6⟩=>?_
   subst hr
   refine thn h6 λ_ s7 ⟨x,H7,I7,r7,y7,st7,fr7⟩=>?_
   have I7':=I7.pinned (stat fr7) (T.obj _ _ st7)
   refine thn (hg _ s7 σc H7 x u _ I7' r7 (step x H7 y7)) λ_ s8 ⟨σ8,H8,I8,k8,q8⟩=>?_
   refine thn (ht _ s8 σ8 H8 _ I8 q8) λok s9 ⟨H9,I9,q9⟩=>?_
   have again:∀{H':Hp}{s':Shared}{acc':List V},Inv (cxc X N' scope cl C fp s3 H3) ([]++Qh3 fp s7.heap) σ8 H' s'->(∃m',m'<n/\W (i+1) m' acc' H')→
     ∃m,m<n/\∃i acc H',Inv (cxc X N' scope cl C fp s3 H3) [] σc H' s'/\tn i s'.heap/\(∀b∈fp,H' b=none)/\W i m acc H':=λ{H' s' acc'} I' ⟨m',hm,w'⟩=>by
    have pin:∀b∈fp,∀o,s7.heap.get? b=some o->s'.heap.get? b=some o/\H' b=none:=λb hb o e=>by
     have z:=I'.pin (b,o) (Zc _ (Zc _ (QhA hb e)))
     exact⟨z.1,z.2.1⟩
    refine⟨m',hm,i+1,acc',H',?_,T.keep _ _ _ st7 λb hb o e=>(pin b hb o e).1,λb hb=>?_,w'⟩
    ·exact I'.Qhc.weak (I.len.trans I8.len.symm) k8
    ·obtain⟨o,e,_⟩:=T.obj _ _ st7 b hb
     exact(pin b hb o e).2
   cases ok with
   | false=>
    rw[if_neg Zaz]at q9 ⊢
    exact again I9 q9
   | true=>
    rw[if_pos rfl]at q9 ⊢
    refine thn (he _ s9 σ8 H9 _ I9 q9) λyv s10 ⟨y,H10,I10,r10,e10,l10,q10⟩=>?_
    refine thn (Qin _ s10 σ8 H10 (.ref D) [y] (.ref D) [yv] (λv H11=>H11=upd H10 D (.lst (acc++[y]))) I10 rfl (.cons r10 .nil) ⟨D,acc,y,rfl,rfl,e10,l10,rfl⟩) λ_ s11 ⟨_,H11,I11,_,e11⟩=>?_
    subst e11
    exact again I11 q10
 exact codeAny_compStart_list loop (T.self _ 0 _ _ _ st loop)
theorem QoF{wi:TI}{g:TG}{tc:TT}{te:TE}{cp:Pos}{use:Option (Value->Sem Unit)}{pins:List (Addr×Obj)}{s:Shared}{σ:St}{H:Hp}{QV:Value->Shared->Prop}{Q:VK}(hcalm:X.calm=true)(S:QeS X N' scope)(hi:PI X tg iter wi)
  (hin:∀cl C fp s3 H3,PG (cxc X N' scope cl C fp s3 H3) tg g/\PTs (cxc X N' scope cl C fp s3 H3) ifs tc/\PE (cxc X N' scope cl C fp s3 H3) elt te)
  (hs:∀x,foldedSetIterable iter X.env x=pure x) (I:Inv X pins σ H s) (h:QmL wi (Qkv X N' scope) g tc te σ H Q)
  (fin:∀(D C:Addr) (H':Hp) (s':Shared),Inv X pins σ H' s'->H' C=none->C≠X.env.locals->X.s₀.heap.objs.size<=C->(∀x c,X.env.cells.lookup x=some c->c≠C)->(∀p∈X.pn++pins,p.1≠C)->(∃m,s'.heap.Ns C m)->Q (.ref D) H'→
   compPost (model X.prog X.w) X.A X.xe use QV (.ref D) C (.ok .next) s'):
  wpAny (model X.prog X.w) X.A (comprehension (.ListComp elt [⟨tg,iter,ifs,0⟩] scope pos) scope X.env cp (newList []) false (eval iter X.env) use) QV X.xe s:=by
 obtain⟨cl,hcl,hc1,hc2⟩:=QvI (scope:=scope) (env:=X.env) λy hy hf=>I.ok.has y.1 (S.free y hy hf)
 refine wpAny_comprehension_free (g:=⟨tg,iter,ifs,0⟩) (gs:=[]) rfl hs hcl S.kind S.loc ?_
 refine thn (hi pins s σ H _ I h) λv s1 h1=>thn h1 λitv s2 h2=>?_
 obtain⟨it,fp,tn,J,H2,e,I2,T,st2,f2,σc,cap,hw⟩:=h2
 subst e
 have hD0:H2 s2.heap.objs.size=none:=I2.hok.fresh (Zi _)
 obtain⟨W,hW0,turn⟩:=hw _ hD0
 have fpl:∀b∈fp,b<s2.heap.objs.size:=λb hb=>let ⟨o,e,_⟩:=T.obj _ _ st2 b hb;Zw e
 have hlist:∀D:Addr,D=s2.heap.objs.size->∃x,x=D:=λD _=>⟨D,rfl⟩
 refine wpAny_newObj_type ?_
 have I3:Inv X pins σ (upd H2 s2.heap.objs.size (.lst [])) {s2 with heap:=s2.heap.push {cls:= .type "list",dict:=none,data:= .seq ([]:List Value).toArray}}:=
  I2.laid (t':=s2.toks) (λb o e=>Zb _ e) (Zi _) ⟨ZX _,[],0,.nil,ZA _ rfl⟩
 generalize hs3:({s2 with heap:=s2.heap.push {cls:= .type "list",dict:=none,data:= .seq ([]:List Value).toArray}}:Shared)=s3 at I3
 have hs3':s3.heap=s2.heap.push {cls:= .type "list",dict:=none,data:= .seq ([]:List Value).toArray}:=by rw[← hs3]
 have sz3:s3.heap.objs.size=s2.heap.objs.size+1:=by rw[hs3',Zas]
 have old3:∀b o,s2.heap.get? b=some o->s3.heap.get? b=some o:=λb o e=>by rw[hs3'];exact Zb _ e
 have f3:∀b∈fp,Qev X pins (upd H2 s2.heap.objs.size (.lst [])) b:=λb hb=>⟨by rw[QS (ZS (fpl b hb))];exact(f2 b hb).1,(f2 b hb).2⟩
 have fpl3:∀b∈fp,b<s3.heap.objs.size:=λb hb=>by rw[sz3];exact Zbn (fpl b hb)
 refine Qqm (λh4 hns4' keep4 hown4=>?_)
 have I4:=QuL (tk:=s3.toks) S I3 f3 fpl3 hc1 hc2 cap hns4' keep4 hown4
 have hout:∀H' s',Inv (cxc X N' scope (cellsFrom (s3.heap.objs.size+1) scope.names cl) s3.heap.objs.size fp s3 (upd H2 s2.heap.objs.size (.lst []))) [] σc H' s'->Inv X pins σ H' s':=λH' s' J'=>
  I3.QzG (ch:=fp) J'.os J'.base J'.hok J'.bare λb hb=>⟨(f3 b hb).2.2.2.1,(f3 b hb).2.1,(f3 b hb).2.2.2.2.1,(f3 b hb).2.2.2.2.2⟩
 obtain⟨hg,ht,he⟩:=hin (cellsFrom (s3.heap.objs.size+1) scope.names cl) s3.heap.objs.size fp s3 (upd H2 s2.heap.objs.size (.lst []))
 have fc:∀b∈fp,Qev (cxc X N' scope (cellsFrom (s3.heap.objs.size+1) scope.names cl) s3.heap.objs.size fp s3 (upd H2 s2.heap.objs.size (.lst []))) [] (upd H2 s2.heap.objs.size (.lst [])) b:=λb hb=>
  ⟨(f3 b hb).1,ZS (fpl3 b hb),λhs'=>(Zs.mp (I3.QkH b hs')).elim (f3 b hb).2.1 (f3 b hb).2.2.1,.inl hb,λx c e=>(by
   rcases QgH scope.names _ cl x c e with e | ⟨e,_⟩
   ·exact(f3 b hb).2.2.2.2.1 x c (hc1 x c e)
   ·intro z
    rw[z]at e
    exact absurd (Zq (fpl3 b hb) (Zx (ZbA _) e)) (ZV _)),λp hp=>absurd (show p∈([]:List (Addr×Obj))from hp) (by simp)⟩
 have hC1:s3.heap.objs.size≠X.env.locals:=Ne.symm (ZS I3.lt)
 refine QuF (D:=s2.heap.objs.size) (C:=s3.heap.objs.size) (s3:=s3) (σc:=σc) (H3:=upd H2 s2.heap.objs.size (.lst [])) (W:=W) (Q:=λH'=>Q (.ref s2.heap.objs.size) H') hcalm T hg ht he I4 (T.keep _ _ _ st2 λb hb o e=>keep4 b o (old3 b o e)) fc hW0 turn λH' s' J' q=>?_
 have O:=hout H' s' J'
 refine fin _ _ H' s' O J'.free hC1 (Zx I3.sz (Zi _)) (λx c e z=>?_) (λp hp z=>?_) (let ⟨m,hn,_⟩:=J'.loc;⟨m,hn⟩) q
 ·obtain⟨v,o,ho,_⟩:=I3.cell x c e
  exact absurd (Zw ho) (by rw[z];exact ZV _)
 ·exact absurd (Zw (I3.pin p hp).1) (by rw[z];exact ZV _)
theorem Inv.Qvh{pins:List (Addr×Obj)}{σ:St}{H:Hp}{s:Shared}{C:Addr}{h':Heap}(I:Inv X pins σ H s)(hs:Heap.SameBut C s.heap h')(hn:H C=none)(hL:C≠X.env.locals)(h1:X.s₀.heap.objs.size<=C)
  (h2:∀x c,X.env.cells.lookup x=some c->c≠C) (h3:∀p∈X.pn++pins,p.1≠C):Inv X pins σ H {s with heap:=h'}:=
 I.turned (t':=s.toks) (λb o hb e=>(hs.2 b hb).trans e) hn hL (.inr h1) h2 h3
theorem Qpy{wi:TI}{g:TG}{tc:TT}{te:TE}(hcalm:X.calm=true)(S:QeS X N' scope)(hi:PI X tg iter wi)
  (hin:∀cl C fp s3 H3,PG (cxc X N' scope cl C fp s3 H3) tg g/\PTs (cxc X N' scope cl C fp s3 H3) ifs tc/\PE (cxc X N' scope cl C fp s3 H3) elt te)
  (hs:∀x,foldedSetIterable iter X.env x=pure x:=by intro _;rfl):PE X (.ListComp elt [⟨tg,iter,ifs,0⟩] scope pos) (QmL wi (Qkv X N' scope) g tc te):=by
 intro pins s σ H Q I h
 rw[eval_ListComp]
 refine QoF (use:=none) hcalm S hi hin hs I h λD C H' s' O h1 h2 h3 h4 h5 ⟨m,hm⟩ q=>?_
 exact⟨m,hm,λh' hs'=>⟨.ref D,H',O.Qvh hs' h1 h2 h3 h4 h5,rfl,q⟩⟩
theorem QvF{wi:TI}{g:TG}{tc:TT}{te:TE}{i:Nat}{x:Str}{pos' spos:Pos}(hN:X.N.Nodup)(hx1:X.N[i]? =some x)(hx:Loc X.env.scope x)(hf:X.fn x=true∨X.env.scope.names.lookup x=some .local)(hcalm:X.calm=true)(S:QeS X N' scope)(hi:PI X tg iter wi)
  (hin:∀cl C fp s3 H3,PG (cxc X N' scope cl C fp s3 H3) tg g/\PTs (cxc X N' scope cl C fp s3 H3) ifs tc/\PE (cxc X N' scope cl C fp s3 H3) elt te)
  (hs:∀x,foldedSetIterable iter X.env x=pure x:=by intro _;rfl):
  PS X (.Assign [.Name x pos'] (.ListComp elt [⟨tg,iter,ifs,0⟩] scope pos) spos) (QeA (QmL wi (Qkv X N' scope) g tc te) (Qf5 i)):=by
 have hb:∃b,swapsWith (.ListComp elt [⟨tg,iter,ifs,0⟩] scope pos) (some (.Name x pos')) spos.line X.env=pure b:=⟨_,rfl⟩
 obtain⟨b,hb⟩:=hb
 cases b with
 | false=>exact Qif hN hx1 hx (Qpy hcalm S hi hin hs) hb hf
 | true=>
  intro pins s σ H D I h
  rw[exec_Assign_Name_used _ _ _ _ hb]
  refine wpAny_bind (wpAny_standAt (wpAny_bind ?_))
  show wpAny _ X.A (do let _ ← comprehension (.ListComp elt [⟨tg,iter,ifs,0⟩] scope pos) scope X.env _ (newList []) false (eval iter X.env) (some (assign (.Name x pos') X.env))) _ _ s
  refine wpAny_bind (thn (QoF (use:=some (assign (.Name x pos') X.env)) (QV:=λ_ s'=>SP X pins D .next s') hcalm S hi hin hs I h λDl C H' s' O h1 h2 h3 h4 h5 ⟨m,hm⟩ q=>?_) λ_ s' hq=>wpAny_pure (wpAny_pure hq))
  refine wpAny_assign_Name (Qmg O hN hx1 hx (v:= .ref Dl) (u:= .ref Dl) rfl (λs2 I2 hsb=>?_) hf)
  obtain⟨a,sb,ha⟩:=hsb
  have haC:C≠a:=by
   rcases ha with rfl | ha
   ·exact h2
   ·exact Ne.symm (h4 _ _ ha)
  exact⟨m,hm.sameBut sb haC,λh' hs'=>⟨_,H',I2.Qvh hs' h1 h2 h3 h4 h5,q⟩⟩
end
end L2
namespace L2
open PySem PySem.Spec PyProof.Rows
section
variable {X:Cx}{pins:List (Addr×Obj)}{σ:St}{H H':Hp}{s:Shared}{h':Heap}
theorem Inv.Qp9{t':Nat}{ch:List Addr}{T:Addr}{ts:List V}(I:Inv X pins σ H s)(hf:∀b∈ch,Qev X pins H b)(k:∀b o,b∉ch->s.heap.get? b=some o->h'.get? b=some o)(hp:∀b∈ch,∃o,h'.get? b=some o)
  (hT:s.heap.objs.size<=T) (hnew:ts.length<=sizeLine/\∃its:List Value,QC ts its/\IsTup h' T its.toArray):Inv X pins σ (upd H T (.tup ts)) {s with heap:=h',toks:=t'}:=by
 have hn:H T=none:=I.hok.fresh hT
 have neT:∀b u,H b=some u->b≠T:=λb u e=>Qb5 e hn
 have nch:∀b u,H b=some u->b∉ch:=λb u e hb=>by rw[(hf b hb).1]at e;cases e
 have ltT:∀b o,s.heap.get? b=some o->b≠T:=λb o e=>ZS (Zq (Zw e) hT)
 refine I.step (g':=s.gens) (d':=s.drawn) (ch:=ch) (λb hb=>?_) (λb o _ _ hc e _=>k b o hc e) (λb o _ _ hc e _=>⟨o.slots,k b o hc e⟩) (λb o _ e n=>by rw[QS (ltT b o e)];exact n)
  (λb o hc e=>⟨o,k b o hc e⟩) (λb xs e=>by rw[QS (neT b _ e)];exact e) (λb o u e=>by rw[QS (neT b _ e)];exact e) (λb ps e=>⟨#[],by rw[QS (neT b _ e),e];simp⟩) (λm hm=>?_) (λb u e=>?_) I.bare
 ·obtain⟨f0,f1,f2,f3,f4,f5⟩:=hf b hb
  exact⟨f3,f1,f4,f5⟩
 ·obtain⟨o,es,ep,ho,r⟩:=hm
  exact⟨o,es,ep,k _ o (λz=>(hf _ z).2.1 rfl) ho,r⟩
 ·by_cases hb:b=T
  ·subst hb
   rw[Qaj]at e
   cases e
   exact hnew
  ·rw[QS hb]at e
   refine(I.hok b u e).QjH (λc v hc q=>k c v ?_ q) (λc q=>by rw[QS (neT c _ q)];exact q) λc xs q=>by rw[QS (neT c _ q)];exact q
   rcases hc with z | z
   ·rw[z];exact nch b u e
   ·exact nch c _ z
theorem Inv.turns{t':Nat}{ch:List Addr}(I:Inv X pins σ H s)(hf:∀b∈ch,Qev X pins H b)(k:∀b o,b∉ch->s.heap.get? b=some o->h'.get? b=some o):Inv X pins σ H {s with heap:=h',toks:=t'}:=by
 have nch:∀b u,H b=some u->b∉ch:=λb u e hb=>by rw[(hf b hb).1]at e;cases e
 refine I.step (g':=s.gens) (d':=s.drawn) (ch:=ch) (λb hb=>?_) (λb o _ _ hc e _=>k b o hc e) (λb o _ _ hc e _=>⟨o.slots,k b o hc e⟩) (λb o _ e n=>n)
  (λb o hc e=>⟨o,k b o hc e⟩) (λb xs e=>e) (λb o u e=>e) (λb ps e=>⟨#[],by rw[e];simp⟩) (λm hm=>?_) (λb u e=>?_) I.bare
 ·obtain⟨f0,f1,f2,f3,f4,f5⟩:=hf b hb
  exact⟨f3,f1,f4,f5⟩
 ·obtain⟨o,es,ep,ho,r⟩:=hm
  exact⟨o,es,ep,k _ o (λz=>(hf _ z).2.1 rfl) ho,r⟩
 ·refine(I.hok b u e).QjH (λc v hc q=>k c v ?_ q) (λc q=>q) λc xs q=>q
  rcases hc with z | z
  ·rw[z];exact nch b u e
  ·exact nch c _ z
end
noncomputable def Ite(K:PySem.W.Frag)(a:Addr):It:=
 ⟨λi H=>∃xs x,SqL K H a xs/\xs[i]? =some x,λi H v H'=>∃p x,v= .ref p/\H p=none/\H'=upd H p (.tup [.int i,x])/\∀xs,SqL K H a xs->xs[i]? =some x,λi H=>∃xs,SqL K H a xs/\xs.length<=i⟩
theorem Qre{P:Program}{w:World}{K:PySem.W.Frag}{es:List Expr}{tk:Nat}{tpos:Pos}(a e it:Addr)(hne:e≠it):Turn P w K (.Tuple es tk tpos) (Ite K a) [e,it] e (λi h=>∃old,IsEnum h e it (i:Int) old/\h.IsListIter it a i) where
 mem:=by simp
 obj:=λi h st b hb=>by
  obtain⟨old,he,o,ho,hc,hd⟩:=st
  have hb:b=e∨b=it:=by simpa using hb
  rcases hb with rfl | rfl
  ·exact⟨_,he,λv z=>by cases z⟩
  ·exact⟨o,ho,λv z=>by rw[hd]at z;cases z⟩
 keep:=λi h h' st k=>by
  obtain⟨old,he,hi⟩:=st
  exact⟨old,k e (by simp) _ he,hi.at λo q=>k it (by simp) o q⟩
 item:=by
  intro X hP hw hK hc i pins s σ H E I hf st hg
  subst hP hw hK
  obtain⟨old,he,hi⟩:=st
  obtain⟨xs,x,hq,hx⟩:=hg
  obtain⟨its,rv,p,hz⟩:=I.list hq
  obtain⟨u,hu,ru⟩:=rv.get hx
  refine wpAny_pyNext_enum_item he hi p.isList (x:=u) (by simpa using hu) hne λh1 heo hi1 ht1 hz1 hk1=>?_
  refine⟨.ref s.heap.objs.size,rfl,wpAny_letOwnedTupleGo_enum heo λh2 he2 hs2=>?_⟩
  replace hs2:Heap.SameBut e h1 h2:=hs2
  have helt:e<s.heap.objs.size:=Zw he
  have hilt:it<s.heap.objs.size:=by obtain⟨o,ho,_⟩:=hi;exact Zw ho
  have ht2:IsTup h2 s.heap.objs.size [Value.int i s.toks,u].toArray:=⟨_,(hs2.2 _ (Zbm helt)).trans ht1,rfl,_,rfl⟩
  have hi2:h2.IsListIter it a (i+1):=hi1.extBut hs2.extBut (Ne.symm hne)
  have kk:∀b o,b∉[e,it]->s.heap.get? b=some o->h2.get? b=some o:=λb o hb q=>by
   have h1:b≠e:=λz=>hb (by simp[z])
   have h2:b≠it:=λz=>hb (by simp[z])
   exact hs2.extBut b o h1 (hk1 b o h1 h2 q)
  refine⟨.ref s.heap.objs.size,upd H s.heap.objs.size (.tup [.int i,x]),I.Qp9 (t':=s.toks+1) hf kk (λb hb=>?_) (Zi _) ⟨by show 2<=sizeLine;decide,_,.cons ⟨_,rfl⟩ (.cons ru .nil),ht2⟩,rfl,
   ⟨_,x,rfl,I.hok.fresh (Zi _),rfl,λys hy=>by rw[I.QdR hy hq];exact hx⟩,⟨u,?_,hi2⟩,λb hb=>?_⟩
  ·have hb:b=e∨b=it:=by simpa using hb
   rcases hb with rfl | rfl
   ·exact⟨_,he2⟩
   ·obtain⟨o,ho,_⟩:=hi2;exact⟨o,ho⟩
  ·have:((i+1:Nat):Int)=(i:Int)+1:=by push_cast;rfl
   rw[this];exact he2
  ·have hb':b=e∨b=it:=by simpa using hb
   have:b≠s.heap.objs.size:=by
    rcases hb' with rfl | rfl
    ·exact ZS helt
    ·exact ZS hilt
   rw[QS this];exact(hf b hb).1
 done:=by
  intro X hP hw hK hc i pins s σ H E I hf st hg
  subst hP hw hK
  obtain⟨old,he,hi⟩:=st
  obtain⟨xs,hq,hx⟩:=hg
  obtain⟨its,rv,p,hz⟩:=I.list hq
  have hl:=rv.length
  refine wpAny_pyNext_enum_end (I.ok.hd hc) he hi p.isList (by simp;omega) λh1 eb=>⟨rfl,?_⟩
  exact I.turns (t':=s.toks) hf λb o hb q=>eb b o (λz=>hb (by simp[z])) q
 self:=λ_ _ _ _ _ st h=>by
  obtain⟨old,he,hi⟩:=st
  exact wpAny_pyIter_enum he h
section
variable {X:Cx}
noncomputable def Qza(K:PySem.W.Frag)(ta:TA):TI:=λσ H R=>ta σ H λvs H1=>∃a,vs=[.ref a]/\(∃xs,SqL K H1 a xs)/\R (Ite K a) H1
theorem Qvo{a:Expr}{ta:TA}{p pos:Pos}{es:List Expr}{tk:Nat}{tpos:Pos}(hg:Gl X "enumerate")(hm:X.mg "enumerate" =none)(ha:PA X [a] ta)(hs:starEach [a] X.env=[(false,eval a X.env)]):
  PI X (.Tuple es tk tpos) (.Call (.Name "enumerate" p) [a] [] pos) (Qza X.K ta):=by
 intro pins s σ H R I h
 refine Call_ (Qdg I hg hm PyProof.Rows.boot_enumerate (ZN (thn (ha pos pins s σ H _ I h) λus s1 ⟨vs,H1,I1,r1,q1⟩=>?_) hs rfl))
 obtain⟨l,e,⟨xs,hq⟩,q⟩:=q1
 subst e
 obtain⟨u,rfl,ru⟩:=vals1 r1
 cases ru
 obtain⟨its,rv,pl,hz⟩:=I1.list hq
 refine call_enumerate_list pl.isList λh2 he2 hi2 hz2 hk2=>?_
 have I2:Inv X pins σ H1 {s1 with heap:=h2}:=I1.kept (t':=s1.toks) hk2
 refine wpAny_pyIter_enum he2 ⟨_,[s1.heap.objs.size+1,s1.heap.objs.size],_,_,H1,rfl,I2,Qre l _ _ (Nat.succ_ne_self _),⟨_,he2,hi2⟩,λb hb=>?_,q⟩
 have hb:b=s1.heap.objs.size+1∨b=s1.heap.objs.size:=by simpa using hb
 have hle:s1.heap.objs.size<=b:=by rcases hb with rfl | rfl<;>omega
 exact I1.Qjt hle (I1.hok.fresh hle)
end
noncomputable def Itz(K:PySem.W.Frag)(a b:Addr):It:=
 ⟨λi H=>∃xs ys x y,SqL K H a xs/\SqL K H b ys/\xs[i]? =some x/\ys[i]? =some y,λi H v H'=>∃p x y,v= .ref p/\H p=none/\H'=upd H p (.tup [x,y])/\(∀xs,SqL K H a xs->xs[i]? =some x)/\∀ys,SqL K H b ys->ys[i]? =some y,
  λi H=>∃xs ys,SqL K H a xs/\SqL K H b ys/\(xs.length<=i∨ys.length<=i)⟩
structure Qv8 (z TI TO i1 i2:Addr):Prop where
 a:TI≠z
 b:TO≠z
 c:i1≠z
 d:i2≠z
 e:TI≠TO
 f:TI≠i1
 g:TI≠i2
 h:TO≠i1
 i:TO≠i2
 j:i1≠i2
theorem Qt7{P:Program}{w:World}{K:PySem.W.Frag}{es:List Expr}{tk:Nat}{tpos:Pos}(l1 l2 z TI TO i1 i2:Addr)(D:Qv8 z TI TO i1 i2):
  Turn P w K (.Tuple es tk tpos) (Itz K l1 l2) [z,TI,TO,i1,i2] z (λi h=>IsZip h z TI TO .none/\IsPair h TI (.ref i1) (.ref i2)/\(∃a b,IsPair h TO a b)/\h.IsListIter i1 l1 i/\h.IsListIter i2 l2 i) where
 mem:=by simp
 obj:=λi h st b hb=>by
  obtain⟨hz,hTI,⟨p,q,hTO⟩,⟨o1,ho1,hc1,hd1⟩,⟨o2,ho2,hc2,hd2⟩⟩:=st
  have hb:b=z∨b=TI∨b=TO∨b=i1∨b=i2:=by simpa using hb
  rcases hb with rfl | rfl | rfl | rfl | rfl
  ·exact⟨_,hz,λv z=>by cases z⟩
  ·exact⟨_,hTI,λv z=>by cases z⟩
  ·exact⟨_,hTO,λv z=>by cases z⟩
  ·exact⟨o1,ho1,λv z=>by rw[hd1]at z;cases z⟩
  ·exact⟨o2,ho2,λv z=>by rw[hd2]at z;cases z⟩
 keep:=λi h h' st k=>by
  obtain⟨hz,hTI,⟨p,q,hTO⟩,h1,h2⟩:=st
  exact⟨k z (by simp) _ hz,k TI (by simp) _ hTI,⟨p,q,k TO (by simp) _ hTO⟩,h1.at λo e=>k i1 (by simp) o e,h2.at λo e=>k i2 (by simp) o e⟩
 item:=by
  intro X hP hw hK hc i pins s σ H E I hf st hg
  subst hP hw hK
  obtain⟨hz,hTI,⟨a0,b0,hTO⟩,h1,h2⟩:=st
  obtain⟨xs,ys,x,y,hq1,hq2,hx,hy⟩:=hg
  obtain⟨its,rv,p,hzz⟩:=I.list hq1
  obtain⟨its2,rv2,p2,hzz2⟩:=I.list hq2
  obtain⟨u,hu,ru⟩:=rv.get hx
  obtain⟨u2,hu2,ru2⟩:=rv2.get hy
  have free:∀l ys,SqL X.K H l ys->∀b,b∈[z,TI,TO,i1,i2]->l≠b:=λl ys hq b hb e=>by
   subst e
   rcases hq with(hq | ⟨o,hq⟩) | ⟨o,its,n,hk,hc',_,hd',_⟩
   ·rw[(hf l hb).1]at hq;cases hq
   ·rw[(hf l hb).1]at hq;cases hq
   ·have e1:=I.kIn l o hk
    obtain⟨o1,ho1,hcc1,hd1⟩:=id h1
    obtain⟨o2,ho2,hcc2,hd2⟩:=id h2
    have hb:l=z∨l=TI∨l=TO∨l=i1∨l=i2:=by simpa using hb
    rcases hb with rfl | rfl | rfl | rfl | rfl
    ·rw[hz]at e1;cases e1;simp at hc'
    ·rw[hTI]at e1;cases e1;simp at hc'
    ·rw[hTO]at e1;cases e1;simp at hc'
    ·rw[ho1]at e1;cases e1;rw[hc']at hcc1;simp at hcc1
    ·rw[ho2]at e1;cases e1;rw[hc']at hcc2;simp at hcc2
  have A1:=free l1 xs hq1
  have A2:=free l2 ys hq2
  have DD:ZipApart z TI TO i1 i2 l1 l2:=⟨D.a,D.b,D.c,D.d,D.e,D.f,D.g,D.h,D.i,D.j,A1 z (by simp),A1 TO (by simp),A1 i1 (by simp),A1 i2 (by simp),A2 z (by simp),A2 TO (by simp),A2 i1 (by simp),A2 i2 (by simp)⟩
  refine wpAny_pyNext_zip_item DD hz hTI hTO h1 h2 p.isList p2.isList (x:=u) (y:=u2) (by simpa using hu) (by simpa using hu2) λh3 z3 TO3 a3 b3 T3 sz3 k3=>?_
  refine⟨.ref s.heap.objs.size,rfl,wpAny_letOwnedTupleGo_zip z3 λh4 z4 hs4=>?_⟩
  replace hs4:Heap.SameBut z h3 h4:=hs4
  have lt:∀{c o},s.heap.get? c=some o->c<s.heap.objs.size:=λe=>Zw e
  have hzlt:=lt hz
  have all:∀b∈[z,TI,TO,i1,i2],b<s.heap.objs.size:=λb hb=>by
   have hb:b=z∨b=TI∨b=TO∨b=i1∨b=i2:=by simpa using hb
   obtain⟨o1,ho1,_⟩:=h1
   obtain⟨o2,ho2,_⟩:=h2
   rcases hb with rfl | rfl | rfl | rfl | rfl
   ·exact lt hz
   ·exact lt hTI
   ·exact lt hTO
   ·exact lt ho1
   ·exact lt ho2
  have kk:∀b o,b∉[z,TI,TO,i1,i2]->s.heap.get? b=some o->h4.get? b=some o:=λb o hb q=>by
   have n1:b≠z:=λe=>hb (by simp[e])
   exact hs4.extBut b o n1 (k3 b o n1 (λe=>hb (by simp[e])) (λe=>hb (by simp[e])) (λe=>hb (by simp[e])) q)
  have TI4:IsPair h4 TI (.ref i1) (.ref i2):=hs4.extBut _ _ D.a (k3 _ _ D.a D.e D.f D.g hTI)
  have TO4:IsPair h4 TO u u2:=hs4.extBut _ _ D.b TO3
  have a4:h4.IsListIter i1 l1 (i+1):=a3.extBut hs4.extBut D.c
  have b4:h4.IsListIter i2 l2 (i+1):=b3.extBut hs4.extBut D.d
  have T4:IsTup h4 s.heap.objs.size [u,u2].toArray:=⟨_,(hs4.2 _ (Zbm hzlt)).trans T3,rfl,_,rfl⟩
  refine⟨.ref s.heap.objs.size,upd H s.heap.objs.size (.tup [x,y]),I.Qp9 (t':=s.toks) hf kk (λb hb=>?_) (Zi _) ⟨by show 2<=sizeLine;decide,_,.cons ru (.cons ru2 .nil),T4⟩,rfl,
   ⟨_,x,y,rfl,I.hok.fresh (Zi _),rfl,λzs hy'=>by rw[I.QdR hy' hq1];exact hx,λzs hy'=>by rw[I.QdR hy' hq2];exact hy⟩,⟨z4,TI4,⟨_,_,TO4⟩,a4,b4⟩,λb hb=>?_⟩
  ·have hb:b=z∨b=TI∨b=TO∨b=i1∨b=i2:=by simpa using hb
   obtain⟨o1,ho1,_⟩:=a4
   obtain⟨o2,ho2,_⟩:=b4
   rcases hb with rfl | rfl | rfl | rfl | rfl
   ·exact⟨_,z4⟩
   ·exact⟨_,TI4⟩
   ·exact⟨_,TO4⟩
   ·exact⟨_,ho1⟩
   ·exact⟨_,ho2⟩
  ·rw[QS (ZS (all b hb))];exact(hf b hb).1
 done:=by
  intro X hP hw hK hc i pins s σ H E I hf st hg
  subst hP hw hK
  obtain⟨hz,hTI,⟨a0,b0,hTO⟩,h1,h2⟩:=st
  obtain⟨xs,ys,hq1,hq2,hx⟩:=hg
  obtain⟨its,rv,p,hzz⟩:=I.list hq1
  obtain⟨its2,rv2,p2,hzz2⟩:=I.list hq2
  have free:∀l ys,SqL X.K H l ys->∀b,b∈[z,TI,TO,i1,i2]->l≠b:=λl ys hq b hb e=>by
   subst e
   rcases hq with(hq | ⟨o,hq⟩) | ⟨o,its,n,hk,hc',_,hd',_⟩
   ·rw[(hf l hb).1]at hq;cases hq
   ·rw[(hf l hb).1]at hq;cases hq
   ·have e1:=I.kIn l o hk
    obtain⟨o1,ho1,hcc1,hd1⟩:=id h1
    obtain⟨o2,ho2,hcc2,hd2⟩:=id h2
    have hb:l=z∨l=TI∨l=TO∨l=i1∨l=i2:=by simpa using hb
    rcases hb with rfl | rfl | rfl | rfl | rfl
    ·rw[hz]at e1;cases e1;simp at hc'
    ·rw[hTI]at e1;cases e1;simp at hc'
    ·rw[hTO]at e1;cases e1;simp at hc'
    ·rw[ho1]at e1;cases e1;rw[hc']at hcc1;simp at hcc1
    ·rw[ho2]at e1;cases e1;rw[hc']at hcc2;simp at hcc2
  have A1:=free l1 xs hq1
  have A2:=free l2 ys hq2
  have DD:ZipApart z TI TO i1 i2 l1 l2:=⟨D.a,D.b,D.c,D.d,D.e,D.f,D.g,D.h,D.i,D.j,A1 z (by simp),A1 TO (by simp),A1 i1 (by simp),A1 i2 (by simp),A2 z (by simp),A2 TO (by simp),A2 i1 (by simp),A2 i2 (by simp)⟩
  have hl:=rv.length
  have hl2:=rv2.length
  refine wpAny_pyNext_zip_end (I.ok.hd hc) DD hz hTI hTO h1 h2 p.isList p2.isList (by rcases hx with hx | hx;(left;simp;omega);(right;simp;omega)) λh3 k3=>⟨rfl,?_⟩
  exact I.turns (t':=s.toks) hf λb o hb q=>k3 b o (λe=>hb (by simp[e])) (λe=>hb (by simp[e])) (λe=>hb (by simp[e])) (λe=>hb (by simp[e])) q
 self:=λ_ _ _ _ _ st h=>wpAny_pyIter_zip st.1 h
section
variable {X:Cx}
noncomputable def QAq(K:PySem.W.Frag)(ta:TA):TI:=λσ H R=>ta σ H λvs H1=>∃a b,vs=[.ref a,.ref b]/\(∃xs,SqL K H1 a xs)/\(∃ys,SqL K H1 b ys)/\R (Itz K a b) H1
theorem Qyj{a b:Expr}{ta:TA}{p pos:Pos}{es:List Expr}{tk:Nat}{tpos:Pos}(hg:Gl X "zip")(hm:X.mg "zip" =none)(ha:PA X [a,b] ta)(hs:starEach [a,b] X.env=[(false,eval a X.env),(false,eval b X.env)])(hs2:starEach [b] X.env=[(false,eval b X.env)]):
  PI X (.Tuple es tk tpos) (.Call (.Name "zip" p) [a,b] [] pos) (QAq X.K ta):=by
 intro pins s σ H R I h
 refine Call_ (Qdg I hg hm PyProof.Rows.boot_zip (ZN (thn (ha pos pins s σ H _ I h) λus s1 ⟨vs,H1,I1,r1,q1⟩=>?_) (by rw[hs,hs2]) (by rw[hs2];rfl)))
 obtain⟨l,l2,e,⟨xs,hq⟩,⟨ys,hq2⟩,q⟩:=q1
 subst e
 obtain⟨u,u2,rfl,ru,ru2⟩:=vals2 r1
 cases ru
 cases ru2
 obtain⟨its,rv,pl,hz⟩:=I1.list hq
 obtain⟨its2,rv2,pl2,hz2⟩:=I1.list hq2
 refine call_zip_2 pl.isList pl2.isList λh2 hz hTI hTO h1 h2' hsz hk2=>?_
 have I2:Inv X pins σ H1 {s1 with heap:=h2}:=I1.kept (t':=s1.toks) hk2
 refine wpAny_pyIter_zip hz ⟨_,[s1.heap.objs.size+4,s1.heap.objs.size+2,s1.heap.objs.size+3,s1.heap.objs.size,s1.heap.objs.size+1],_,_,H1,rfl,I2,Qt7 l l2 _ _ _ _ _ ⟨?_,?_,?_,?_,?_,?_,?_,?_,?_,?_⟩,⟨hz,hTI,⟨_,_,hTO⟩,h1,h2'⟩,λb hb=>?_,q⟩
 iterate 10 (exact(by intro e;first | (have e':(s1.heap.objs.size:Nat)+_=_:=e;omega) | (have e':(s1.heap.objs.size:Nat)=_:=e;omega)))
 have hle:s1.heap.objs.size<=b:=by
  simp only[Zs,ZbU,or_false]at hb
  rcases hb with rfl | rfl | rfl | rfl | rfl<;>first | exact Zi _ | exact Nat.le_add_right _ _
 exact I1.Qjt hle (I1.hok.fresh hle)
end
end L2
namespace L2
open PySem PySem.Spec
theorem QkX(a b c:Value):checkTypeCall "zip" ⟨[a,b,c],[]⟩=pure ():=by kernel_rfl
theorem Qmi(a b c:Value):checkBuiltinCall "zip.__new__" ⟨[.type "zip",a,b,c],[]⟩=pure ():=by kernel_rfl
theorem QhJ(a b c d:Value):argsOk "object.__init__" ⟨[a,b,c,d],[]⟩:=by
 unfold argsOk;rw[signature?_of (id:= "object.__init__") (n:=['_','_','t','i','n','i','_','_']) (o:=['t','c','e','j','b','o']) (by kernel_rfl) F.owner_object];kernel_rfl
abbrev Qan(h:Heap)(T:Addr)(a b c:Value):Prop:=h.get? T=some {cls:= .type "tuple",data:= .seq #[a,b,c]}
section
variable {prog:Program}{w:World}{A:Around}{E:Value->Shared->Prop}{s:Shared}
theorem QeG{T:Addr}{a b c x:Value}{k:Nat}{Q:Unit->Shared->Prop}(hT:Qan s.heap T a b c)
  (h:∀h',h'.get? T=some {cls:= .type "tuple",data:= .seq ((#[a,b,c]:Array Value).setIfInBounds k x)}->Heap.SameBut T s.heap h'->Q () {s with heap:=h'}):
  wpAny (model prog w) A (updateSeq T (·.setIfInBounds k x)) Q E s:=by
 refine wpAny_updateSeq hT rfl (h _ ?_ (Heap.SameBut.update ..))
 rw[Heap.get?_update_self _ hT rfl]
 simp[Obj.mapSeq]
structure Six (z TI TO i1 i2 i3:Addr):Prop where
 TIz:TI≠z
 TOz:TO≠z
 i1z:i1≠z
 i2z:i2≠z
 i3z:i3≠z
 TITO:TI≠TO
 TIi1:TI≠i1
 TIi2:TI≠i2
 TIi3:TI≠i3
 TOi1:TO≠i1
 TOi2:TO≠i2
 TOi3:TO≠i3
 i12:i1≠i2
 i13:i1≠i3
 i23:i2≠i3
def Off(z TO i1 i2 i3 l:Addr):Prop:=l≠z/\l≠TO/\l≠i1/\l≠i2/\l≠i3
theorem QrH{z TI TO i1 i2 i3 l1 l2 l3:Addr}{k:Nat}{xs ys zs:Array Value}{x y u a b c:Value}{Q:Value->Shared->Prop}(D:Six z TI TO i1 i2 i3)(O1:Off z TO i1 i2 i3 l1)(O2:Off z TO i1 i2 i3 l2)(O3:Off z TO i1 i2 i3 l3)
  (hz:IsZip s.heap z TI TO .none) (hTI:Qan s.heap TI (.ref i1) (.ref i2) (.ref i3)) (hTO:Qan s.heap TO a b c)
  (h1:s.heap.IsListIter i1 l1 k) (h2:s.heap.IsListIter i2 l2 k) (h3:s.heap.IsListIter i3 l3 k) (hl1:s.heap.IsList l1 xs) (hl2:s.heap.IsList l2 ys) (hl3:s.heap.IsList l3 zs) (hx:xs[k]? =some x) (hy:ys[k]? =some y) (hu:zs[k]? =some u)
  (hQ:∀h',IsZip h' z TI TO (rawInt s.heap.objs.size)->Qan h' TO x y u->h'.IsListIter i1 l1 (k+1)->h'.IsListIter i2 l2 (k+1)->h'.IsListIter i3 l3 (k+1)->Qan h' s.heap.objs.size x y u->h'.objs.size=s.heap.objs.size+1→
   (∀c o,c≠z->c≠TO->c≠i1->c≠i2->c≠i3->s.heap.get? c=some o->h'.get? c=some o)->Q (.ref s.heap.objs.size) {s with heap:=h'}):
  wpAny (model prog w) A (Builtin.«zip.__next__» ⟨[.ref z],[]⟩) (λfin s'=>∃v,fin= .done (.ret v)/\Q v s') E s:=by
 show wpAny _ _ (field (.ref z) 2 >>= _) _ _ _
 refine wpAny_bind (wpAny_field hz rfl (x:= .bool false) rfl ?_)
 show wpAny _ _ (field (.ref z) 3 >>= _) _ _ _
 refine wpAny_bind (wpAny_field hz rfl (x:= .ref TI) rfl ?_)
 refine wpAny_bind (wpAny_seqItems hTI rfl ?_)
 show wpAny _ _ (Builtin.SmallTypes.ownedTupleIsFree (.ref z) >>= _) _ _ _
 refine wpAny_bind ?_
 unfold Builtin.SmallTypes.ownedTupleIsFree
 refine wpAny_bind (wpAny_field hz rfl (x:= .none) rfl (wpAny_pure ?_))
 simp only[if_true]
 refine wpAny_bind (wpAny_rule ?_)
 refine wpAny_bind (wpAny_field hz rfl (x:= .ref TO) rfl ?_)
 refine wpAny_bind (wpAny_setField_rec hz (by simp) λg1 hz1 s1=>?_)
 replace hz1:IsZip g1 z TI TO .ellipsis:=hz1
 refine wpAny_bind ?_
 simp only[List.zipIdx_cons,List.zipIdx_nil,Zcj,List.forIn_nil]
 refine wpAny_bind (wpAny_bind (wpAny_onRaise ?_))
 show wpAny _ _ (Builtin.SmallTypes.nextOf (.ref i1) >>= _) _ _ _
 have k1:∀e o,e≠z->s.heap.get? e=some o->g1.get? e=some o:=λe o a1 q=>s1.extBut _ _ a1 q
 refine wpAny_bind (wpAny_nextOf_list_item (h1.at λo e=>k1 _ o D.i1z e) (hl1.at λo e=>k1 _ o O1.1 e) hx λg2 m1 s2=>wpAny_pure ?_)
 have k2:∀e o,e≠z->e≠i1->s.heap.get? e=some o->g2.get? e=some o:=λe o a1 a3 q=>s2.extBut _ _ a3 (k1 e o a1 q)
 have t2:Qan g2 TO a b c:=k2 _ _ D.TOz D.TOi1 hTO
 refine wpAny_bind (wpAny_seqItems t2 rfl ?_)
 refine wpAny_bind (QeG t2 λg3 t3 s3=>?_)
 replace t3:Qan g3 TO x b c:=t3
 have k3:∀e o,e≠z->e≠TO->e≠i1->s.heap.get? e=some o->g3.get? e=some o:=λe o a1 a2 a3 q=>s3.extBut _ _ a2 (k2 e o a1 a3 q)
 refine wpAny_bind (wpAny_letGo (wpAny_pure ?_))
 refine wpAny_bind (wpAny_bind (wpAny_onRaise ?_))
 show wpAny _ _ (Builtin.SmallTypes.nextOf (.ref i2) >>= _) _ _ _
 refine wpAny_bind (wpAny_nextOf_list_item (h2.at λo e=>k3 _ o D.i2z D.TOi2.symm D.i12.symm e) (hl2.at λo e=>k3 _ o O2.1 O2.2.1 O2.2.2.1 e) hy λg4 m2 s4=>wpAny_pure ?_)
 have k4:∀e o,e≠z->e≠TO->e≠i1->e≠i2->s.heap.get? e=some o->g4.get? e=some o:=λe o a1 a2 a3 a4 q=>s4.extBut _ _ a4 (k3 e o a1 a2 a3 q)
 have t4:Qan g4 TO x b c:=s4.extBut _ _ D.TOi2 t3
 refine wpAny_bind (wpAny_seqItems t4 rfl ?_)
 refine wpAny_bind (QeG t4 λg5 t5 s5=>?_)
 replace t5:Qan g5 TO x y c:=t5
 have k5:∀e o,e≠z->e≠TO->e≠i1->e≠i2->s.heap.get? e=some o->g5.get? e=some o:=λe o a1 a2 a3 a4 q=>s5.extBut _ _ a2 (k4 e o a1 a2 a3 a4 q)
 refine wpAny_bind (wpAny_letGo (wpAny_pure ?_))
 refine wpAny_bind (wpAny_bind (wpAny_onRaise ?_))
 show wpAny _ _ (Builtin.SmallTypes.nextOf (.ref i3) >>= _) _ _ _
 refine wpAny_bind (wpAny_nextOf_list_item (h3.at λo e=>k5 _ o D.i3z D.TOi3.symm D.i13.symm D.i23.symm e) (hl3.at λo e=>k5 _ o O3.1 O3.2.1 O3.2.2.1 O3.2.2.2.1 e) hu λg6 m3 s6=>wpAny_pure ?_)
 have k6:∀e o,e≠z->e≠TO->e≠i1->e≠i2->e≠i3->s.heap.get? e=some o->g6.get? e=some o:=λe o a1 a2 a3 a4 a5 q=>s6.extBut _ _ a5 (k5 e o a1 a2 a3 a4 q)
 have t6:Qan g6 TO x y c:=s6.extBut _ _ D.TOi3 t5
 refine wpAny_bind (wpAny_seqItems t6 rfl ?_)
 refine wpAny_bind (QeG t6 λg7 t7 s7=>?_)
 replace t7:Qan g7 TO x y u:=t7
 have k7:∀e o,e≠z->e≠TO->e≠i1->e≠i2->e≠i3->s.heap.get? e=some o->g7.get? e=some o:=λe o a1 a2 a3 a4 a5 q=>s7.extBut _ _ a2 (k6 e o a1 a2 a3 a4 a5 q)
 refine wpAny_bind (wpAny_letGo (wpAny_pure (wpAny_pure ?_)))
 refine wpAny_bind (wpAny_seqItems t7 rfl ?_)
 refine wpAny_bind (wpAny_newTuple ?_)
 have hsz:g7.objs.size=s.heap.objs.size:=by rw[s7.1,s6.1,s5.1,s4.1,s3.1,s2.1,s1.1]
 have hz7:IsZip g7 z TI TO .ellipsis:=s7.extBut _ _ D.TOz.symm (s6.extBut _ _ D.i3z.symm (s5.extBut _ _ D.TOz.symm (s4.extBut _ _ D.i2z.symm (s3.extBut _ _ D.TOz.symm (s2.extBut _ _ D.i1z.symm hz1)))))
 have n1:g7.IsListIter i1 l1 (k+1):=((((m1.extBut s3.extBut D.TOi1.symm).extBut s4.extBut D.i12).extBut s5.extBut D.TOi1.symm).extBut s6.extBut D.i13).extBut s7.extBut D.TOi1.symm
 have n2:g7.IsListIter i2 l2 (k+1):=((m2.extBut s5.extBut D.TOi2.symm).extBut s6.extBut D.i23).extBut s7.extBut D.TOi2.symm
 have n3:g7.IsListIter i3 l3 (k+1):=m3.extBut s7.extBut D.TOi3.symm
 have hzlt:z<g7.objs.size:=Zw hz7
 show wpAny _ _ (Builtin.SmallTypes.ownedTupleHandOut (.ref z) (.ref g7.objs.size) >>= _) _ _ _
 refine wpAny_bind ?_
 unfold Builtin.SmallTypes.ownedTupleHandOut
 have hz8:IsZip (g7.push {cls:= .type "tuple",data:= .seq #[x,y,u]}) z TI TO .ellipsis:=Zb _ hz7
 refine wpAny_bind (wpAny_setField_rec hz8 (by simp) λg9 hz9 s9=>?_)
 replace hz9:IsZip g9 z TI TO (rawInt g7.objs.size):=hz9
 refine wpAny_setField_rec hz9 (by simp) λg10 hz10 s10=>?_
 replace hz10:IsZip g10 z TI TO (rawInt g7.objs.size):=hz10
 have up:∀c o,c≠z->g7.get? c=some o->g10.get? c=some o:=λc o c1 e=>s10.extBut _ _ c1 (s9.extBut _ _ c1 (Zb _ e))
 have hT:Qan g10 g7.objs.size x y u:=s10.extBut _ _ (Zbm hzlt) (s9.extBut _ _ (Zbm hzlt) (ZA _ rfl))
 have hz':g10.objs.size=g7.objs.size+1:=by rw[s10.1,s9.1,Zas]
 rw[hsz]at hz10 hT hz'
 refine wpAny_pure ⟨_,rfl,?_⟩
 show Q (.ref g7.objs.size) _
 rw[hsz]
 exact hQ g10 hz10 (up _ _ D.TOz t7) (n1.at λo e=>up _ o D.i1z e) (n2.at λo e=>up _ o D.i2z e) (n3.at λo e=>up _ o D.i3z e) hT hz' λc o c1 c2 c3 c4 c5 e=>up c o c1 (k7 c o c1 c2 c3 c4 c5 e)
theorem QtX{z TI TO i1 i2 i3 l1:Addr}{k:Nat}{xs:Array Value}{Q:Fin->Shared->Prop}(hh:A.handled=none)(D:Six z TI TO i1 i2 i3)(O1:l1≠z)
  (hz:IsZip s.heap z TI TO .none) (hTI:Qan s.heap TI (.ref i1) (.ref i2) (.ref i3)) (h1:s.heap.IsListIter i1 l1 k) (hl1:s.heap.IsList l1 xs) (hx:xs[k]? =none)
  (hE:∀h' e,(∀c o,c≠z->c≠i1->s.heap.get? c=some o->h'.get? c=some o)->(∃o,h'.get? e=some o/\o.cls= .type "StopIteration")->E (.ref e) {s with heap:=h'}):
  wpAny (model prog w) A (Builtin.«zip.__next__» ⟨[.ref z],[]⟩) Q E s:=by
 show wpAny _ _ (field (.ref z) 2 >>= _) _ _ _
 refine wpAny_bind (wpAny_field hz rfl (x:= .bool false) rfl ?_)
 show wpAny _ _ (field (.ref z) 3 >>= _) _ _ _
 refine wpAny_bind (wpAny_field hz rfl (x:= .ref TI) rfl ?_)
 refine wpAny_bind (wpAny_seqItems hTI rfl ?_)
 show wpAny _ _ (Builtin.SmallTypes.ownedTupleIsFree (.ref z) >>= _) _ _ _
 refine wpAny_bind ?_
 unfold Builtin.SmallTypes.ownedTupleIsFree
 refine wpAny_bind (wpAny_field hz rfl (x:= .none) rfl (wpAny_pure ?_))
 simp only[if_true]
 refine wpAny_bind (wpAny_rule ?_)
 refine wpAny_bind (wpAny_field hz rfl (x:= .ref TO) rfl ?_)
 refine wpAny_bind (wpAny_setField_rec hz (by simp) λg1 hz1 s1=>?_)
 replace hz1:IsZip g1 z TI TO .ellipsis:=hz1
 refine wpAny_bind ?_
 simp only[List.zipIdx_cons,List.zipIdx_nil,Zcj,List.forIn_nil]
 refine wpAny_bind (wpAny_bind (wpAny_onRaise ?_))
 show wpAny _ _ (Builtin.SmallTypes.nextOf (.ref i1) >>= _) _ _ _
 refine wpAny_bind (wpAny_nextOf_list_end hh (h1.extBut s1.extBut D.i1z) (hl1.extBut s1.extBut O1) hx λg2 e s2 he=>?_)
 obtain⟨oe,hoe,hce⟩:=he
 have hz2:IsZip g2 z TI TO .ellipsis:=s2 _ _ D.i1z.symm hz1
 have hez:e≠z:=λx=>by subst x;rw[hz2]at hoe;cases hoe;simp at hce
 refine wpAny_setField_rec hz2 (by simp) λg3 _ s3=>hE g3 e (λc o c1 c3 x=>s3.extBut _ _ c1 (s2 _ _ c3 (s1.extBut _ _ c1 x))) ⟨oe,s3.extBut _ _ hez hoe,hce⟩
theorem Qpj{z TI TO i1 i2 i3 l1 l2 l3:Addr}{k:Nat}{xs ys zs:Array Value}{x y u a b c:Value}{Q:Option Value->Shared->Prop}(D:Six z TI TO i1 i2 i3)(O1:Off z TO i1 i2 i3 l1)(O2:Off z TO i1 i2 i3 l2)(O3:Off z TO i1 i2 i3 l3)
  (hz:IsZip s.heap z TI TO .none) (hTI:Qan s.heap TI (.ref i1) (.ref i2) (.ref i3)) (hTO:Qan s.heap TO a b c)
  (h1:s.heap.IsListIter i1 l1 k) (h2:s.heap.IsListIter i2 l2 k) (h3:s.heap.IsListIter i3 l3 k) (hl1:s.heap.IsList l1 xs) (hl2:s.heap.IsList l2 ys) (hl3:s.heap.IsList l3 zs) (hx:xs[k]? =some x) (hy:ys[k]? =some y) (hu:zs[k]? =some u)
  (hQ:∀h',IsZip h' z TI TO (rawInt s.heap.objs.size)->Qan h' TO x y u->h'.IsListIter i1 l1 (k+1)->h'.IsListIter i2 l2 (k+1)->h'.IsListIter i3 l3 (k+1)->Qan h' s.heap.objs.size x y u->h'.objs.size=s.heap.objs.size+1→
   (∀c o,c≠z->c≠TO->c≠i1->c≠i2->c≠i3->s.heap.get? c=some o->h'.get? c=some o)->Q (some (.ref s.heap.objs.size)) {s with heap:=h'}):
  wpAny (model prog w) A (pyNext (.ref z)) Q E s:=by
 have hT:s.TypeIs (.ref z) "zip" :=⟨_,hz,rfl⟩
 unfold pyNext
 exact wpAny_bind (wpAny_attempt (wpAny_callSpecial?_slot (name:=Str.ofString "__next__") hT ZbD
  (wpAny_call_entry ZbD hT F.entry_zip_next
   (QrH D O1 O2 O3 hz hTI hTO h1 h2 h3 hl1 hl2 hl3 hx hy hu λh' a1 a2 a3 a4 a5 a6 a7 a8=>wpAny_pure (hQ h' a1 a2 a3 a4 a5 a6 a7 a8)) (F.args_zip_next_1 _))))
theorem Qko{z TI TO i1 i2 i3 l1:Addr}{k:Nat}{xs:Array Value}{Q:Option Value->Shared->Prop}(hh:A.handled=none)(D:Six z TI TO i1 i2 i3)(O1:l1≠z)
  (hz:IsZip s.heap z TI TO .none) (hTI:Qan s.heap TI (.ref i1) (.ref i2) (.ref i3)) (h1:s.heap.IsListIter i1 l1 k) (hl1:s.heap.IsList l1 xs) (hx:xs[k]? =none)
  (hQ:∀h',(∀c o,c≠z->c≠i1->s.heap.get? c=some o->h'.get? c=some o)->Q none {s with heap:=h'}):wpAny (model prog w) A (pyNext (.ref z)) Q E s:=by
 have hT:s.TypeIs (.ref z) "zip" :=⟨_,hz,rfl⟩
 unfold pyNext
 refine wpAny_bind (wpAny_attempt (wpAny_callSpecial?_slot (name:=Str.ofString "__next__") hT ZbD
  (wpAny_call_entry ZbD hT F.entry_zip_next (QtX hh D O1 hz hTI h1 hl1 hx λh' e hk he=>?_) (F.args_zip_next_1 _))))
 obtain⟨o,ho,hc⟩:=he
 refine wpAny_bind (wpAny_isInstance (T:= "StopIteration") (b:=true) ⟨o,ho,hc⟩ isSubtype_stop ?_)
 exact wpAny_pure (hQ _ hk)
end
noncomputable abbrev zA(h:Heap)(l1:Addr):Heap:=h.push {cls:= .type "list_iterator",data:= .fields #[.ref l1,.int 0 0]}
noncomputable abbrev zB(h:Heap)(l1 l2:Addr):Heap:=(zA h l1).push {cls:= .type "list_iterator",data:= .fields #[.ref l2,.int 0 0]}
noncomputable abbrev zC(h:Heap)(l1 l2 l3:Addr):Heap:=(zB h l1 l2).push {cls:= .type "list_iterator",data:= .fields #[.ref l3,.int 0 0]}
noncomputable abbrev zD(h:Heap)(l1 l2 l3:Addr):Heap:=(zC h l1 l2 l3).push {cls:= .type "tuple",data:= .seq #[.ref h.objs.size,.ref (zA h l1).objs.size,.ref (zB h l1 l2).objs.size]}
noncomputable abbrev zE(h:Heap)(l1 l2 l3:Addr):Heap:=(zD h l1 l2 l3).push {cls:= .type "tuple",data:= .seq #[.none,.none,.none]}
noncomputable abbrev zF(h:Heap)(l1 l2 l3:Addr):Heap:=(zE h l1 l2 l3).push {cls:= .type "zip",data:= .fields #[.none,.bool false,.bool false,.ref (zC h l1 l2 l3).objs.size,.ref (zD h l1 l2 l3).objs.size]}
theorem Qlg(l1 l2 l3:Addr)(xs ys zs:Array Value):
  Meets (Builtin.«zip.__new__» ⟨[.type "zip",.ref l1,.ref l2,.ref l3],[]⟩) (λ_ R s=>s.heap.IsList l1 xs/\s.heap.IsList l2 ys/\s.heap.IsList l3 zs∧
   R (.ok (.ret (.ref (zE s.heap l1 l2 l3).objs.size))) {s with heap:=zF s.heap l1 l2 l3}):=
 .of_wp λprog w A R s h=>by
  obtain⟨hp,g,d,tk,os⟩:=s;obtain⟨hl1,hl2,hl3,h⟩:=h
  have hsub:=sub_zip
  have hL1:Heap.IsList (Shared.heap ⟨hp,g,d,tk,os⟩) l1 xs:=hl1
  have hL2:Heap.IsList (Shared.heap ⟨hp.push {cls:= .type "list_iterator",data:= .fields #[.ref l1,.int 0 0]},g,d,tk,os⟩) l2 ys:=ZbV hl2 _
  have hL3:Heap.IsList (Shared.heap ⟨(hp.push {cls:= .type "list_iterator",data:= .fields #[.ref l1,.int 0 0]}).push {cls:= .type "list_iterator",data:= .fields #[.ref l2,.int 0 0]},g,d,tk,os⟩) l3 zs:=ZbV (ZbV hl3 _) _
  wp_walk using wpAny_pyIter_list hL1,wpAny_pyIter_list hL2,wpAny_pyIter_list hL3
  exact⟨_,rfl,h⟩
section
variable {prog:Program}{w:World}{A:Around}{E:Value->Shared->Prop}{s:Shared}
theorem Qqr{l1 l2 l3:Addr}{xs ys zs:Array Value}{Q:Value->Shared->Prop}(hl1:s.heap.IsList l1 xs)(hl2:s.heap.IsList l2 ys)(hl3:s.heap.IsList l3 zs)
  (h:∀h',IsZip h' (s.heap.objs.size+5) (s.heap.objs.size+3) (s.heap.objs.size+4) .none->Qan h' (s.heap.objs.size+3) (.ref s.heap.objs.size) (.ref (s.heap.objs.size+1)) (.ref (s.heap.objs.size+2))→
   Qan h' (s.heap.objs.size+4) .none .none .none->h'.IsListIter s.heap.objs.size l1 0->h'.IsListIter (s.heap.objs.size+1) l2 0->h'.IsListIter (s.heap.objs.size+2) l3 0→
   (∀c o,s.heap.get? c=some o->h'.get? c=some o)->Q (.ref (s.heap.objs.size+5)) {s with heap:=h'}):
  wpAny (model prog w) A (call (.type "zip") [.ref l1,.ref l2,.ref l3]) Q E s:=by
 refine callType_new F.called_zip (by decide) (QkX _ _ _) (Qmi _ _ _) (λobj=>QhJ obj _ _ _) F.entry_zip_new
  (Qlg l1 l2 l3 xs ys zs) ⟨hl1,hl2,hl3,?_⟩
 have z1:(zA s.heap l1).objs.size=s.heap.objs.size+1:=Zas ..
 have z2:(zB s.heap l1 l2).objs.size=s.heap.objs.size+2:=by rw[Zas,z1]
 have z3:(zC s.heap l1 l2 l3).objs.size=s.heap.objs.size+3:=by rw[Zas,z2]
 have z4:(zD s.heap l1 l2 l3).objs.size=s.heap.objs.size+4:=by rw[Zas,z3]
 have z5:(zE s.heap l1 l2 l3).objs.size=s.heap.objs.size+5:=by rw[Zas,z4]
 have g6:(zF s.heap l1 l2 l3).get? (zE s.heap l1 l2 l3).objs.size=some _:=ZA _ rfl
 have g5:(zF s.heap l1 l2 l3).get? (zD s.heap l1 l2 l3).objs.size=some _:=Zb _ (ZA _ rfl)
 have g4:(zF s.heap l1 l2 l3).get? (zC s.heap l1 l2 l3).objs.size=some _:=Zb _ (Zb _ (ZA _ rfl))
 have g3:(zF s.heap l1 l2 l3).get? (zB s.heap l1 l2).objs.size=some _:=Zb _ (Zb _ (Zb _ (ZA _ rfl)))
 have g2:(zF s.heap l1 l2 l3).get? (zA s.heap l1).objs.size=some _:=Zb _ (Zb _ (Zb _ (Zb _ (ZA _ rfl))))
 have g1:(zF s.heap l1 l2 l3).get? s.heap.objs.size=some _:=Zb _ (Zb _ (Zb _ (Zb _ (Zb _ (ZA _ rfl)))))
 show _/\_
 rw[z3,z4,z5]at g6
 rw[z1,z2,z3]at g4
 rw[z4]at g5
 rw[z2]at g3
 rw[z1]at g2
 rw[z5]
 exact⟨⟨_,g6,rfl⟩,h _ g6 g4 g5 ⟨_,g1,rfl,rfl⟩ ⟨_,g2,rfl,rfl⟩ ⟨_,g3,rfl,rfl⟩ λc o x=>
  Zb _ (Zb _ (Zb _ (Zb _ (Zb _ (Zb _ x)))))⟩
end
open PyProof.Rows
noncomputable def Qto(K:PySem.W.Frag)(a b c:Addr):It:=
 ⟨λi H=>∃xs ys zs x y z,SqL K H a xs/\SqL K H b ys/\SqL K H c zs/\xs[i]? =some x/\ys[i]? =some y/\zs[i]? =some z,λi H v H'=>∃p x y z,v= .ref p/\H p=none/\H'=upd H p (.tup [x,y,z])/\(∀xs,SqL K H a xs->xs[i]? =some x)/\(∀ys,SqL K H b ys->ys[i]? =some y)/\∀zs,SqL K H c zs->zs[i]? =some z,
  λi H=>∃xs,SqL K H a xs/\xs.length<=i⟩
theorem Qrw{P:Program}{w:World}{K:PySem.W.Frag}{es:List Expr}{tk:Nat}{tpos:Pos}(l1 l2 l3 z TI TO i1 i2 i3:Addr)(D:Six z TI TO i1 i2 i3):
  Turn P w K (.Tuple es tk tpos) (Qto K l1 l2 l3) [z,TI,TO,i1,i2,i3] z (λi h=>IsZip h z TI TO .none/\Qan h TI (.ref i1) (.ref i2) (.ref i3)/\(∃a b c,Qan h TO a b c)/\h.IsListIter i1 l1 i/\h.IsListIter i2 l2 i/\h.IsListIter i3 l3 i):=by
 have six:∀{b:Addr},b∈[z,TI,TO,i1,i2,i3]->b=z∨b=TI∨b=TO∨b=i1∨b=i2∨b=i3:=λhb=>by simpa using hb
 have free:∀{X:Cx}{pins σ H s} (I:Inv X pins σ H s) (hK:X.K=K) (hf:∀b∈[z,TI,TO,i1,i2,i3],H b=none) {i:Nat}(hz:IsZip s.heap z TI TO .none) (hTI:Qan s.heap TI (.ref i1) (.ref i2) (.ref i3)) (hTO:∃a b c,Qan s.heap TO a b c) (h1:s.heap.IsListIter i1 l1 i) (h2:s.heap.IsListIter i2 l2 i) (h3:s.heap.IsListIter i3 l3 i) (l:Addr) (ys:List V),SqL K H l ys->∀b,b∈[z,TI,TO,i1,i2,i3]->l≠b:=by
  intro X pins σ H s I hK hf i hz hTI hTO h1 h2 h3 l ys hq b hb e
  subst e
  subst hK
  rcases hq with(hq | ⟨o,hq⟩) | ⟨o,its,n,hk,hc',_,hd',_⟩
  ·rw[hf l hb]at hq;cases hq
  ·rw[hf l hb]at hq;cases hq
  ·have e1:=I.kIn l o hk
   obtain⟨_,_,_,hTO⟩:=hTO
   obtain⟨o1,ho1,hcc1,hd1⟩:=h1
   obtain⟨o2,ho2,hcc2,hd2⟩:=h2
   obtain⟨o3,ho3,hcc3,hd3⟩:=h3
   rcases six hb with rfl | rfl | rfl | rfl | rfl | rfl
   ·rw[hz]at e1;cases e1;simp at hc'
   ·rw[hTI]at e1;cases e1;simp at hc'
   ·rw[hTO]at e1;cases e1;simp at hc'
   ·rw[ho1]at e1;cases e1;rw[hc']at hcc1;simp at hcc1
   ·rw[ho2]at e1;cases e1;rw[hc']at hcc2;simp at hcc2
   ·rw[ho3]at e1;cases e1;rw[hc']at hcc3;simp at hcc3
 exact{
  mem:=by simp
  obj:=λi h st b hb=>by
   obtain⟨hz,hTI,⟨p,q,r,hTO⟩,⟨o1,ho1,hc1,hd1⟩,⟨o2,ho2,hc2,hd2⟩,⟨o3,ho3,hc3,hd3⟩⟩:=st
   rcases six hb with rfl | rfl | rfl | rfl | rfl | rfl
   ·exact⟨_,hz,λv z=>by cases z⟩
   ·exact⟨_,hTI,λv z=>by cases z⟩
   ·exact⟨_,hTO,λv z=>by cases z⟩
   ·exact⟨o1,ho1,λv z=>by rw[hd1]at z;cases z⟩
   ·exact⟨o2,ho2,λv z=>by rw[hd2]at z;cases z⟩
   ·exact⟨o3,ho3,λv z=>by rw[hd3]at z;cases z⟩
  keep:=λi h h' st k=>by
   obtain⟨hz,hTI,⟨p,q,r,hTO⟩,h1,h2,h3⟩:=st
   exact⟨k z (by simp) _ hz,k TI (by simp) _ hTI,⟨p,q,r,k TO (by simp) _ hTO⟩,h1.at λo e=>k i1 (by simp) o e,h2.at λo e=>k i2 (by simp) o e,h3.at λo e=>k i3 (by simp) o e⟩
  item:=by
   intro X hP hw hK hc i pins s σ H E I hf st hg
   have fr:=free I hK (λb hb=>(hf b hb).1) st.1 st.2.1 st.2.2.1 st.2.2.2.1 st.2.2.2.2.1 st.2.2.2.2.2
   subst hP hw hK
   obtain⟨hz,hTI,⟨a0,b0,c0,hTO⟩,h1,h2,h3⟩:=st
   obtain⟨xs,ys,zs,x,y,u,hq1,hq2,hq3,hx,hy,hu⟩:=hg
   obtain⟨its,rv,p,hzz⟩:=I.list hq1
   obtain⟨its2,rv2,p2,hzz2⟩:=I.list hq2
   obtain⟨its3,rv3,p3,hzz3⟩:=I.list hq3
   obtain⟨v1,hv1,r1⟩:=rv.get hx
   obtain⟨v2,hv2,r2⟩:=rv2.get hy
   obtain⟨v3,hv3,r3⟩:=rv3.get hu
   have off:∀l ys,SqL X.K H l ys->Off z TO i1 i2 i3 l:=λl ys hq=>⟨fr l ys hq z (by simp),fr l ys hq TO (by simp),fr l ys hq i1 (by simp),fr l ys hq i2 (by simp),fr l ys hq i3 (by simp)⟩
   refine Qpj D (off l1 xs hq1) (off l2 ys hq2) (off l3 zs hq3) hz hTI hTO h1 h2 h3 p.isList p2.isList p3.isList (x:=v1) (y:=v2) (u:=v3) (by simpa using hv1) (by simpa using hv2) (by simpa using hv3) λg3 z3 TO3 a3 b3 c3 T3 sz3 k3=>?_
   refine⟨.ref s.heap.objs.size,rfl,wpAny_letOwnedTupleGo_zip z3 λg4 z4 hs4=>?_⟩
   replace hs4:Heap.SameBut z g3 g4:=hs4
   have lt:∀{c o},s.heap.get? c=some o->c<s.heap.objs.size:=λe=>Zw e
   have hzlt:=lt hz
   have all:∀b∈[z,TI,TO,i1,i2,i3],b<s.heap.objs.size:=λb hb=>by
    obtain⟨o1,ho1,_⟩:=h1
    obtain⟨o2,ho2,_⟩:=h2
    obtain⟨o3,ho3,_⟩:=h3
    rcases six hb with rfl | rfl | rfl | rfl | rfl | rfl
    ·exact lt hz
    ·exact lt hTI
    ·exact lt hTO
    ·exact lt ho1
    ·exact lt ho2
    ·exact lt ho3
   have kk:∀b o,b∉[z,TI,TO,i1,i2,i3]->s.heap.get? b=some o->g4.get? b=some o:=λb o hb q=>by
    have n1:b≠z:=λe=>hb (by simp[e])
    exact hs4.extBut b o n1 (k3 b o n1 (λe=>hb (by simp[e])) (λe=>hb (by simp[e])) (λe=>hb (by simp[e])) (λe=>hb (by simp[e])) q)
   have TI4:Qan g4 TI (.ref i1) (.ref i2) (.ref i3):=hs4.extBut _ _ D.TIz (k3 _ _ D.TIz D.TITO D.TIi1 D.TIi2 D.TIi3 hTI)
   have TO4:Qan g4 TO v1 v2 v3:=hs4.extBut _ _ D.TOz TO3
   have a4:g4.IsListIter i1 l1 (i+1):=a3.extBut hs4.extBut D.i1z
   have b4:g4.IsListIter i2 l2 (i+1):=b3.extBut hs4.extBut D.i2z
   have c4:g4.IsListIter i3 l3 (i+1):=c3.extBut hs4.extBut D.i3z
   have T4:IsTup g4 s.heap.objs.size [v1,v2,v3].toArray:=⟨_,(hs4.2 _ (Zbm hzlt)).trans T3,rfl,_,rfl⟩
   refine⟨.ref s.heap.objs.size,upd H s.heap.objs.size (.tup [x,y,u]),I.Qp9 (t':=s.toks) hf kk (λb hb=>?_) (Zi _) ⟨by show 3<=sizeLine;decide,_,.cons r1 (.cons r2 (.cons r3 .nil)),T4⟩,rfl,
    ⟨_,x,y,u,rfl,I.hok.fresh (Zi _),rfl,λws hy'=>by rw[I.QdR hy' hq1];exact hx,λws hy'=>by rw[I.QdR hy' hq2];exact hy,λws hy'=>by rw[I.QdR hy' hq3];exact hu⟩,⟨z4,TI4,⟨_,_,_,TO4⟩,a4,b4,c4⟩,λb hb=>?_⟩
   ·obtain⟨o1,ho1,_⟩:=a4
    obtain⟨o2,ho2,_⟩:=b4
    obtain⟨o3,ho3,_⟩:=c4
    rcases six hb with rfl | rfl | rfl | rfl | rfl | rfl
    ·exact⟨_,z4⟩
    ·exact⟨_,TI4⟩
    ·exact⟨_,TO4⟩
    ·exact⟨_,ho1⟩
    ·exact⟨_,ho2⟩
    ·exact⟨_,ho3⟩
   ·rw[QS (ZS (all b hb))];exact(hf b hb).1
  done:=by
   intro X hP hw hK hc i pins s σ H E I hf st hg
   have fr:=free I hK (λb hb=>(hf b hb).1) st.1 st.2.1 st.2.2.1 st.2.2.2.1 st.2.2.2.2.1 st.2.2.2.2.2
   subst hP hw hK
   obtain⟨hz,hTI,⟨a0,b0,c0,hTO⟩,h1,h2,h3⟩:=st
   obtain⟨xs,hq1,hx⟩:=hg
   obtain⟨its,rv,p,hzz⟩:=I.list hq1
   have hl:=rv.length
   refine Qko (I.ok.hd hc) D (fr l1 xs hq1 z (by simp)) hz hTI h1 p.isList (by simp;omega) λg3 k3=>⟨rfl,?_⟩
   exact I.turns (t':=s.toks) hf λb o hb q=>k3 b o (λe=>hb (by simp[e])) (λe=>hb (by simp[e])) q
  self:=λ_ _ _ _ _ st h=>wpAny_pyIter_zip st.1 h}
theorem vals3{x y z:V}{us:List Value}(r:QC [x,y,z] us):∃u v w',us=[u,v,w']/\RelV x u/\RelV y v/\RelV z w':=by
 cases r with
 | cons r1 r2=>
  obtain⟨v,w',rfl,h1,h2⟩:=vals2 r2
  exact⟨_,_,_,rfl,r1,h1,h2⟩
section
variable {X:Cx}
noncomputable def Qy8(K:PySem.W.Frag)(ta:TA):TI:=λσ H R=>ta σ H λvs H1=>∃a b c,vs=[.ref a,.ref b,.ref c]/\(∃xs,SqL K H1 a xs)/\(∃ys,SqL K H1 b ys)/\(∃zs,SqL K H1 c zs)/\R (Qto K a b c) H1
theorem Qwt{a b c:Expr}{ta:TA}{p pos:Pos}{es:List Expr}{tk:Nat}{tpos:Pos}(hg:Gl X "zip")(hm:X.mg "zip" =none)(ha:PA X [a,b,c] ta)(hs:starEach [a,b,c] X.env=(false,eval a X.env)::starEach [b,c] X.env)(hs2:(backTo pos (starEach [b,c] X.env)).any (·.1)=false):
  PI X (.Tuple es tk tpos) (.Call (.Name "zip" p) [a,b,c] [] pos) (Qy8 X.K ta):=by
 intro pins s σ H R I h
 refine Call_ (Qdg I hg hm PyProof.Rows.boot_zip (ZN (thn (ha pos pins s σ H _ I h) λus s1 ⟨vs,H1,I1,r1,q1⟩=>?_) hs hs2))
 obtain⟨l,l2,l3,e,⟨xs,hq⟩,⟨ys,hq2⟩,⟨zs,hq3⟩,q⟩:=q1
 subst e
 obtain⟨u,u2,u3,rfl,ru,ru2,ru3⟩:=vals3 r1
 cases ru
 cases ru2
 cases ru3
 obtain⟨its,rv,pl,hz⟩:=I1.list hq
 obtain⟨its2,rv2,pl2,hz2⟩:=I1.list hq2
 obtain⟨its3,rv3,pl3,hz3⟩:=I1.list hq3
 refine Qqr pl.isList pl2.isList pl3.isList λh2 hz hTI hTO h1 h2' h3' hk2=>?_
 have I2:Inv X pins σ H1 {s1 with heap:=h2}:=I1.kept (t':=s1.toks) hk2
 refine wpAny_pyIter_zip hz ⟨_,[s1.heap.objs.size+5,s1.heap.objs.size+3,s1.heap.objs.size+4,s1.heap.objs.size,s1.heap.objs.size+1,s1.heap.objs.size+2],_,_,H1,rfl,I2,Qrw l l2 l3 _ _ _ _ _ _ ⟨?_,?_,?_,?_,?_,?_,?_,?_,?_,?_,?_,?_,?_,?_,?_⟩,⟨hz,hTI,⟨_,_,_,hTO⟩,h1,h2',h3'⟩,λb hb=>?_,q⟩
 iterate 15 (exact(by intro e;first | (have e':(s1.heap.objs.size:Nat)+_=_:=e;omega) | (have e':(s1.heap.objs.size:Nat)=_:=e;omega)))
 have hle:s1.heap.objs.size<=b:=by
  simp only[Zs,ZbU,or_false]at hb
  rcases hb with rfl | rfl | rfl | rfl | rfl | rfl<;>first | exact Zi _ | exact Nat.le_add_right _ _
 exact I1.Qjt hle (I1.hok.fresh hle)
end
end L2
namespace HS
open PySem PySem.Spec PyProof.Rows L2
inductive D where
 | non | bl (b:Bool) | int (i:Int) | str (x:Str) | tup (xs:List D) | lst (xs:List D) | exc (x:Str)
mutual
noncomputable def D.flat:D->Bool
 | .lst _=>false
 | .tup xs=>QQ xs
 | .non=>true
 | .bl _=>true
 | .int _=>true
 | .str _=>true
 | .exc _=>true
noncomputable def QQ:List D->Bool
 | []=>true
 | d::ds=>d.flat && QQ ds
end
mutual
noncomputable def D.nl:D->Nat
 | .lst xs=>nls xs+1
 | .tup xs=>nls xs
 | .non=>0
 | .bl _=>0
 | .int _=>0
 | .str _=>0
 | .exc _=>0
noncomputable def nls:List D->Nat
 | []=>0
 | d::ds=>d.nl+nls ds
end
mutual
theorem Qdr:∀(d:D),d.flat=true->d.nl=0
 | .non,_=>rfl
 | .bl _,_=>rfl
 | .int _,_=>rfl
 | .str _,_=>rfl
 | .exc _,_=>rfl
 | .tup xs,h=>by simp only[D.nl];simp only[D.flat]at h;exact Qhd xs h
 | .lst xs,h=>by simp[D.flat]at h
theorem Qhd:∀(ds:List D),QQ ds=true->nls ds=0
 | [],_=>rfl
 | d::ds,h=>by simp only[QQ,Zh]at h;simp only[nls,Qdr d h.1,Qhd ds h.2]
end
def Fix(K:PySem.W.Frag)(H:Hp)(a:Addr)(vs:List V):Prop:=
 (∃o,H a=some (.frz o (.lst vs)))∨
  ∃(its:List Value) (n:Nat),K.lookup a=some {cls:= .type "list",data:= .seq its.toArray n}/\vs.length<=sizeLine/\QC vs its
def QzX(a C:Addr)(h:Heap):Prop:=∃o vs,h.get? a=some o/\o.cls= .ref C/\o.data= .fields vs
def ExcAt(K:PySem.W.Frag)(H:Hp)(a:Addr)(x:Str):Prop:=∃C,PySem.W.nsIn K mainGlobals x=some (some (.ref C))/\H a=some (.ext (QzX a C))
theorem QqQ{K:PySem.W.Frag}{H H':Hp}{a:Addr}{x:Str}(s:QP H H')(h:ExcAt K H a x):ExcAt K H' a x:=by
 obtain⟨C,h1,h2⟩:=h
 exact⟨C,h1,s _ _ h2⟩
theorem Qrc{K:PySem.W.Frag}{H:Hp}{a p:Addr}{x:Str}{zs ys:List V}(hp:H p=some (.lst zs))(h:ExcAt K H a x):ExcAt K (upd H p (.lst ys)) a x:=by
 obtain⟨C,h1,h2⟩:=h
 exact⟨C,h1,by rw[QS (QmW h2 hp (by intro z;cases z))];exact h2⟩
mutual
noncomputable def Rp(K:PySem.W.Frag)(H:Hp):D->V->List Addr->Prop
 | .non,v,F=>v= .non/\F=[]
 | .bl b,v,F=>v= .bl b/\F=[]
 | .int i,v,F=>v= .int i/\F=[]
 | .str x,v,F=>v= .str x/\F=[]
 | .exc x,v,F=>(∃a,v= .ref a/\ExcAt K H a x)/\F=[]
 | .tup ds,v,F=>∃a vs,v= .ref a/\SqT K H a vs/\Rps K H ds vs F
 | .lst ds,v,F=>ds.length<=sizeLine/\∃a vs,v= .ref a/\((∃G,F=a::G/\H a=some (.lst vs)/\Rps K H ds vs G)∨(Fix K H a vs/\Rps K H ds vs F))
noncomputable def Rps(K:PySem.W.Frag)(H:Hp):List D->List V->List Addr->Prop
 | [],vs,F=>vs=[]/\F=[]
 | d::ds,vs,F=>∃v ws F1 F2,vs=v::ws/\F=F1++F2/\Rp K H d v F1/\Rps K H ds ws F2
end
theorem Qoj{K:PySem.W.Frag}{H H':Hp}{a:Addr}{vs:List V}(s:QP H H')(h:SqT K H a vs):SqT K H' a vs:=by
 rcases h with(h | ⟨o,h⟩) | h
 ·exact .inl (.inl (s _ _ h))
 ·exact .inl (.inr ⟨o,s _ _ h⟩)
 ·exact .inr h
theorem Qnd{K:PySem.W.Frag}{H H':Hp}{a:Addr}{vs:List V}(s:QP H H')(h:Fix K H a vs):Fix K H' a vs:=by
 rcases h with⟨o,h⟩ | h
 ·exact .inl ⟨o,s _ _ h⟩
 ·exact .inr h
theorem QpE{K:PySem.W.Frag}{H:Hp}{a p:Addr}{vs zs ys:List V}(hp:H p=some (.lst zs))(h:SqT K H a vs):SqT K (upd H p (.lst ys)) a vs:=by
 rcases h with(h | ⟨o,h⟩) | h
 ·exact .inl (.inl (by rw[QS (QmW h hp (by intro z;cases z))];exact h))
 ·exact .inl (.inr ⟨o,by rw[QS (QmW h hp (by intro z;cases z))];exact h⟩)
 ·exact .inr h
theorem Qwe{K:PySem.W.Frag}{H:Hp}{a p:Addr}{vs zs ys:List V}(hp:H p=some (.lst zs))(h:Fix K H a vs):Fix K (upd H p (.lst ys)) a vs:=by
 rcases h with⟨o,h⟩ | h
 ·exact .inl ⟨o,by rw[QS (QmW h hp (by intro z;cases z))];exact h⟩
 ·exact .inr h
section
variable {K:PySem.W.Frag}{H H':Hp}
mutual
theorem Rp.same(s:QP H H'):∀{d:D}{v:V}{F:List Addr},Rp K H d v F->Rp K H' d v F
 | .exc _,_,_,h=>by
  simp only[Rp]at h ⊢
  obtain⟨⟨a,e,q⟩,z⟩:=h
  exact⟨⟨a,e,QqQ s q⟩,z⟩
 | .non,_,_,h=>h
 | .bl _,_,_,h=>h
 | .int _,_,_,h=>h
 | .str _,_,_,h=>h
 | .tup ds,_,_,h=>by
  simp only[Rp]at h ⊢
  obtain⟨a,vs,e,q,r⟩:=h
  exact⟨a,vs,e,Qoj s q,Rps.same s r⟩
 | .lst ds,_,_,h=>by
  simp only[Rp]at h ⊢
  obtain⟨hz,a,vs,e,⟨G,eF,q,r⟩ | ⟨q,r⟩⟩:=h
  ·exact⟨hz,a,vs,e,.inl ⟨G,eF,s _ _ q,Rps.same s r⟩⟩
  ·exact⟨hz,a,vs,e,.inr ⟨Qnd s q,Rps.same s r⟩⟩
theorem Rps.same(s:QP H H'):∀{ds:List D}{vs:List V}{F:List Addr},Rps K H ds vs F->Rps K H' ds vs F
 | [],_,_,h=>h
 | d::ds,_,_,h=>by
  simp only[Rps]at h ⊢
  obtain⟨v,ws,F1,F2,e,eF,r,q⟩:=h
  exact⟨v,ws,F1,F2,e,eF,Rp.same s r,Rps.same s q⟩
end
mutual
theorem Rp.upd{p:Addr}{zs ys:List V}(hp:H p=some (.lst zs)):∀{d:D}{v:V}{F:List Addr},Rp K H d v F->p∉F->Rp K (upd H p (.lst ys)) d v F
 | .exc _,_,_,h,_=>by
  simp only[Rp]at h ⊢
  obtain⟨⟨a,e,q⟩,z⟩:=h
  exact⟨⟨a,e,Qrc hp q⟩,z⟩
 | .non,_,_,h,_=>h
 | .bl _,_,_,h,_=>h
 | .int _,_,_,h,_=>h
 | .str _,_,_,h,_=>h
 | .tup ds,_,_,h,hn=>by
  simp only[Rp]at h ⊢
  obtain⟨a,vs,e,q,r⟩:=h
  exact⟨a,vs,e,QpE hp q,Rps.upd hp r hn⟩
 | .lst ds,_,_,h,hn=>by
  simp only[Rp]at h ⊢
  obtain⟨hz,a,vs,e,⟨G,eF,q,r⟩ | ⟨q,r⟩⟩:=h
  ·subst eF
   have h1:a≠p:=λz=>hn (by rw[z];exact Zo)
   exact⟨hz,a,vs,e,.inl ⟨G,rfl,by rw[QS h1];exact q,Rps.upd hp r λz=>hn (Ze _ z)⟩⟩
  ·exact⟨hz,a,vs,e,.inr ⟨Qwe hp q,Rps.upd hp r hn⟩⟩
theorem Rps.upd{p:Addr}{zs ys:List V}(hp:H p=some (.lst zs)):∀{ds:List D}{vs:List V}{F:List Addr},Rps K H ds vs F->p∉F->Rps K (upd H p (.lst ys)) ds vs F
 | [],_,_,h,_=>h
 | d::ds,_,_,h,hn=>by
  simp only[Rps]at h ⊢
  obtain⟨v,ws,F1,F2,e,eF,r,q⟩:=h
  subst eF
  exact⟨v,ws,F1,F2,e,rfl,Rp.upd hp r λz=>hn (Zj _ z),Rps.upd hp q λz=>hn (Zc _ z)⟩
end
mutual
theorem Rp.mem:∀{d:D}{v:V}{F:List Addr},Rp K H d v F->∀a∈F,∃vs,H a=some (.lst vs)
 | .non,_,_,h,a,ha=>by simp only[Rp]at h;rw[h.2]at ha;simp at ha
 | .bl _,_,_,h,a,ha=>by simp only[Rp]at h;rw[h.2]at ha;simp at ha
 | .int _,_,_,h,a,ha=>by simp only[Rp]at h;rw[h.2]at ha;simp at ha
 | .str _,_,_,h,a,ha=>by simp only[Rp]at h;rw[h.2]at ha;simp at ha
 | .exc _,_,_,h,a,ha=>by simp only[Rp]at h;rw[h.2]at ha;simp at ha
 | .tup ds,_,_,h,a,ha=>by
  simp only[Rp]at h
  obtain⟨_,vs,e,q,r⟩:=h
  exact Rps.mem r a ha
 | .lst ds,_,_,h,a,ha=>by
  simp only[Rp]at h
  obtain⟨_,b,vs,e,⟨G,eF,q,r⟩ | ⟨q,r⟩⟩:=h
  ·subst eF
   rcases Zs.mp ha with z | z
   ·exact⟨vs,by rw[z];exact q⟩
   ·exact Rps.mem r a z
  ·exact Rps.mem r a ha
theorem Rps.mem:∀{ds:List D}{vs:List V}{F:List Addr},Rps K H ds vs F->∀a∈F,∃vs,H a=some (.lst vs)
 | [],_,_,h,a,ha=>by simp only[Rps]at h;rw[h.2]at ha;simp at ha
 | d::ds,_,_,h,a,ha=>by
  simp only[Rps]at h
  obtain⟨v,ws,F1,F2,e,eF,r,q⟩:=h
  subst eF
  rcases ZC.mp ha with z | z
  ·exact Rp.mem r a z
  ·exact Rps.mem q a z
end
mutual
theorem Rp.Qbm:∀{d:D}{v:V}{F:List Addr},Rp K H d v F->d.flat=true->F=[]
 | .non,_,_,h,_=>by simp only[Rp]at h;exact h.2
 | .bl _,_,_,h,_=>by simp only[Rp]at h;exact h.2
 | .int _,_,_,h,_=>by simp only[Rp]at h;exact h.2
 | .str _,_,_,h,_=>by simp only[Rp]at h;exact h.2
 | .exc _,_,_,h,_=>by simp only[Rp]at h;exact h.2
 | .tup ds,_,_,h,hf=>by
  simp only[Rp]at h
  simp only[D.flat]at hf
  obtain⟨_,vs,e,q,r⟩:=h
  exact Rps.Qbm r hf
 | .lst ds,_,_,h,hf=>by simp[D.flat]at hf
theorem Rps.Qbm:∀{ds:List D}{vs:List V}{F:List Addr},Rps K H ds vs F->QQ ds=true->F=[]
 | [],_,_,h,_=>by simp only[Rps]at h;exact h.2
 | d::ds,_,_,h,hf=>by
  simp only[Rps]at h
  simp only[QQ,Zh]at hf
  obtain⟨v,ws,F1,F2,e,eF,r,q⟩:=h
  rw[eF,Rp.Qbm r hf.1,Rps.Qbm q hf.2];rfl
end
mutual
theorem Rp.QaB:∀{d:D}{v:V}{F:List Addr},Rp K H d v F->F.length<=d.nl
 | .non,_,_,h=>by simp only[Rp]at h;rw[h.2];exact ZX _
 | .bl _,_,_,h=>by simp only[Rp]at h;rw[h.2];exact ZX _
 | .int _,_,_,h=>by simp only[Rp]at h;rw[h.2];exact ZX _
 | .str _,_,_,h=>by simp only[Rp]at h;rw[h.2];exact ZX _
 | .exc _,_,_,h=>by simp only[Rp]at h;rw[h.2];exact ZX _
 | .tup ds,_,_,h=>by
  simp only[Rp]at h
  obtain⟨_,vs,e,q,r⟩:=h
  simp only[D.nl]
  exact Rps.QaB r
 | .lst ds,_,_,h=>by
  simp only[Rp]at h
  simp only[D.nl]
  obtain⟨_,b,vs,e,⟨G,eF,q,r⟩ | ⟨q,r⟩⟩:=h
  ·rw[eF,ZE];have:=Rps.QaB r;omega
  ·have:=Rps.QaB r;omega
theorem Rps.QaB:∀{ds:List D}{vs:List V}{F:List Addr},Rps K H ds vs F->F.length<=nls ds
 | [],_,_,h=>by simp only[Rps]at h;rw[h.2];exact ZX _
 | d::ds,_,_,h=>by
  simp only[Rps]at h
  obtain⟨v,ws,F1,F2,e,eF,r,q⟩:=h
  simp only[nls]
  rw[eF,Zr]
  have:=Rp.QaB r
  have:=Rps.QaB q
  omega
end
theorem Rps.length:∀{ds:List D}{vs:List V}{F:List Addr},Rps K H ds vs F->ds.length=vs.length
 | [],_,_,h=>by simp only[Rps]at h;rw[h.1];rfl
 | d::ds,_,_,h=>by
  simp only[Rps]at h
  obtain⟨v,ws,F1,F2,e,eF,r,q⟩:=h
  rw[e,ZE,ZE,Rps.length q]
theorem Rps.append:∀{ds es:List D}{vs ws:List V}{F G:List Addr},Rps K H ds vs F->Rps K H es ws G->Rps K H (ds++es) (vs++ws) (F++G)
 | [],_,_,_,_,_,h,g=>by simp only[Rps]at h;rw[h.1,h.2];exact g
 | d::ds,_,_,_,_,_,h,g=>by
  simp only[Rps,Zbx]at h ⊢
  obtain⟨v,ws,F1,F2,e,eF,r,q⟩:=h
  subst e eF
  exact⟨v,_,F1,_,rfl,by rw[ZaP],r,Rps.append q g⟩
theorem Rps.get:∀{ds:List D}{vs:List V}{F:List Addr}{i:Nat}{d:D},Rps K H ds vs F->ds[i]? =some d->∃v F1 G F2,vs[i]? =some v/\F=F1++(G++F2)/\Rp K H d v G/\(F.length=nls ds->G.length=d.nl)
 | [],_,_,_,_,_,e=>by simp at e
 | d::ds,_,_,0,_,h,e=>by
  simp only[Rps]at h
  obtain⟨v,ws,F1,F2,e1,eF,r,q⟩:=h
  simp at e;subst e e1 eF
  refine⟨v,[],F1,F2,by simp,rfl,r,λhl=>?_⟩
  simp only[nls,Zr]at hl
  have:=Rp.QaB r
  have:=Rps.QaB q
  omega
 | d::ds,_,_,i+1,_,h,e=>by
  simp only[Rps]at h
  obtain⟨v,ws,F1,F2,e1,eF,r,q⟩:=h
  obtain⟨v',G1,G,G2,h1,h2,h3,h4⟩:=Rps.get q (i:=i) (by simpa using e)
  have l1:=Rp.QaB r
  have l2:=Rps.QaB q
  subst e1 eF
  refine⟨v',F1++G1,G,G2,by simpa using h1,by rw[h2,ZaP],h3,λhl=>h4 ?_⟩
  simp only[nls,Zr]at hl
  omega
theorem Fix.sq{K:PySem.W.Frag}{H:Hp}{a:Addr}{vs:List V}(h:Fix K H a vs):SqL K H a vs:=by
 rcases h with⟨o,h⟩ | ⟨its,n,h,hz,r⟩
 ·exact .inl (.inr ⟨o,h⟩)
 ·exact .inr ⟨_,its.toArray,n,h,rfl,rfl,rfl,by rw[Zt,← r.length];exact hz,by simpa using r⟩
theorem _root_.L2.Inv.QnD{X:Cx}{pins:List (Addr×Obj)}{σ:L2.St}{H:Hp}{s:Shared}{a:Addr}{vs:List V}(I:Inv X pins σ H s)(h:H a=some (.lst vs)∨Fix X.K H a vs):
  vs.length<=sizeLine/\∃(its:List Value) (n:Nat),QC vs its/\vs.length=its.length/\s.heap.get? a=some {cls:= .type "list",data:= .seq its.toArray n}:=by
 rcases h with h | ⟨o,h⟩ | ⟨its,n,h,hz,r⟩
 ·exact I.QnG h
 ·obtain⟨e,hz,its,n,r,e2⟩:=I.hok a _ h
  exact⟨hz,its,n,r,r.length,e2⟩
 ·exact⟨hz,its,n,r,r.length,I.kIn _ _ h⟩
theorem Rp.lst_inv{K:PySem.W.Frag}{H:Hp}{ds:List D}{v:V}{F:List Addr}(h:Rp K H (.lst ds) v F):
  ∃a vs G,v= .ref a/\(H a=some (.lst vs)∨Fix K H a vs)/\Rps K H ds vs G/\ds.length<=sizeLine/\(F=a::G∨F=G):=by
 simp only[Rp]at h
 obtain⟨hz,a,vs,e,⟨G,eF,q,r⟩ | ⟨q,r⟩⟩:=h
 ·exact⟨a,vs,G,e,.inl q,r,hz,.inl eF⟩
 ·exact⟨a,vs,F,e,.inr q,r,hz,.inr rfl⟩
theorem Q5{K:PySem.W.Frag}{H:Hp}{a:Addr}{vs:List V}(h:H a=some (.lst vs)∨Fix K H a vs):SqL K H a vs:=h.elim (λh=>SqL.of h) Fix.sq
theorem Rp.QbD{K:PySem.W.Frag}{H:Hp}{ds:List D}{v:V}{F:List Addr}(h:Rp K H (.tup ds) v F):∃a vs,v= .ref a/\SqT K H a vs/\Rps K H ds vs F:=by
 simp only[Rp]at h
 exact h
theorem Rp.Qea{K:PySem.W.Frag}{H:Hp}{ds:List D}{a:Addr}{vs:List V}{G:List Addr}(h:H a=some (.lst vs))(r:Rps K H ds vs G)(hz:ds.length<=sizeLine):Rp K H (.lst ds) (.ref a) (a::G):=by
 simp only[Rp]
 exact⟨hz,a,vs,rfl,.inl ⟨G,rfl,h,r⟩⟩
theorem Rp.Qfu{K:PySem.W.Frag}{H:Hp}{ds:List D}{a:Addr}{vs:List V}{G:List Addr}(h:H a=some (.tup vs))(r:Rps K H ds vs G):Rp K H (.tup ds) (.ref a) G:=by
 simp only[Rp]
 exact⟨a,vs,rfl,SqT.of h,r⟩
theorem Rp.int_inv{K:PySem.W.Frag}{H:Hp}{i:Int}{v:V}{F:List Addr}(h:Rp K H (.int i) v F):v= .int i:=by simp only[Rp]at h;exact h.1
theorem Rp.QfH{K:PySem.W.Frag}{H:Hp}{i:Bool}{v:V}{F:List Addr}(h:Rp K H (.bl i) v F):v= .bl i:=by simp only[Rp]at h;exact h.1
theorem Rp.Qla{K:PySem.W.Frag}{H:Hp}{v:V}{F:List Addr}(h:Rp K H .non v F):v= .non:=by simp only[Rp]at h;exact h.1
theorem Rp.str_inv{K:PySem.W.Frag}{H:Hp}{i:Str}{v:V}{F:List Addr}(h:Rp K H (.str i) v F):v= .str i:=by simp only[Rp]at h;exact h.1
theorem Rp.int_mk{K:PySem.W.Frag}{H:Hp}{i:Int}:Rp K H (.int i) (.int i) []:=by simp[Rp]
theorem Rp.Qei{K:PySem.W.Frag}{H:Hp}{i:Bool}:Rp K H (.bl i) (.bl i) []:=by simp[Rp]
theorem Rp.Qkf{K:PySem.W.Frag}{H:Hp}:Rp K H .non .non []:=by simp[Rp]
theorem Rp.str_mk{K:PySem.W.Frag}{H:Hp}{i:Str}:Rp K H (.str i) (.str i) []:=by simp[Rp]
theorem Qa1{H:Hp}{p:Addr}{o:HO}(h:H p=none):QP H (L2.upd H p o):=λb u e=>by rw[QS (Qb5 e h)];exact e
end
end HS
namespace HS
open PySem PySem.Spec L2
noncomputable abbrev En:=List (Option (D×Bool))
structure R where
 d:D
 fr:Bool
 M:List Nat
structure RA where
 ds:List D
 fr:Bool
 M:List Nat
noncomputable abbrev DE:=En->Option R
noncomputable abbrev DA:=En->Option RA
noncomputable abbrev DT:=En->Option Bool
structure Rel (K:PySem.W.Frag) (H0:Hp) (A0:List Addr) (hs:List (V×D×List Addr)) (ρ:En) (F:Nat->List Addr) (σ:St) (H:Hp):Prop where
 len:ρ.length=σ.length
 val:∀(i:Nat) d b,ρ[i]? =some (some (d,b))->∃v,σ[i]? =some (some v)/\Rp K H d v (F i)
 own:∀(i:Nat) d,ρ[i]? =some (some (d,true))->(F i).length=d.nl/\(F i).Nodup/\(∀a∈F i,H0 a=none)/\(∀(j:Nat) d' b',j≠i->ρ[j]? =some (some (d',b'))->∀a∈F i,a∉F j)/\∀t∈hs,∀a∈F i,a∉t.2.2
 src:∀(i:Nat) d b,ρ[i]? =some (some (d,b))->∀a∈F i,H0 a=none∨a∈A0
 held:∀t∈hs,Rp K H t.2.1 t.1 t.2.2/\∀a∈t.2.2,H0 a=none∨a∈A0
 same:QP H0 H
def Src(ρ:En)(F:Nat->List Addr)(H:Hp)(M:List Nat)(G:List Addr):Prop:=
 ∀a∈G,H a=none∨∃(i:Nat) (d:D) (b:Bool),ρ[i]? =some (some (d,b))/\a∈F i/\(b=true->i∈M)
noncomputable def nw(H:Hp)(a:Addr):Nat:=match H a with | none=>1 | some _=>0
def Cnt(F:Nat->List Addr)(H:Hp)(M:List Nat)(G:List Addr):Prop:=
 ∀a,G.count a<=nw H a+((M.map F).flatten).count a
def Qbp(ρ:En)(M:List Nat):Prop:=∀i∈M,∃d,ρ[i]? =some (some (d,true))
structure Qaa (K:PySem.W.Frag) (ρ:En) (F:Nat->List Addr) (H H':Hp) (r:R) (v:V) (G:List Addr):Prop where
 same:QP H H'
 rp:Rp K H' r.d v G
 src:Src ρ F H r.M G
 cnt:r.fr=true->Cnt F H r.M G/\G.length=r.d.nl
 own:Qbp ρ r.M
structure Qzj (K:PySem.W.Frag) (ρ:En) (F:Nat->List Addr) (H H':Hp) (r:RA) (vs:List V) (G:List Addr):Prop where
 same:QP H H'
 rp:Rps K H' r.ds vs G
 src:Src ρ F H r.M G
 cnt:r.fr=true->Cnt F H r.M G/\G.length=nls r.ds
 own:Qbp ρ r.M
noncomputable def tV(K:PySem.W.Frag)(H0:Hp)(A0:List Addr)(f:DE):TE:=λσ H Q=>∃ρ hs F r,Rel K H0 A0 hs ρ F σ H/\f ρ=some r/\∀v H' G,Qaa K ρ F H H' r v G->Q v H'
noncomputable def tVA(K:PySem.W.Frag)(H0:Hp)(A0:List Addr)(f:DA):TA:=λσ H Q=>∃ρ hs F r,Rel K H0 A0 hs ρ F σ H/\f ρ=some r/\∀v H' G,Qzj K ρ F H H' r v G->Q v H'
noncomputable def tVT(K:PySem.W.Frag)(H0:Hp)(A0:List Addr)(f:DT):TT:=λσ H Q=>∃ρ hs F b,Rel K H0 A0 hs ρ F σ H/\f ρ=some b/\∀H',QP H H'->Q b H'
def SE(X:Cx)(e:Expr)(f:DE):Prop:=∀H0 A0,PE X e (tV X.K H0 A0 f)
def SA(X:Cx)(es:List Expr)(f:DA):Prop:=∀H0 A0,PA X es (tVA X.K H0 A0 f)
def ST(X:Cx)(e:Expr)(f:DT):Prop:=∀H0 A0,PT X e (tVT X.K H0 A0 f)
theorem _root_.L2.PE.mono{X:Cx}{e:Expr}{t t':TE}(h:PE X e t)(m:∀σ H Q,t' σ H Q->t σ H Q):PE X e t':=λpins s σ H Q I q=>h pins s σ H Q I (m σ H Q q)
theorem _root_.L2.PT.mono{X:Cx}{e:Expr}{t t':TT}(h:PT X e t)(m:∀σ H Q,t' σ H Q->t σ H Q):PT X e t':=λpins s σ H Q I q=>h pins s σ H Q I (m σ H Q q)
theorem _root_.L2.PA.mono{X:Cx}{e:List Expr}{t t':TA}(h:PA X e t)(m:∀σ H Q,t' σ H Q->t σ H Q):PA X e t':=λpos pins s σ H Q I q=>h pos pins s σ H Q I (m σ H Q q)
section
variable {K:PySem.W.Frag}{H0 H H':Hp}{A0:List Addr}{hs:List (V×D×List Addr)}{ρ:En}{F:Nat->List Addr}{σ:St}
theorem Rel.ext(r:Rel K H0 A0 hs ρ F σ H)(s:QP H H'):Rel K H0 A0 hs ρ F σ H' where
 len:=r.len
 val:=λi d b e=>let ⟨v,h1,h2⟩:=r.val i d b e;⟨v,h1,h2.same s⟩
 own:=r.own
 src:=r.src
 held:=λt ht=>⟨(r.held t ht).1.same s,(r.held t ht).2⟩
 same:=r.same.trans s
theorem Rel.mem(r:Rel K H0 A0 hs ρ F σ H){i:Nat}{d:D}{b:Bool}(e:ρ[i]? =some (some (d,b))){a:Addr}(h:a∈F i):∃vs,H a=some (.lst vs):=
 let ⟨_,_,h2⟩:=r.val i d b e;h2.mem a h
theorem Qdw{a:Addr}{o:HO}(h:H a=some o):nw H a=0:=by simp[nw,h]
theorem Qbw{a:Addr}(h:H a=none):nw H a=1:=by simp[nw,h]
theorem Rel.fl0(r:Rel K H0 A0 hs ρ F σ H){M:List Nat}(ow:Qbp ρ M){a:Addr}(h:H a=none):((M.map F).flatten).count a=0:=by
 rw[ZO]
 intro hm
 obtain⟨l,hl,ha⟩:=Zby.mp hm
 obtain⟨i,hi,rfl⟩:=ZT.mp hl
 obtain⟨d,e⟩:=ow i hi
 obtain⟨vs,q⟩:=r.mem e ha
 rw[h]at q;cases q
theorem Cnt.append(r:Rel K H0 A0 hs ρ F σ H){H1:Hp}{M1 M2:List Nat}{G1 G2:List Addr}(c1:Cnt F H M1 G1)(c2:Cnt F H1 M2 G2)(s:QP H H1)(m1:∀a∈G1,∃vs,H1 a=some (.lst vs)):Cnt F H (M1++M2) (G1++G2):=λa=>by
 rw[Zam,ZaN,List.flatten_append,Zam]
 have h1:=c1 a
 have h2:=c2 a
 cases q:H1 a with
 | some o=>rw[Qdw q]at h2;omega
 | none=>
  rw[Qbw q]at h2
  have h3:H a=none:=s.free q
  rw[Qbw h3]at h1 ⊢
  have h4:G1.count a=0:=ZO.mpr λhm=>by obtain⟨vs,z⟩:=m1 a hm;rw[q]at z;cases z
  omega
theorem Src.append{H1:Hp}{M1 M2:List Nat}{G1 G2:List Addr}(c1:Src ρ F H M1 G1)(c2:Src ρ F H1 M2 G2)(s:QP H H1):Src ρ F H (M1++M2) (G1++G2):=λa ha=>by
 rcases ZC.mp ha with h | h
 ·rcases c1 a h with z | ⟨i,d,b,e,m,w⟩
  ·exact .inl z
  ·exact .inr ⟨i,d,b,e,m,λhb=>Zj _ (w hb)⟩
 ·rcases c2 a h with z | ⟨i,d,b,e,m,w⟩
  ·exact .inl (s.free z)
  ·exact .inr ⟨i,d,b,e,m,λhb=>Zc _ (w hb)⟩
theorem Qbp.append{M1 M2:List Nat}(h1:Qbp ρ M1)(h2:Qbp ρ M2):Qbp ρ (M1++M2):=λi hi=>(ZC.mp hi).elim (h1 i) (h2 i)
theorem Qbp.nil:Qbp ρ []:=λi hi=>by simp at hi
theorem Src.nil{M:List Nat}:Src ρ F H M []:=λa ha=>by simp at ha
theorem Cnt.nil{M:List Nat}:Cnt F H M []:=λa=>by simp
theorem Qaa.flat{d:D}{v:V}(s:QP H H')(r:Rp K H' d v [])(hf:d.flat=true:=by rfl):Qaa K ρ F H H' ⟨d,true,[]⟩ v []:=⟨s,r,Src.nil,λ_=>⟨Cnt.nil,(Qdr d hf).symm⟩,Qbp.nil⟩
theorem Qaa.sub{r:R}{v u:V}{d:D}{G G':List Addr}{H1:Hp}(p:Qaa K ρ F H H1 r v G)(rp:Rp K H1 d u G')(hs:∀a,G'.count a<=G.count a)(hn:G.length=r.d.nl->G'.length=d.nl):Qaa K ρ F H H1 ⟨d,r.fr,r.M⟩ u G' where
 same:=p.same
 rp:=rp
 src:=λa ha=>p.src a (by
  have:=hs a
  have h1:0<G'.count a:=ZZ.mpr ha
  exact ZZ.mp (by omega))
 cnt:=λh=>⟨λa=>Zx (hs a) ((p.cnt h).1 a),hn (p.cnt h).2⟩
 own:=p.own
noncomputable def R.norm(r:R):R:=if r.d.flat then⟨r.d,true,[]⟩else r
theorem R.QcL(r:R):r.norm.d=r.d:=by unfold R.norm;split<;>rfl
theorem Qaa.norm{r:R}{v:V}{G:List Addr}(p:Qaa K ρ F H H' r v G):Qaa K ρ F H H' r.norm v G:=by
 unfold R.norm
 split
 ·rename_i h
  have:=p.rp.Qbm h
  subst this
  exact .flat p.same p.rp h
 ·exact p
end
noncomputable def Qa(i:Nat):DE:=λρ=>match ρ[i]? with
 | some (some (d,b))=>if d.flat then some ⟨d,true,[]⟩else if b then some ⟨d,true,[i]⟩else some ⟨d,false,[]⟩
 | _=>none
noncomputable def dC(d:D):DE:=λ_=>some ⟨d,true,[]⟩
section
variable {X:Cx}
theorem Qd9{i:Nat}{x:Str}{pos:Pos}(h:PE X (.Name x pos) (Qgq i)):SE X (.Name x pos) (Qa i):=λH0 A0=>h.mono λσ H Q ⟨ρ,hs,F,r,rel,e,q⟩=>by
 unfold Qa at e
 split at e
 ·rename_i d b q1
  obtain⟨v,h1,h2⟩:=rel.val i d b q1
  refine⟨v,h1,q v H (F i) ?_⟩
  split at e
  ·rename_i hf
   cases e
   have:=h2.Qbm hf
   rw[this]at h2 ⊢
   exact .flat (QP.refl _) h2 hf
  ·split at e
   ·rename_i hb
    cases e
    subst hb
    exact⟨QP.refl _,h2,λa ha=> .inr ⟨i,d,true,q1,ha,λ_=>by simp⟩,λ_=>⟨λa=>(by simp),(rel.own i d q1).1⟩,λj hj=>by simp at hj;subst hj;exact⟨d,q1⟩⟩
   ·rename_i hb
    cases e
    simp at hb
    subst hb
    exact⟨QP.refl _,h2,λa ha=> .inr ⟨i,d,false,q1,ha,λz=>by cases z⟩,λz=>(by cases z),Qbp.nil⟩
 ·cases e
theorem Qod{e:Expr}{d:D}{v:V}(h:PE X e (tC v))(r:∀K H,Rp K H d v [])(hf:d.flat=true):SE X e (dC d):=λH0 A0=>h.mono λσ H Q ⟨ρ,hs,F,r',rel,e,q⟩=>by
 cases e
 exact q v H [] (.flat (QP.refl _) (r _ _) hf)
theorem two{K:PySem.W.Frag}{H0:Hp}{A0:List Addr}{fa fb:DE}{σ:St}{H:Hp}{hs:List (V×D×List Addr)}{ρ:En}{F:Nat->List Addr}{ra rb:R}{Rr:V->V->Hp->Prop}(rel:Rel K H0 A0 hs ρ F σ H)(ea:fa ρ=some ra)(eb:fb ρ=some rb)
  (k:∀x y H1 H2 G1 G2,Qaa K ρ F H H1 ra x G1->Qaa K ρ F H1 H2 rb y G2->Rr x y H2):tV K H0 A0 fa σ H λx H1=>tV K H0 A0 fb σ H1 λy H2=>Rr x y H2:=
 ⟨ρ,hs,F,ra,rel,ea,λx H1 G1 p1=>⟨ρ,hs,F,rb,rel.ext p1.same,eb,λy H2 G2 p2=>k x y H1 H2 G1 G2 p1 p2⟩⟩
noncomputable def dOp(g:D->D->Option D)(fa fb:DE):DE:=λρ=>(fa ρ).bind λra=>(fb ρ).bind λrb=>(g ra.d rb.d).map λd=>⟨d,true,[]⟩
theorem Qlz{g:D->D->Option D}{fa fb:DE}{ρ:En}{r:R}(e:dOp g fa fb ρ=some r):∃ra rb d,fa ρ=some ra/\fb ρ=some rb/\g ra.d rb.d=some d/\r=⟨d,true,[]⟩:=by
 unfold dOp at e
 cases h1:fa ρ with
 | none=>rw[h1]at e;cases e
 | some ra=>
  cases h2:fb ρ with
  | none=>rw[h1,h2]at e;cases e
  | some rb=>
   rw[h1,h2]at e
   cases h3:g ra.d rb.d with
   | none=>simp[h3]at e
   | some d=>simp[h3]at e;exact⟨ra,rb,d,rfl,rfl,h3,e.symm⟩
def Qcm(K:PySem.W.Frag)(g:D->D->Option D)(r:R2):Prop:=∀a b d,g a b=some d->d.flat=true/\∀H x y F G (Q:VK),Rp K H a x F->Rp K H b y G->(∀v,(∀H',Rp K H' d v [])->Q v H)->r x y H Q
theorem QmJ{a b:Expr}{op:Operator}{pos:Pos}{fa fb:DE}{g:D->D->Option D}{r:R2}(ho:OpR X (binaryOp op) r)(hg:Qcm X.K g r)(ha:SE X a fa)(hb:SE X b fb):SE X (.BinOp a op b pos) (dOp g fa fb):=λH0 A0=>
 (QqY ho (ha H0 A0) (hb H0 A0)).mono λσ H Q ⟨ρ,hs,F,r',rel,e,q⟩=>by
  obtain⟨ra,rb,d,ea,eb,eg,rfl⟩:=Qlz e
  refine two rel ea eb λx y H1 H2 G1 G2 p1 p2=>(hg _ _ _ eg).2 H2 x y G1 G2 Q (p1.rp.same p2.same) p2.rp λv hv=>?_
  exact q v H2 [] (.flat (p1.same.trans p2.same) (hv H2) (hg _ _ _ eg).1)
theorem Qxr{a b:Expr}{op:CmpOp}{pos:Pos}{fa fb:DE}{g:D->D->Option D}{r:R2}(ho:OpR X (compareOp op) r)(hg:Qcm X.K g r)(ha:SE X a fa)(hb:SE X b fb)(hm:behindInMarks op b=false):SE X (.Compare a [op] [b] pos) (dOp g fa fb):=λH0 A0=>
 (QwS ho (ha H0 A0) (hb H0 A0) hm).mono λσ H Q ⟨ρ,hs,F,r',rel,e,q⟩=>by
  obtain⟨ra,rb,d,ea,eb,eg,rfl⟩:=Qlz e
  refine two rel ea eb λx y H1 H2 G1 G2 p1 p2=>(hg _ _ _ eg).2 H2 x y G1 G2 Q (p1.rp.same p2.same) p2.rp λv hv=>?_
  exact q v H2 [] (.flat (p1.same.trans p2.same) (hv H2) (hg _ _ _ eg).1)
end
end HS
namespace HS
open PySem PySem.Spec L2
noncomputable def QdD(i j:Int):Int:=if 0<=j then i / j else i.fdiv j
noncomputable def QaX(i j:Int):Int:=if 0<=j then i % j else i.fmod j
theorem QiE(i j:Int):QdD i j=i.fdiv j:=by
 unfold QdD;split
 ·rw[Int.fdiv_eq_ediv_of_nonneg _ (by assumption)]
 ·rfl
theorem QgV(i j:Int):QaX i j=i.fmod j:=by
 unfold QaX;split
 ·rw[Int.fmod_eq_emod_of_nonneg _ (by assumption)]
 ·rfl
noncomputable def Qed(i j:Int):Bool:=decide (i.natAbs<2^64) || decide (j.natAbs<2^64) || (decide (Builtin.Int.intBits i<=2^20) && decide (Builtin.Int.intBits j<=2^20))
noncomputable def QbK(j:Int):Bool:=decide (j≠0) && decide (j.natAbs<2^8000)
noncomputable def gI(f:Int->Int->Option D)(a b:D):Option D:=match a,b with
 | .int i,.int j=>f i j
 | _,_=>none
noncomputable def QaJ:=gI λi j=>some (.int (i-j))
noncomputable def Qez:=gI λi j=>if QbK j then some (.int (QdD i j))else none
noncomputable def QaV:=gI λi j=>if j≠0 then some (.int (QaX i j))else none
noncomputable def Qfv:=gI λi j=>if 0<=j/\j<=1000/\i.natAbs<2^200 then some (.int (i^j.toNat))else none
noncomputable def gLt:=gI λi j=>some (.bl (decide (i<j)))
noncomputable def gLe:=gI λi j=>some (.bl (decide (i<=j)))
noncomputable def gGt:=gI λi j=>some (.bl (decide (j<i)))
noncomputable def gGe:=gI λi j=>some (.bl (decide (j<=i)))
theorem QsG{f:Int->Int->Option D}{a b d:D}(h:gI f a b=some d):∃i j,a= .int i/\b= .int j/\f i j=some d:=by
 unfold gI at h
 split at h
 ·exact⟨_,_,rfl,rfl,h⟩
 ·cases h
section
variable {K:PySem.W.Frag}{X:Cx}
theorem Qhs{f:Int->Int->Option D}{r:R2}(hf:∀i j d,f i j=some d->d.flat=true)(h:∀i j d,f i j=some d->∀H (Q:VK),(∀v,(∀H',Rp K H' d v [])->Q v H)->r (.int i) (.int j) H Q):Qcm K (gI f) r:=λa b d e=>by
 obtain⟨i,j,rfl,rfl,ef⟩:=QsG e
 refine⟨hf i j d ef,λH x y F G Q ha hb q=>?_⟩
 rw[ha.int_inv,hb.int_inv]
 exact h i j d ef H Q q
theorem QsF:Qcm K QaJ (rI0 λi j=> .int (i-j)):=Qhs (λi j d e=>by cases e;rfl) λi j d e H Q q=>by cases e;exact⟨i,j,rfl,rfl,q _ λ_=> .int_mk⟩
theorem Qt9{i j:Int}(h:Qed i j=true):IntMulOk i j:=by
 have small:∀k:Int,k.natAbs<2^64->Builtin.Int.intBits k<=64:=λk hk=>by
  unfold Builtin.Int.intBits
  split
  ·omega
  ·rename_i h0;have h0':k.natAbs≠0:=λz=>by simp_all
   have:=(Zcm h0').mpr hk;omega
 unfold Qed at h
 simp only[Zck,Zh,decide_eq_true_eq]at h
 rcases h with(h | h) | ⟨h1,h2⟩
 ·exact .of_left (small i h)
 ·exact .of_right (small j h)
 ·exact .of_bits h1 h2
theorem Qvp:OpR X (binaryOp .Mult) (rI (λi j=>Qed i j=true) λi j=> .int (i*j)):=opI λ_ _ _ _ _ _ _ hc q=>PyProof.Rows.mul_int q (Qt9 hc)
theorem Qwb:OpR X (binaryOp .FloorDiv) (rI (λi j=>QbK j=true) λi j=> .int (QdD i j)):=opI λi j _ _ _ _ _ hc q=>by
 unfold QbK at hc
 simp only[Zh,decide_eq_true_eq]at hc
 rw[QiE]at q
 refine PyProof.Rows.floordiv_int hc.1 q (.inl (Zbg ?_))
 have h0:j.natAbs≠0:=by omega
 exact Zcd ((Zcm h0).mpr hc.2) (by decide)
theorem Qwj:OpR X (binaryOp .Mod) (rI (λi j=>j≠0) λi j=> .int (QaX i j)):=opI λi j _ _ _ _ _ hc q=>by
 rw[QgV]at q
 exact PyProof.Rows.mod_int' hc q
theorem Qx0:Qcm K Qez (rI (λi j=>QbK j=true) λi j=> .int (QdD i j)):=Qhs (λi j d e=>by split at e<;>cases e;rfl) λi j d e H Q q=>by
 split at e
 ·cases e;exact⟨i,j,rfl,rfl,by assumption,q _ λ_=> .int_mk⟩
 ·cases e
theorem Qyg:Qcm K QaV (rI (λi j=>j≠0) λi j=> .int (QaX i j)):=Qhs (λi j d e=>by split at e<;>cases e;rfl) λi j d e H Q q=>by
 split at e
 ·cases e;exact⟨i,j,rfl,rfl,by assumption,q _ λ_=> .int_mk⟩
 ·cases e
theorem QvL:OpR X (binaryOp .Pow) (rI (λi j=>0<=j/\j<=1000/\i.natAbs<2^200) λi j=> .int (i^j.toNat)):=opI λi j _ _ _ _ _ hc q=>by
 refine PyProof.Rows.pow_int hc.1 ?_ q
 have hb:Builtin.Int.intBits i<=200:=by
  unfold Builtin.Int.intBits
  split
  ·omega
  ·rename_i h0;have h0':i.natAbs≠0:=λz=>by simp_all
   have:=(Zcm h0').mpr hc.2.2;omega
 have h1:((Builtin.Int.intBits i:Nat):Int)*j<=200*1000:=Int.mul_le_mul (by omega) hc.2.1 hc.1 (by decide)
 omega
theorem QxP:Qcm K Qfv (rI (λi j=>0<=j/\j<=1000/\i.natAbs<2^200) λi j=> .int (i^j.toNat)):=Qhs (λi j d e=>by split at e<;>cases e;rfl) λi j d e H Q q=>by
 split at e
 ·rename_i h;cases e;exact⟨i,j,rfl,rfl,h,q _ λ_=> .int_mk⟩
 ·cases e
theorem QzH:Qcm K gLt (rI0 λi j=> .bl (decide (i<j))):=Qhs (λi j d e=>by cases e;rfl) λi j d e H Q q=>by cases e;exact⟨i,j,rfl,rfl,q _ λ_=> .Qei⟩
theorem Qze:Qcm K gLe (rI0 λi j=> .bl (decide (i<=j))):=Qhs (λi j d e=>by cases e;rfl) λi j d e H Q q=>by cases e;exact⟨i,j,rfl,rfl,q _ λ_=> .Qei⟩
theorem Qy2:Qcm K gGt (rI0 λi j=> .bl (decide (j<i))):=Qhs (λi j d e=>by cases e;rfl) λi j d e H Q q=>by cases e;exact⟨i,j,rfl,rfl,q _ λ_=> .Qei⟩
theorem Qzg:Qcm K gGe (rI0 λi j=> .bl (decide (j<=i))):=Qhs (λi j d e=>by cases e;rfl) λi j d e H Q q=>by cases e;exact⟨i,j,rfl,rfl,q _ λ_=> .Qei⟩
end
theorem Qdi:∀(xs ys:List D),QQ (xs++ys)=(QQ xs && QQ ys)
 | [],ys=>by simp[QQ]
 | x::xs,ys=>by simp[QQ,Qdi xs ys,Bool.and_assoc]
noncomputable def QaO(ds:List D)(M:List Nat):R:=if QQ ds then⟨.lst ds,true,[]⟩else⟨.lst ds,false,M⟩
section
variable {K:PySem.W.Frag}{H0 H H':Hp}{A0:List Addr}{hs:List (V×D×List Addr)}{ρ:En}{F:Nat->List Addr}{σ:L2.St}
theorem Qaa.QaO{ds:List D}{M:List Nat}{vs:List V}{G:List Addr}{H1:Hp}{p:Addr}(s:QP H H1)(hp:H1 p=none)(r:Rps K H1 ds vs G)(hz:ds.length<=sizeLine)(src:Src ρ F H M G)(ow:Qbp ρ M):
  Qaa K ρ F H (upd H1 p (.lst vs)) (QaO ds M) (.ref p) (p::G):=by
 have s2:QP H1 (upd H1 p (.lst vs)):=Qa1 hp
 have rp:Rp K (upd H1 p (.lst vs)) (.lst ds) (.ref p) (p::G):=Rp.Qea Qaj (r.same s2) hz
 have hH:H p=none:=s.free hp
 unfold HS.QaO
 split
 ·rename_i hf
  have:=r.Qbm hf
  subst this
  refine⟨s.trans s2,rp,λa ha=>?_,λ_=>⟨λa=>?_,by simp only[D.nl,Qhd ds hf];rfl⟩,Qbp.nil⟩
  ·have:a=p:=by simpa using ha
   subst this;exact .inl hH
  ·rw[List.count_singleton]
   split
   ·rename_i e;have e':p=a:=by simpa using e
    subst e';rw[Qbw hH];omega
   ·omega
 ·refine⟨s.trans s2,rp,λa ha=>?_,λz=>(by cases z),ow⟩
  rcases Zs.mp ha with rfl | h
  ·exact .inl hH
  ·exact src a h
end
noncomputable def QJ(fa fb:DE):DE:=λρ=>(fa ρ).bind λra=>(fb ρ).bind λrb=>match ra.d,rb.d with
 | .int i,.int j=>some ⟨.int (i+j),true,[]⟩
 | .lst xs,.lst ys=>if xs.length+ys.length<=sizeLine then some (QaO (xs++ys) (ra.M++rb.M))else none
 | _,_=>none
noncomputable def Qam(fa fb:DE):DE:=λρ=>(fa ρ).bind λra=>(fb ρ).bind λrb=>match ra.d,rb.d with
 | .int i,.int j=>if Qed i j then some ⟨.int (i*j),true,[]⟩else none
 | .lst xs,.int j=>if xs.length*j.toNat<=sizeLine/\ -(2^63)<=j/\j<2^63/\QQ xs=true then some ⟨.lst (List.replicate j.toNat xs).flatten,true,[]⟩else none
 | _,_=>none
theorem QqM{fa fb:DE}{ρ:En}{k:R->R->Option R}{r:R}(e:((fa ρ).bind λra=>(fb ρ).bind λrb=>k ra rb)=some r):∃ra rb,fa ρ=some ra/\fb ρ=some rb/\k ra rb=some r:=by
 cases h1:fa ρ with
 | none=>rw[h1]at e;cases e
 | some ra=>
  cases h2:fb ρ with
  | none=>rw[h1,h2]at e;cases e
  | some rb=>rw[h1,h2]at e;exact⟨ra,rb,rfl,rfl,e⟩
theorem bind1{α β:Type}{x:Option α}{k:α->Option β}{r:β}(e:x.bind k=some r):∃a,x=some a/\k a=some r:=by
 cases x with
 | none=>cases e
 | some a=>exact⟨a,rfl,e⟩
section
variable {X:Cx}{a b:Expr}{fa fb:DE}{pos:Pos}
noncomputable def QzC(K:PySem.W.Frag):R2:=λx y H Q=>∃l c xs zs,x= .ref l/\y= .ref c/\(H l=some (.lst xs)∨Fix K H l xs)/\(H c=some (.lst zs)∨Fix K H c zs)/\xs.length+zs.length<=sizeLine/\∀p,H p=none->Q (.ref p) (upd H p (.lst (xs++zs)))
theorem QwU:OpR X (binaryOp .Add) (QzC X.K):=by
 intro pins s σ H x y v u Q I rx ry h
 obtain⟨l,c,xs,zs,rfl,rfl,hH,hB,hz,q⟩:=h
 cases rx
 cases ry
 obtain⟨z,its,n,r,hl,e⟩:=I.QnD hH
 obtain⟨z2,its2,n2,r2,hl2,e2⟩:=I.QnD hB
 refine PySem.P.add_list e e2 ?_ (by rw[Zt,Zt];omega)
 have ea:its.toArray++its2.toArray=(its++its2).toArray:=by simp
 rw[ea]
 exact⟨.ref _,_,I.Qyn (t':=s.toks) (r.append r2) (by rw[Zr];omega),rfl,q _ I.fresh⟩
theorem QyG(ha:SE X a fa)(hb:SE X b fb):SE X (.BinOp a .Add b pos) (QJ fa fb):=λH0 A0=>
 (QqY (Qw4.or QwU) (ha H0 A0) (hb H0 A0)).mono λσ H Q ⟨ρ,hs,F,r',rel,e,q⟩=>by
  obtain⟨ra,rb,ea,eb,ek⟩:=QqM e
  refine two rel ea eb λx y H1 H2 G1 G2 p1 p2=>?_
  have p1':=p1.rp.same p2.same
  have p2':=p2.rp
  have c1:=p1.src.append p2.src p1.same
  have o1:=p1.own.append p2.own
  revert ek
  revert p1' p2'
  cases ra.d<;>cases rb.d<;>intro p1' p2' ek<;>first | (cases ek;done) | skip
  ·cases ek
   rw[p1'.int_inv,p2'.int_inv]
   exact .inl ⟨_,_,rfl,rfl,q _ H2 [] (.flat (p1.same.trans p2.same) .int_mk)⟩
  ·rename_i xs ys
   dsimp only at ek
   split at ek
   ·rename_i hz
    cases ek
    obtain⟨l,vs,L1,rfl,hl,rl,zl,el⟩:=p1'.lst_inv
    obtain⟨c,ws,L2',rfl,hc,rc,zc,ec⟩:=p2'.lst_inv
    have n1:=rl.length
    have n2:=rc.length
    refine .inr ⟨l,c,vs,ws,rfl,rfl,hl,hc,by omega,λp hp=>?_⟩
    refine q _ _ (p::(L1++L2')) (Qaa.QaO (p1.same.trans p2.same) hp (rl.append rc) (by rw[Zr];exact hz) (λa ha=>c1 a ?_) o1)
    rcases ZC.mp ha with h | h
    ·refine Zj _ ?_
     rcases el with rfl | rfl
     ·exact Ze _ h
     ·exact h
    ·refine Zc _ ?_
     rcases ec with rfl | rfl
     ·exact Ze _ h
     ·exact h
   ·cases ek
noncomputable def Qzn(K:PySem.W.Frag):R2:=λx y H Q=>∃l k xs,x= .ref l/\y= .int k/\(H l=some (.lst xs)∨Fix K H l xs)/\ -(2^63)<=k/\k<2^63/\xs.length*k.toNat<=sizeLine∧
 ∀p,H p=none->Q (.ref p) (upd H p (.lst (List.replicate k.toNat xs).flatten))
theorem QvJ:OpR X (binaryOp .Mult) (Qzn X.K):=by
 intro pins s σ H x y v u Q I rx ry h
 obtain⟨l,k,xs,rfl,rfl,hH,h1,h2,hz,q⟩:=h
 cases rx
 obtain⟨t,rfl⟩:=ry
 obtain⟨z,its,n,r,hl,e⟩:=I.QnD hH
 have hlen:its.toArray.size*k.toNat<=sizeLine:=by rw[Zt,← hl];exact hz
 have hcap:¬its.toArray.size*k.toNat>(2^63-1) / 8:=by
  have:(sizeLine:Nat)<=(2^63-1) / 8:=by decide
  omega
 have hfit:¬(!Builtin.List.listFitsIndex k)=true:=by
  rw[fitsIndex_both h1 h2]
  exact Zaz
 have hlong:¬Builtin.List.listTooLong (its.toArray.size*k.toNat)=true:=by
  rw[Qs0 hlen]
  exact Zaz
 have hnew:List.foldl (λx1 x2=>x1++x2) #[] (List.replicate (if its.toArray.isEmpty=true then 0 else k.toNat) its.toArray)=(List.replicate k.toNat its).flatten.toArray:=by
  have f0:∀m:Nat,List.foldl (λx1 x2=>x1++x2) #[] (List.replicate m its.toArray)=(List.replicate m its).flatten.toArray:=λm=>by
   have:=foldl_rep its m []
   rw[ZaT]at this
   exact this
  rw[f0]
  cases its with
  | nil=>simp
  | cons a r'=>rw[if_neg (by simp)]
 open PyProof.Rows in
 refine wpAny_binaryOp_repeat_ref (T:= "list") (U:= "int") (by decide) ⟨_,e,rfl⟩ (λs'=>typeIs_int s' k t) noFill_list_mul F.fills_int_mul F.slot_int_rmul repeat_list F.slot_int_index.lookup
  (call_meets F.slot_int_rmul (typeIs_int s k t) F.entry_int_rmul (F.args_int_rmul_2 _ _) (int___rmul___int_list k t l its.toArray n)
   ⟨e,rfl,⟨_,e,rfl⟩,call_meets F.slot_list_mul ⟨_,e,rfl⟩ F.entry_list_mul (F.args_list_mul_2 _ _) (AutoListH.list___mul___list_int_3 l its.toArray n k t hfit hcap hlong) ⟨e,?_⟩⟩)
 rw[hnew]
 exact⟨.ref _,_,I.Qyn (t':=s.toks) (r.rep k.toNat) (by rw[len_rep,ZaQ];exact hz),rfl,q _ I.fresh⟩
theorem QlW{xs:List D}(h:QQ xs=true):∀n:Nat,QQ (List.replicate n xs).flatten=true
 | 0=>by simp[QQ]
 | n+1=>by rw[Zaf,Zal,Qdi,h,QlW h n];rfl
theorem Rps.rep{K:PySem.W.Frag}{H:Hp}{ds:List D}{vs:List V}(h:Rps K H ds vs []):∀n:Nat,Rps K H (List.replicate n ds).flatten (List.replicate n vs).flatten []
 | 0=>by simp[Rps]
 | n+1=>by rw[Zaf,Zal,Zaf,Zal];exact h.append (Rps.rep h n)
theorem Qyp(ha:SE X a fa)(hb:SE X b fb):SE X (.BinOp a .Mult b pos) (Qam fa fb):=λH0 A0=>
 (QqY (Qvp.or QvJ) (ha H0 A0) (hb H0 A0)).mono λσ H Q ⟨ρ,hs,F,r',rel,e,q⟩=>by
  obtain⟨ra,rb,ea,eb,ek⟩:=QqM e
  refine two rel ea eb λx y H1 H2 G1 G2 p1 p2=>?_
  have p1':=p1.rp.same p2.same
  have p2':=p2.rp
  revert ek
  revert p1' p2'
  cases ra.d<;>cases rb.d<;>intro p1' p2' ek<;>first | (cases ek;done) | skip
  ·dsimp only at ek
   split at ek
   ·rename_i hm
    cases ek
    rw[p1'.int_inv,p2'.int_inv]
    exact .inl ⟨_,_,rfl,rfl,hm,q _ H2 [] (.flat (p1.same.trans p2.same) .int_mk)⟩
   ·cases ek
  ·rename_i xs j
   dsimp only at ek
   split at ek
   ·rename_i hz
    cases ek
    obtain⟨hz1,hz2,hz3,hf⟩:=hz
    obtain⟨l,vs,L1,rfl,hl,rl,zl,el⟩:=p1'.lst_inv
    have n1:=rl.length
    have e0:=rl.Qbm hf
    subst e0
    rw[p2'.int_inv]
    refine .inr ⟨l,j,vs,rfl,rfl,hl,hz2,hz3,by rw[← n1];exact hz1,λp hp=>?_⟩
    have w:HS.QaO (List.replicate j.toNat xs).flatten []=⟨.lst (List.replicate j.toNat xs).flatten,true,[]⟩:=by
     unfold HS.QaO;rw[if_pos (QlW hf _)]
    rw[← w]at q
    exact q _ _ (p::[]) (Qaa.QaO (p1.same.trans p2.same) hp (rl.rep _) (by rw[len_rep,ZaQ];exact hz1) Src.nil Qbp.nil)
   ·cases ek
end
end HS
namespace HS
open PySem PySem.Spec L2
noncomputable def Qf:DA:=λ_=>some ⟨[],true,[]⟩
noncomputable def Qc(fa:DE)(fr:DA):DA:=λρ=>(fa ρ).bind λr=>(fr ρ).bind λrs=>some ⟨r.d::rs.ds,r.fr && rs.fr,r.M++rs.M⟩
noncomputable def Qbb(fa:DA):DE:=λρ=>(fa ρ).bind λr=>if r.ds.length<=64 then some ⟨.tup r.ds,r.fr,r.M⟩else none
noncomputable def Qae(fa:DA):DE:=λρ=>(fa ρ).bind λr=>if r.ds.length<=64 then some ⟨.lst r.ds,r.fr,r.M⟩else none
section
variable {X:Cx}{a b e:Expr}{es:List Expr}{fa fb:DE}{fs:DA}{pos:Pos}
theorem Qkq:SA X [] Qf:=λH0 A0=>QbZ.mono λσ H Q ⟨ρ,hs,F,r',rel,e,q⟩=>by
 cases e
 exact q [] H [] ⟨QP.refl _,by simp[Rps],Src.nil,λ_=>⟨Cnt.nil,rfl⟩,Qbp.nil⟩
theorem QgU(ha:SE X e fa)(hr:SA X es fs)(hs:starEach (e::es) X.env=(false,eval e X.env)::starEach es X.env):SA X (e::es) (Qc fa fs):=λH0 A0=>
 (Q9 (ha H0 A0) (hr H0 A0) hs).mono λσ H Q ⟨ρ,hs,F,r',rel,e,q⟩=>by
  obtain⟨r,e1,e⟩:=bind1 e
  obtain⟨rs,e2,e⟩:=bind1 e
  cases e
  refine⟨ρ,hs,F,r,rel,e1,λx H1 G1 p1=>⟨ρ,hs,F,rs,rel.ext p1.same,e2,λxs H2 G2 p2=>?_⟩⟩
  refine q _ H2 (G1++G2) ⟨p1.same.trans p2.same,?_,p1.src.append p2.src p1.same,λh=>?_,p1.own.append p2.own⟩
  ·simp only[Rps]
   exact⟨x,xs,G1,G2,rfl,rfl,p1.rp.same p2.same,p2.rp⟩
  ·simp only[Zh]at h
   exact⟨(p1.cnt h.1).1.append rel (p2.cnt h.2).1 p1.same p1.rp.mem,by simp only[nls,Zr,(p1.cnt h.1).2,(p2.cnt h.2).2]⟩
theorem Qfc{n:Nat}(h:n<=64):n<=sizeLine:=Zx h (by decide)
theorem Qw7{k:Nat}(ha:SA X es fs):SE X (.Tuple es k pos) (Qbb fs):=λH0 A0=>
 (Qsy (ha H0 A0)).mono λσ H Q ⟨ρ,hs,F,r',rel,e,q⟩=>by
  obtain⟨r,e1,e⟩:=bind1 e
  split at e
  ·rename_i hz
   cases e
   refine⟨ρ,hs,F,r,rel,e1,λxs H1 G p=>⟨by rw[← p.rp.length];exact Qfc hz,λc hc=>q _ _ G ⟨p.same.trans (Qa1 hc),Rp.Qfu Qaj (p.rp.same (Qa1 hc)),p.src,λh=>⟨(p.cnt h).1,by simp only[D.nl];exact(p.cnt h).2⟩,p.own⟩⟩⟩
  ·cases e
theorem Qxk(ha:SA X es fs):SE X (.List es pos) (Qae fs):=λH0 A0=>
 (QxX (ha H0 A0)).mono λσ H Q ⟨ρ,hs,F,r',rel,e,q⟩=>by
  obtain⟨r,e1,e⟩:=bind1 e
  split at e
  ·rename_i hz
   cases e
   refine⟨ρ,hs,F,r,rel,e1,λxs H1 G p=>⟨by rw[← p.rp.length];exact Qfc hz,λc hc=>?_⟩⟩
   have hH:H c=none:=p.same.free hc
   refine q _ _ (c::G) ⟨p.same.trans (Qa1 hc),Rp.Qea Qaj (p.rp.same (Qa1 hc)) (Qfc hz),λz hz'=>?_,λh=>⟨λz=>?_,by simp only[D.nl,ZE,(p.cnt h).2]⟩,p.own⟩
   ·rcases Zs.mp hz' with rfl | h
    ·exact .inl hH
    ·exact p.src z h
   ·rw[ZaO]
    have:=(p.cnt h).1 z
    split
    ·rename_i e'
     have e':c=z:=by simpa using e'
     subst e'
     have h0:G.count c=0:=ZO.mpr λhm=>by obtain⟨vs,w⟩:=p.rp.mem c hm;rw[hc]at w;cases w
     rw[Qbw hH];omega
    ·exact this
  ·cases e
noncomputable def D.items:D->Option (List D)
 | .lst xs=>some xs
 | .tup xs=>some xs
 | _=>none
noncomputable def Qq(fa fb:DE):DE:=λρ=>(fa ρ).bind λra=>(fb ρ).bind λrb=>match rb.d with
 | .int i=>(ra.d.items).bind λxs=>(atI xs i).map λd=>(R.norm ⟨d,ra.fr,ra.M⟩)
 | _=>none
theorem Qvt{α β:Type}{xs:List α}{i:Int}{d:α}(h:atI xs i=some d):∃j:Nat,xs[j]? =some d/\∀(ys:List β),ys.length=xs.length->∀y,ys[j]? =some y->atI ys i=some y:=by
 unfold atI at h
 cases e:ixN xs.length i with
 | none=>rw[e]at h;cases h
 | some j=>
  rw[e]at h
  refine⟨j,h,λys hl y hy=>?_⟩
  unfold atI
  rw[hl,e]
  exact hy
theorem Qyh(ha:SE X a fa)(hb:SE X b fb)(hs:Qiu b):SE X (.Subscript a b pos) (Qq fa fb):=λH0 A0=>
 (Qvf (QpW.or Qrm) (ha H0 A0) (hb H0 A0) hs).mono λσ H Q ⟨ρ,hs,F,r',rel,e,q⟩=>by
  obtain⟨ra,rb,ea,eb,ek⟩:=QqM e
  refine two rel ea eb λx y H1 H2 G1 G2 p1 p2=>?_
  have p1':=p1.rp.same p2.same
  have p2':=p2.rp
  have pp:Qaa X.K ρ F H H2 ra x G1:=⟨p1.same.trans p2.same,p1',p1.src,p1.cnt,p1.own⟩
  cases hb':rb.d with
  | int i=>
   rw[hb']at ek p2'
   rw[p2'.int_inv]
   obtain⟨xs,ex,ek⟩:=bind1 ek
   obtain⟨d,ed,ek⟩:=Zg.mp ek
   subst ek
   obtain⟨j,hj,hm⟩:=Qvt (β:=V) ed
   have fin:∀(L:List Addr) (vs:List V),Rps X.K H2 xs vs L->(∀z,L.count z<=G1.count z)->(G1.length=ra.d.nl->L.length=nls xs)->∃v,atI vs i=some v/\Q v H2:=λL vs rl hc hn=>by
    obtain⟨v,F1,G,F2,hv,eF,rv,hx⟩:=rl.get hj
    refine⟨v,hm vs rl.length.symm v hv,q v H2 G (Qaa.norm (Qaa.sub pp rv (λz=>Zx ?_ (hc z)) λz=>hx (hn z)))⟩
    rw[eF,Zam,Zam];omega
   cases hra:ra.d with
   | lst ys=>
    rw[hra]at ex p1'
    cases ex
    obtain⟨l,vs,L,rfl,hl,rl,zl,el⟩:=p1'.lst_inv
    have hn:G1.length=ra.d.nl->L.length=nls xs:=λhz=>by
     have:=rl.QaB
     simp only[hra,D.nl]at hz
     rcases el with rfl | rfl
     ·rw[ZE]at hz;omega
     ·omega
    have hc:∀z,L.count z<=G1.count z:=λz=>by
     rcases el with rfl | rfl
     ·rw[ZaO];omega
     ·exact Zi _
    obtain⟨v,h1,h2⟩:=fin L vs rl hc hn
    exact .inl ⟨l,vs,i,v,rfl,rfl,Q5 hl,h1,h2⟩
   | tup ys=>
    rw[hra]at ex p1'
    cases ex
    obtain⟨l,vs,rfl,hl,rl⟩:=p1'.QbD
    obtain⟨v,h1,h2⟩:=fin G1 vs rl (λz=>Zi _) λz=>(by simpa only[hra,D.nl]using z)
    exact .inr ⟨l,vs,i,v,rfl,rfl,hl,h1,h2⟩
   | _=>rw[hra]at ex;cases ex
  | _=>rw[hb']at ek;cases ek
noncomputable abbrev DO:=En->Option (Option Int)
noncomputable def Qas:DO:=λ_=>some none
noncomputable def QY(f:DE):DO:=λρ=>(f ρ).bind λr=>match r.d with
 | .int i=>some (some i)
 | _=>none
noncomputable def tVO(K:PySem.W.Frag)(H0:Hp)(A0:List Addr)(f:DO):TO:=λσ H Q=>∃ρ hs F o,Rel K H0 A0 hs ρ F σ H/\f ρ=some o/\∀H',QP H H'->Q o H'
def SO(X:Cx)(e:Option Expr)(f:DO):Prop:=∀H0 A0,PO X e (tVO X.K H0 A0 f)
theorem _root_.L2.PO.mono{X:Cx}{e:Option Expr}{t t':TO}(h:PO X e t)(m:∀σ H Q,t' σ H Q->t σ H Q):PO X e t':=by
 intro pins s σ H Q I q
 exact h pins s σ H Q I (m σ H Q q)
theorem Qwp:SO X none Qas:=λH0 A0=>Qvn.mono λσ H Q ⟨ρ,hs,F,o,rel,e,q⟩=>by
 cases e
 exact q H (QP.refl _)
theorem Qvy(h:SE X a fa):SO X (some a) (QY fa):=λH0 A0=>(Qv4 (h H0 A0)).mono λσ H Q ⟨ρ,hs,F,o,rel,e,q⟩=>by
 obtain⟨r,e1,e⟩:=bind1 e
 refine⟨ρ,hs,F,r,rel,e1,λv H1 G p=>?_⟩
 have rp:=p.rp
 cases hr:r.d with
 | int i=>
  rw[hr]at e rp
  cases e
  exact⟨i,rp.int_inv,q H1 p.same⟩
 | _=>rw[hr]at e;cases e
noncomputable def cutD(xs:List D)(lo hi:Option Int):List D:=(xs.drop (HT.sIx xs.length 0 lo)).take (HT.sIx xs.length xs.length hi-HT.sIx xs.length 0 lo)
noncomputable def Qax(fa:DE)(lo hi:DO):DE:=λρ=>(fa ρ).bind λra=>(lo ρ).bind λl=>(hi ρ).bind λh=>match ra.d with
 | .lst xs=>some (QaO (cutD xs l h) ra.M)
 | _=>none
theorem Rps.drop:∀{ds:List D}{vs:List V}{F:List Addr}{K:PySem.W.Frag}{H:Hp}(n:Nat),Rps K H ds vs F->∃G,Rps K H (ds.drop n) (vs.drop n) G/\∀a∈G,a∈F
 | [],vs,F,K,H,n,h=>by simp only[Rps]at h;rw[h.1,h.2];exact⟨[],by simp[Rps],λ_ h=>h⟩
 | d::ds,vs,F,K,H,0,h=>⟨F,by simpa using h,λ_ h=>h⟩
 | d::ds,vs,F,K,H,n+1,h=>by
  simp only[Rps]at h
  obtain⟨v,ws,F1,F2,e,eF,r,q⟩:=h
  subst e eF
  obtain⟨G,h1,h2⟩:=Rps.drop n q
  exact⟨G,by simpa using h1,λa ha=>Zc _ (h2 a ha)⟩
theorem Rps.take:∀{ds:List D}{vs:List V}{F:List Addr}{K:PySem.W.Frag}{H:Hp}(n:Nat),Rps K H ds vs F->∃G,Rps K H (ds.take n) (vs.take n) G/\∀a∈G,a∈F
 | [],vs,F,K,H,n,h=>by simp only[Rps]at h;rw[h.1,h.2];exact⟨[],by simp[Rps],λ_ h=>h⟩
 | d::ds,vs,F,K,H,0,h=>⟨[],by simp[Rps],λ_ h=>by simp at h⟩
 | d::ds,vs,F,K,H,n+1,h=>by
  simp only[Rps]at h
  obtain⟨v,ws,F1,F2,e,eF,r,q⟩:=h
  subst e eF
  obtain⟨G,h1,h2⟩:=Rps.take n q
  refine⟨F1++G,?_,λa ha=>?_⟩
  ·simp only[ZbG,Rps]
   exact⟨v,_,F1,G,rfl,rfl,r,h1⟩
  ·rcases ZC.mp ha with h | h
   ·exact Zj _ h
   ·exact Zc _ (h2 a h)
theorem QxC{lo hi:Option Expr}{fl fh:DO}{p2:Pos}(ha:SE X a fa)(hl:SO X lo fl)(hh:SO X hi fh):SE X (.Subscript a (.Slice lo hi none p2) pos) (Qax fa fl fh):=λH0 A0=>
 (Qun Qwg (ha H0 A0) (hl H0 A0) (hh H0 A0)).mono λσ H Q ⟨ρ,hs,F,r',rel,e,q⟩=>by
  obtain⟨ra,e1,e⟩:=bind1 e
  obtain⟨l,e2,e⟩:=bind1 e
  obtain⟨h,e3,e⟩:=bind1 e
  refine⟨ρ,hs,F,ra,rel,e1,λx H1 G1 p1=>⟨ρ,hs,F,l,rel.ext p1.same,e2,λH2 s2=>⟨ρ,hs,F,h,(rel.ext p1.same).ext s2,e3,λH3 s3=>?_⟩⟩⟩
  have rp:=p1.rp.same (s2.trans s3)
  cases hra:ra.d with
  | lst xs=>
   rw[hra]at e rp
   cases e
   obtain⟨c,vs,L,rfl,hc,rl,zl,el⟩:=rp.lst_inv
   refine⟨c,vs,rfl,Q5 hc,λp hp=>?_⟩
   obtain⟨G2,h2,m2⟩:=rl.drop (HT.sIx xs.length 0 l)
   obtain⟨G3,h3,m3⟩:=h2.take (HT.sIx xs.length xs.length h-HT.sIx xs.length 0 l)
   have n1:=rl.length
   rw[show Qlj vs l h=(vs.drop (HT.sIx xs.length 0 l)).take (HT.sIx xs.length xs.length h-HT.sIx xs.length 0 l) by unfold Qlj;rw[n1]]
   refine q _ _ (p::G3) (Qaa.QaO (p1.same.trans (s2.trans s3)) hp h3 ?_ (λz hz=>p1.src z ?_) p1.own)
   ·unfold cutD;rw[Zad,ZaH];omega
   ·have:=m2 z (m3 z hz)
    rcases el with rfl | rfl
    ·exact Ze _ this
    ·exact this
  | _=>rw[hra]at e;cases e
noncomputable def dBf(g:List D->Option D)(fs:DA):DE:=λρ=>(fs ρ).bind λr=>(g r.ds).map λd=>⟨d,true,[]⟩
def QgG(K:PySem.W.Frag)(g:List D->Option D)(r:List V->Hp->VK->Prop):Prop:=∀ds d,g ds=some d->d.flat=true/\∀H vs F (Q:VK),Rps K H ds vs F->(∀v,(∀H',Rp K H' d v [])->Q v H)->r vs H Q
theorem QjZ{x:Str}{id:String}{g:List D->Option D}{r:List V->Hp->VK->Prop}{p:Pos}(hc:QdJ X (.builtin id) r)(hk:QgG X.K g r)(hg:Gl X x)(hm:X.mg x=none)(hv:bootBuiltins x=some (.builtin id))(ha:SA X (e::es) fs)(hn:x≠ "__name__")(hdb:(x == ("__debug__" :Str))=false)
  (he:starEach (e::es) X.env=(false,eval e X.env)::starEach es X.env) (hpl:(backTo pos (starEach es X.env)).any (·.1)=false):SE X (.Call (.Name x p) (e::es) [] pos) (dBf g fs):=λH0 A0=>
 (QjL hc hg hm hv (ha H0 A0) hn hdb he hpl).mono λσ H Q ⟨ρ,hs,F,r',rel,e,q⟩=>by
  obtain⟨ra,e1,e⟩:=bind1 e
  obtain⟨d,ed,e⟩:=Zg.mp e
  subst e
  exact⟨ρ,hs,F,ra,rel,e1,λvs H1 G p1=>(hk _ _ ed).2 H1 vs G Q p1.rp λv hv=>q v H1 [] (.flat p1.same (hv _) (hk _ _ ed).1)⟩
theorem Rps.one{K:PySem.W.Frag}{H:Hp}{d:D}{vs:List V}{F:List Addr}(h:Rps K H [d] vs F):∃v,vs=[v]/\Rp K H d v F:=by
 simp only[Rps]at h
 obtain⟨v,ws,F1,F2,rfl,rfl,r,rfl,rfl⟩:=h
 exact⟨v,rfl,by simpa using r⟩
theorem Rps.two{K:PySem.W.Frag}{H:Hp}{d e:D}{vs:List V}{F:List Addr}(h:Rps K H [d,e] vs F):∃v w F1 F2,vs=[v,w]/\Rp K H d v F1/\Rp K H e w F2:=by
 simp only[Rps]at h
 obtain⟨v,ws,F1,F2,rfl,rfl,r,w,ws',F3,F4,rfl,rfl,r2,rfl,rfl⟩:=h
 exact⟨v,w,F1,F3,rfl,r,r2⟩
noncomputable def Qav:List D->Option D
 | [.lst xs]=>some (.int xs.length)
 | [.tup xs]=>some (.int xs.length)
 | _=>none
theorem Qxb{K:PySem.W.Frag}:QgG K Qav (λxs H Q=>∃p ys,xs=[.ref p]/\(SqL K H p ys∨SqT K H p ys)/\Q (.int ys.length) H):=λds d e=>by
 unfold Qav at e
 split at e
 ·cases e
  refine⟨rfl,λH vs F Q r q=>?_⟩
  obtain⟨v,rfl,rp⟩:=r.one
  obtain⟨l,ws,L,rfl,hl,rl,zl,el⟩:=rp.lst_inv
  exact⟨l,ws,rfl,.inl (Q5 hl),by rw[← rl.length];exact q _ λ_=> .int_mk⟩
 ·cases e
  refine⟨rfl,λH vs F Q r q=>?_⟩
  obtain⟨v,rfl,rp⟩:=r.one
  obtain⟨l,ws,rfl,hl,rl⟩:=rp.QbD
  exact⟨l,ws,rfl,.inr hl,by rw[← rl.length];exact q _ λ_=> .int_mk⟩
 ·cases e
noncomputable def Qkb:List D->Option D
 | [.int i,.int j]=>some (.int (if j<i then j else i))
 | _=>none
noncomputable def QkN:List D->Option D
 | [.int i,.int j]=>some (.int (if j>i then j else i))
 | _=>none
noncomputable def QnH:List D->Option D
 | [.int i]=>some (.int (if i<0 then-i else i))
 | _=>none
theorem QwG{K:PySem.W.Frag}:QgG K Qkb (λxs H Q=>∃i j,xs=[.int i,.int j]/\Q (.int (if j<i then j else i)) H):=λds d e=>by
 unfold Qkb at e
 split at e
 ·cases e
  refine⟨rfl,λH vs F Q r q=>?_⟩
  obtain⟨v,w,F1,F2,rfl,r1,r2⟩:=r.two
  exact⟨_,_,by rw[r1.int_inv,r2.int_inv],q _ λ_=> .int_mk⟩
 ·cases e
theorem QvX{K:PySem.W.Frag}:QgG K QkN (λxs H Q=>∃i j,xs=[.int i,.int j]/\Q (.int (if j>i then j else i)) H):=λds d e=>by
 unfold QkN at e
 split at e
 ·cases e
  refine⟨rfl,λH vs F Q r q=>?_⟩
  obtain⟨v,w,F1,F2,rfl,r1,r2⟩:=r.two
  exact⟨_,_,by rw[r1.int_inv,r2.int_inv],q _ λ_=> .int_mk⟩
 ·cases e
theorem Qx8{K:PySem.W.Frag}:QgG K QnH (λxs H Q=>∃i,xs=[.int i]/\Q (.int (if i<0 then-i else i)) H):=λds d e=>by
 unfold QnH at e
 split at e
 ·cases e
  refine⟨rfl,λH vs F Q r q=>?_⟩
  obtain⟨v,rfl,r1⟩:=r.one
  exact⟨_,by rw[r1.int_inv],q _ λ_=> .int_mk⟩
 ·cases e
noncomputable def dList(fs:DA):DE:=λρ=>(fs ρ).bind λr=>match r.ds with
 | [.lst xs]=>some (QaO xs r.M)
 | [.tup xs]=>if xs.length<=sizeLine then some (QaO xs r.M)else none
 | _=>none
theorem QwI{p:Pos}(hg:Gl X "list")(hm:X.mg "list" =none)(ha:SA X (e::es) fs)(he:starEach (e::es) X.env=(false,eval e X.env)::starEach es X.env)(hpl:(backTo pos (starEach es X.env)).any (·.1)=false):
  SE X (.Call (.Name "list" p) (e::es) [] pos) (dList fs):=λH0 A0=>
 (Qie QhV hg hm Zbo (ha H0 A0) (by decide) (by decide) he hpl).mono λσ H Q ⟨ρ,hs,F,r',rel,e,q⟩=>by
  obtain⟨ra,e1,e⟩:=bind1 e
  refine⟨ρ,hs,F,ra,rel,e1,λvs H1 G p1=>?_⟩
  have rp:=p1.rp
  have src:=p1.src
  split at e
  ·rename_i xs hds
   cases e
   rw[hds]at rp
   obtain⟨v,rfl,rq⟩:=rp.one
   obtain⟨l,ws,L,rfl,hl,rl,zl,el⟩:=rq.lst_inv
   refine⟨l,ws,rfl,.inl (Q5 hl),λc hc=>q _ _ (c::L) (Qaa.QaO p1.same hc rl zl (λz hz=>src z ?_) p1.own)⟩
   rcases el with rfl | rfl
   ·exact Ze _ hz
   ·exact hz
  ·rename_i xs hds
   split at e
   ·rename_i hz
    cases e
    rw[hds]at rp
    obtain⟨v,rfl,rq⟩:=rp.one
    obtain⟨l,ws,rfl,hl,rl⟩:=rq.QbD
    exact⟨l,ws,rfl,.inr hl,λc hc=>q _ _ (c::G) (Qaa.QaO p1.same hc rl hz src p1.own)⟩
   ·cases e
  ·cases e
end
end HS
namespace HS
open PySem PySem.Spec L2
mutual
noncomputable def D.py:D->PyData
 | .non=> .none
 | .bl b=> .bool b
 | .int i=> .int i
 | .str x=> .str x
 | .tup xs=> .tuple (pys xs)
 | .lst xs=> .list (pys xs)
 | .exc _=> .none
noncomputable def pys:List D->List PyData
 | []=>[]
 | d::ds=>d.py::pys ds
end
theorem QpN:∀ds:List D,pys ds=ds.map D.py
 | []=>rfl
 | d::ds=>by simp[pys,QpN ds]
noncomputable def D.sim:Nat->D->Bool
 | _,.non=>true
 | _,.bl _=>true
 | _,.int _=>true
 | _,.str x=>PyData.canLay0 (.str x)
 | 0,.tup xs=>xs.isEmpty
 | 0,.lst xs=>xs.isEmpty
 | n+1,.tup xs=>xs.all (D.sim n)
 | n+1,.lst xs=>xs.all (D.sim n)
 | _,.exc _=>false
theorem QfR:∀{ds:List D},(∀d∈ds,d.py.canLay0=true)->PyData.canLayAll0 (pys ds)=true
 | [],_=>rfl
 | d::ds,h=>by
  simp only[pys,PyData.canLayAll0,Zh]
  exact⟨h d Zo,QfR λe he=>h e (Ze _ he)⟩
theorem Qgo{n:Nat}:∀{ds:List D},(∀d∈ds,d.py.depth<=n)->PyData.depthAll (pys ds)<=n
 | [],_=>ZX _
 | d::ds,h=>by
  simp only[pys,PyData.depthAll]
  exact Nat.max_le.mpr ⟨h d Zo,Qgo λe he=>h e (Ze _ he)⟩
theorem Qcf:∀(n:Nat) (d:D),d.sim n=true->d.py.canLay0=true/\d.py.depth<=n+1
 | n,.exc _,h=>by cases n<;>cases h
 | n,.non,_=>by simp[D.py,PyData.canLay0,PyData.depth]
 | n,.bl _,_=>by simp[D.py,PyData.canLay0,PyData.depth]
 | n,.int _,_=>by simp[D.py,PyData.canLay0,PyData.depth]
 | n,.str x,h=>by
  simp only[D.py,PyData.depth]
  refine⟨?_,ZX _⟩
  cases n<;>exact h
 | 0,.tup xs,h=>by
  have:xs=[]:=by simpa[D.sim]using h
  subst this
  simp[D.py,pys,PyData.canLay0,PyData.canLayAll0,PyData.depth,PyData.depthAll]
 | 0,.lst xs,h=>by
  have:xs=[]:=by simpa[D.sim]using h
  subst this
  simp[D.py,pys,PyData.canLay0,PyData.canLayAll0,PyData.depth,PyData.depthAll]
 | n+1,.tup xs,h=>by
  simp only[D.sim,Zaq]at h
  simp only[D.py,PyData.canLay0,PyData.depth]
  exact⟨QfR λd hd=>(Qcf n d (h d hd)).1,ZbB (Qgo λd hd=>(Qcf n d (h d hd)).2) 1⟩
 | n+1,.lst xs,h=>by
  simp only[D.sim,Zaq]at h
  simp only[D.py,PyData.canLay0,PyData.depth]
  exact⟨QfR λd hd=>(Qcf n d (h d hd)).1,ZbB (Qgo λd hd=>(Qcf n d (h d hd)).2) 1⟩
noncomputable def deq(a b:D):Bool:=PyData.eqv a.py b.py
theorem Qug{n:Nat}{d:D}(h:d.sim n=true):deq d d=true:=SeqAt.eqv_refl _ (Qcf n d h).1
mutual
noncomputable def D.noX:D->Bool
 | .exc _=>false
 | .tup xs=>Qjf xs
 | .lst xs=>Qjf xs
 | .non=>true
 | .bl _=>true
 | .int _=>true
 | .str _=>true
noncomputable def Qjf:List D->Bool
 | []=>true
 | d::ds=>d.noX && Qjf ds
end
theorem Qlc:∀{ds:List D},(∀d∈ds,d.noX=true)->Qjf ds=true
 | [],_=>rfl
 | d::ds,h=>by
  simp only[Qjf,Zh]
  exact⟨h d Zo,Qlc λe he=>h e (Ze _ he)⟩
theorem QcS:∀(n:Nat) (d:D),d.sim n=true->d.noX=true
 | n,.exc _,h=>by cases n<;>cases h
 | n,.non,_=>rfl
 | n,.bl _,_=>rfl
 | n,.int _,_=>rfl
 | n,.str x,_=>rfl
 | 0,.tup xs,h=>by
  have:xs=[]:=by simpa[D.sim]using h
  subst this;rfl
 | 0,.lst xs,h=>by
  have:xs=[]:=by simpa[D.sim]using h
  subst this;rfl
 | n+1,.tup xs,h=>by
  simp only[D.sim,Zaq]at h
  simp only[D.noX]
  exact Qlc λd hd=>QcS n d (h d hd)
 | n+1,.lst xs,h=>by
  simp only[D.sim,Zaq]at h
  simp only[D.noX]
  exact Qlc λd hd=>QcS n d (h d hd)
section
variable {X:Cx}{pins:List (Addr×Obj)}{σ:L2.St}{H:Hp}{s:Shared}
mutual
theorem Rp.reads(I:Inv X pins σ H s):∀{d:D}{v:V}{F:List Addr}{u:Value},d.noX=true->Rp X.K H d v F->RelV v u->∃as,Reads s.heap u d.py as
 | .exc _,v,_,u,hx,h,r=>by cases hx
 | .non,v,_,u,hx,h,r=>by
  rw[h.Qla]at r
  cases(show u=Value.none from r)
  exact⟨_,.none⟩
 | .bl b,v,_,u,hx,h,r=>by
  rw[h.QfH]at r
  cases(show u=Value.bool b from r)
  exact⟨_,.bool b⟩
 | .int i,v,_,u,hx,h,r=>by
  rw[h.int_inv]at r
  obtain⟨t,rfl⟩:=(show ∃t,u=Value.int i t from r)
  exact⟨_,.int i t⟩
 | .str i,v,_,u,hx,h,r=>by
  rw[h.str_inv]at r
  obtain⟨t,rfl⟩:=(show ∃t,u=Value.str i t from r)
  exact⟨_,.str i t⟩
 | .tup ds,v,_,u,hx,h,r=>by
  obtain⟨a,vs,rfl,hq,rs⟩:=h.QbD
  cases(show u=Value.ref a from r)
  obtain⟨its,rv,⟨o,h1,h2,n,h3⟩,_⟩:=I.tuple hq
  obtain⟨as,ra⟩:=Rps.reads I (by simpa only[D.noX]using hx) rs rv
  exact⟨_,.tuple h1 h2 h3 (by simpa using ra)⟩
 | .lst ds,v,_,u,hx,h,r=>by
  simp only[Rp]at h
  obtain⟨hz,a,vs,rfl,h⟩:=h
  have key:∃G,(H a=some (.lst vs)∨Fix X.K H a vs)/\Rps X.K H ds vs G:=by
   rcases h with⟨G,_,q,rs⟩ | ⟨q,rs⟩
   ·exact⟨G,.inl q,rs⟩
   ·exact⟨_,.inr q,rs⟩
  obtain⟨G,hq,rs⟩:=key
  cases(show u=Value.ref a from r)
  obtain⟨_,its,n,rv,_,e⟩:=I.QnD hq
  obtain⟨as,ra⟩:=Rps.reads I (by simpa only[D.noX]using hx) rs rv
  exact⟨_,.list e rfl rfl (by simpa using ra)⟩
theorem Rps.reads(I:Inv X pins σ H s):∀{ds:List D}{vs:List V}{F:List Addr}{us:List Value},Qjf ds=true->Rps X.K H ds vs F->QC vs us->∃as,ReadsAll s.heap us (pys ds) as
 | [],vs,_,us,_,h,r=>by
  simp only[Rps]at h
  rw[h.1]at r
  cases r
  exact⟨_,.nil⟩
 | d::ds,vs,_,us,hx,h,r=>by
  simp only[Qjf,Zh]at hx
  simp only[Rps]at h
  obtain⟨v,ws,F1,F2,rfl,rfl,h1,h2⟩:=h
  cases r with
  | cons r rr=>
   obtain⟨as,ra⟩:=Rp.reads I hx.1 h1 r
   obtain⟨bs,rb⟩:=Rps.reads I hx.2 h2 rr
   exact⟨_,.cons ra rb⟩
end
end
noncomputable def gEq(a b:D):Option D:=if a.sim 8 && b.sim 8 then some (.bl (deq a b))else none
noncomputable def gNe(a b:D):Option D:=if a.sim 8 && b.sim 8 then some (.bl (!deq a b))else none
noncomputable def gIn(neg:Bool)(a b:D):Option D:=match b with
 | .lst xs=>if a.sim 8 && b.sim 8 then some (.bl (if neg then !(xs.any λy=>deq y a)else xs.any λy=>deq y a))else none
 | .tup xs=>if a.sim 8 && b.sim 8 then some (.bl (if neg then !(xs.any λy=>deq y a)else xs.any λy=>deq y a))else none
 | _=>none
noncomputable def Qyk(K:PySem.W.Frag):R2:=λx y H Q=>∃a b F G,Rp K H a x F/\Rp K H b y G/\a.sim 8=true/\b.sim 8=true/\Q (.bl (deq a b)) H
noncomputable def QxM(K:PySem.W.Frag):R2:=λx y H Q=>∃a b F G,Rp K H a x F/\Rp K H b y G/\a.sim 8=true/\b.sim 8=true/\Q (.bl (!deq a b)) H
section
variable {X:Cx}
theorem QyB(hu:X.A.units+64<cLine):OpR X (compareOp .Eq) (Qyk X.K):=by
 intro pins s σ H x y v u Q I rx ry h
 obtain⟨a,b,F,G,ha,hb,sa,sb,q⟩:=h
 obtain⟨as,ra⟩:=Rp.reads I (QcS 8 _ sa) ha rx
 obtain⟨bs,rb⟩:=Rp.reads I (QcS 8 _ sb) hb ry
 have h1:=Qcf 8 a sa
 have h2:=Qcf 8 b sb
 exact SeqAt.compareEq_reads ra rb h1.1 h2.1 (by have:=Nat.min_le_left a.py.depth b.py.depth;omega) ⟨.bl _,H,I,rfl,q⟩
theorem QxS(hu:X.A.units+64<cLine):OpR X (compareOp .NotEq) (QxM X.K):=by
 intro pins s σ H x y v u Q I rx ry h
 obtain⟨a,b,F,G,ha,hb,sa,sb,q⟩:=h
 obtain⟨as,ra⟩:=Rp.reads I (QcS 8 _ sa) ha rx
 obtain⟨bs,rb⟩:=Rp.reads I (QcS 8 _ sb) hb ry
 have h1:=Qcf 8 a sa
 have h2:=Qcf 8 b sb
 exact SeqAt.compareNe_reads ra rb h1.1 h2.1 (by have:=Nat.min_le_left a.py.depth b.py.depth;omega) ⟨.bl _,H,I,rfl,q⟩
theorem Qzv{K:PySem.W.Frag}:Qcm K gEq (Qyk K):=λa b d e=>by
 unfold gEq at e
 split at e
 ·rename_i h
  simp only[Zh]at h
  cases e
  exact⟨rfl,λH x y F G Q ha hb q=>⟨a,b,F,G,ha,hb,h.1,h.2,q _ λ_=> .Qei⟩⟩
 ·cases e
theorem Qzy{K:PySem.W.Frag}:Qcm K gNe (QxM K):=λa b d e=>by
 unfold gNe at e
 split at e
 ·rename_i h
  simp only[Zh]at h
  cases e
  exact⟨rfl,λH x y F G Q ha hb q=>⟨a,b,F,G,ha,hb,h.1,h.2,q _ λ_=> .Qei⟩⟩
 ·cases e
noncomputable def Qtb(K:PySem.W.Frag)(neg:Bool):R2:=λx y H Q=>∃a b F G xs,Rp K H a x F/\Rp K H b y G/\a.sim 8=true/\b.sim 8=true/\(b= .lst xs∨b= .tup xs)/\Q (.bl (if neg then !(xs.any λy=>deq y a)else xs.any λy=>deq y a)) H
theorem QsM(xs:List D)(a:D):((pys xs).any λy=>PyData.eqv y a.py)=xs.any λy=>deq y a:=by
 rw[QpN,List.any_map];rfl
theorem Qys(hu:X.A.units+64<cLine):OpR X (compareOp .In) (Qtb X.K false):=by
 intro pins s σ H x y v u Q I rx ry h
 obtain⟨a,b,F,G,xs,ha,hb,sa,sb,hk,q⟩:=h
 obtain⟨as,ra⟩:=Rp.reads I (QcS 8 _ sa) ha rx
 obtain⟨bs,rb⟩:=Rp.reads I (QcS 8 _ sb) hb ry
 have h1:=Qcf 8 a sa
 have h2:=Qcf 8 b sb
 have q':Q (.bl ((pys xs).any λy=>PyData.eqv y a.py)) H:=by rw[QsM];exact q
 rcases hk with rfl | rfl
 ·exact SeqAt.in_list_reads rb ra h2.1 h1.1 (by have:=Zbz (PyData.depthAll (pys xs)) a.py.depth;omega) ⟨.bl _,H,I,rfl,q'⟩
 ·exact SeqAt.in_tuple_reads rb ra h2.1 h1.1 (by have:=Zbz (PyData.depthAll (pys xs)) a.py.depth;omega) ⟨.bl _,H,I,rfl,q'⟩
theorem Qr3(hu:X.A.units+64<cLine):OpR X (compareOp .NotIn) (Qtb X.K true):=by
 intro pins s σ H x y v u Q I rx ry h
 obtain⟨a,b,F,G,xs,ha,hb,sa,sb,hk,q⟩:=h
 obtain⟨as,ra⟩:=Rp.reads I (QcS 8 _ sa) ha rx
 obtain⟨bs,rb⟩:=Rp.reads I (QcS 8 _ sb) hb ry
 have h1:=Qcf 8 a sa
 have h2:=Qcf 8 b sb
 have q':Q (.bl (!(pys xs).any λy=>PyData.eqv y a.py)) H:=by rw[QsM];exact q
 rcases hk with rfl | rfl
 ·exact SeqAt.notIn_list_reads rb ra h2.1 h1.1 (by have:=Zbz (PyData.depthAll (pys xs)) a.py.depth;omega) ⟨.bl _,H,I,rfl,q'⟩
 ·exact SeqAt.notIn_tuple_reads rb ra h2.1 h1.1 (by have:=Zbz (PyData.depthAll (pys xs)) a.py.depth;omega) ⟨.bl _,H,I,rfl,q'⟩
theorem Qu7{K:PySem.W.Frag}{neg:Bool}:Qcm K (gIn neg) (Qtb K neg):=λa b d e=>by
 unfold gIn at e
 split at e
 ·split at e
  ·rename_i h
   simp only[Zh]at h
   cases e
   exact⟨rfl,λH x y F G Q ha hb q=>⟨a,_,F,G,_,ha,hb,h.1,h.2,.inl rfl,q _ λ_=> .Qei⟩⟩
  ·cases e
 ·split at e
  ·rename_i h
   simp only[Zh]at h
   cases e
   exact⟨rfl,λH x y F G Q ha hb q=>⟨a,_,F,G,_,ha,hb,h.1,h.2,.inr rfl,q _ λ_=> .Qei⟩⟩
  ·cases e
 ·cases e
noncomputable def D.tyN:D->String
 | .non=> "NoneType" | .bl _=> "bool" | .int _=> "int" | .str _=> "str" | .tup _=> "tuple" | .lst _=> "list" | .exc _=> "?"
noncomputable def D.isE:D->Bool
 | .exc _=>true
 | _=>false
noncomputable def D.isa(T:String)(d:D):Option Bool:=if(T == "int" || T == "bool" || T == "list" || T == "tuple" || T == "str") && !d.isE then some (d.tyN == T || (d.tyN == "bool" && T == "int"))else none
theorem QxO{pins:List (Addr×Obj)}{σ:L2.St}{H:Hp}{s:Shared}{A:Around}{E Q:Value->Shared->Prop}{d:D}{v:V}{F:List Addr}{u:Value}{T:String}{b:Bool}(I:Inv X pins σ H s)(rp:Rp X.K H d v F)(rx:RelV v u)(e:d.isa T=some b)(h:∀tk,Q (.bool b) {s with toks:=tk}):
  wpAny (model X.prog X.w) A (call (.builtin "isinstance") [u,.type T]) Q E s:=by
 have kit:PySem.W.kitOne X.K (.type d.tyN) (.type T)=some b:=by
  unfold D.isa at e
  split at e
  ·rename_i hT
   cases e
   simp only[Zh,Zck,beq_iff_eq]at hT
   obtain⟨hT,hE⟩:=hT
   rcases hT with(((rfl | rfl) | rfl) | rfl) | rfl<;>cases d<;>first | rfl | (cases hE)
  ·cases e
 cases d with
 | exc x=>unfold D.isa at e;split at e;(rename_i hT;exfalso;simp only[Zh]at hT;exact nomatch hT.2);cases e
 | non=>rw[rp.Qla]at rx;cases(show u=Value.none from rx);exact ZaU PySem.W.kitx_none I.kIn True.intro kit (λz=>nomatch z) h
 | bl y=>rw[rp.QfH]at rx;cases(show u=Value.bool y from rx);exact ZaU PySem.W.kitx_bool I.kIn True.intro kit (λz=>nomatch z) h
 | int i=>rw[rp.int_inv]at rx;obtain⟨t,q⟩:=(show ∃t,u=Value.int i t from rx);cases q;exact ZaU PySem.W.kitx_int I.kIn True.intro kit (λz=>nomatch z) h
 | str y=>rw[rp.str_inv]at rx;obtain⟨t,q⟩:=(show ∃t,u=Value.str y t from rx);cases q;exact ZaU PySem.W.kitx_str I.kIn True.intro kit (λz=>nomatch z) h
 | tup ds=>
  obtain⟨a,vs,rfl,hq,_⟩:=rp.QbD
  cases(show u=Value.ref a from rx)
  obtain⟨its,rv,⟨o,h1,h2,n,h3⟩,_⟩:=I.tuple hq
  exact ZaU PySem.W.kitx_tuple I.kIn ⟨o,h1,h2⟩ kit (λz=>nomatch z) h
 | lst ds=>
  obtain⟨a,vs,G,rfl,hq,_⟩:=rp.lst_inv
  cases(show u=Value.ref a from rx)
  obtain⟨_,its,n,rv,_,e1⟩:=I.QnD hq
  exact ZaU PySem.W.kitx_list I.kIn ⟨_,e1,rfl⟩ kit (λz=>nomatch z) h
noncomputable def QAs(K:PySem.W.Frag):List V->Hp->VK->Prop:=λxs H Q=>∃x T d F b,xs=[x,.ty T]/\Rp K H d x F/\d.isa T=some b/\Q (.bl b) H
theorem QtO:QdJ X (.builtin "isinstance") (QAs X.K):=by
 intro pins s σ H xs us Q I r h
 obtain⟨x,T,d,F,b,rfl,rp,e,q⟩:=h
 obtain⟨u,w,rfl,ru,rw'⟩:=vals2 r
 cases(show w=Value.type T from rw')
 exact QxO I rp ru e λtk=>⟨.bl b,H,I.tok _,rfl,q⟩
noncomputable def Qjb(T:String)(fa:DE):DE:=λρ=>(fa ρ).bind λr=>(r.d.isa T).map λb=>⟨.bl b,true,[]⟩
theorem QxD{a:Expr}{fa:DE}{T:String}{x:Str}{p p2 pos:Pos}(hg:Gl X "isinstance")(hm:X.mg "isinstance" =none)(ha:SE X a fa)(hT:PE X (.Name x p2) (tC (.ty T)))
  (he:starEach [a,.Name x p2] X.env=(false,eval a X.env)::starEach [.Name x p2] X.env):SE X (.Call (.Name "isinstance" p) [a,.Name x p2] [] pos) (Qjb T fa):=λH0 A0=>
 (QjL QtO hg hm PyProof.Rows.boot_isinstance (Q9 (ha H0 A0) (Q9 hT QbZ) he) (by decide) (by decide) he (by rfl)).mono λσ H Q ⟨ρ,hs,F,r',rel,e,q⟩=>by
  obtain⟨r,e1,e⟩:=bind1 e
  obtain⟨b,eb,e⟩:=Zg.mp e
  subst e
  exact⟨ρ,hs,F,r,rel,e1,λv H1 G p=>⟨v,T,r.d,G,b,rfl,p.rp,eb,q _ H1 [] (.flat p.same .Qei)⟩⟩
noncomputable def D.tru:D->Option Bool
 | .non=>some false
 | .bl b=>some b
 | .int i=>some (i != 0)
 | .lst xs=>some (!xs.isEmpty)
 | .tup xs=>some (!xs.isEmpty)
 | .str _=>none
 | .exc _=>none
theorem QmT{K:PySem.W.Frag}{H:Hp}{d:D}{v:V}{F:List Addr}{b:Bool}(h:Rp K H d v F)(e:d.tru=some b):QuJ K v H b:=by
 have emp:∀{ds:List D}{vs:List V}{G:List Addr},Rps K H ds vs G->(!ds.isEmpty)= !vs.isEmpty:=λ{ds vs G} r=>by
  have:=r.length
  cases ds<;>cases vs<;>simp_all
 cases d with
 | non=>rw[h.Qla];cases e;exact rfl
 | bl c=>rw[h.QfH];cases e;exact rfl
 | int i=>rw[h.int_inv];cases e;exact rfl
 | str i=>cases e
 | exc i=>cases e
 | tup ds=>cases e;obtain⟨a,vs,rfl,hq,r⟩:=h.QbD;exact .inr (.inl ⟨vs,hq,emp r⟩)
 | lst ds=>cases e;obtain⟨a,vs,G,rfl,hq,r,_⟩:=h.lst_inv;exact .inl ⟨vs,Q5 hq,emp r⟩
noncomputable def QN(fa:DE):DT:=λρ=>(fa ρ).bind λr=>r.d.tru
noncomputable def Qhh(f g:DT):DT:=λρ=>(f ρ).bind λb=>if b=true then g ρ else some false
noncomputable def bOr(f g:DT):DT:=λρ=>(f ρ).bind λb=>if b=true then some true else g ρ
noncomputable def Qcy(f:DT):DT:=λρ=>(f ρ).bind λb=>some (!b)
def SW(X:Cx)(e:Expr)(f:DT):Prop:=∀H0 A0,PW X e (tVT X.K H0 A0 f)
theorem _root_.L2.PW.mono{X:Cx}{e:Expr}{t t':TT}(h:PW X e t)(m:∀σ H Q,t' σ H Q->t σ H Q):PW X e t':=λwh pins s σ H Q I q=>h wh pins s σ H Q I (m σ H Q q)
variable {a b e:Expr}{fa fb:DE}{ga gb gc:DT}{pos:Pos}{rest:List Expr}
theorem Qxj(ha:SE X a fa)(he:∀whole,isTrue a X.env whole=(do let v ← whole;standAt a.pos;holding [v] (truthy v))):ST X a (QN fa):=λH0 A0=>
 (Qux (ha H0 A0) he).mono λσ H Q ⟨ρ,hs,F,b,rel,e,q⟩=>by
  obtain⟨r,e1,e⟩:=bind1 e
  exact⟨ρ,hs,F,r,rel,e1,λv H1 G p=>⟨b,QmT p.rp e,q H1 p.same⟩⟩
theorem QxT{op:CmpOp}{g:D->D->Option D}{r:R2}(ho:OpR X (compareOp op) r)(hg:Qcm X.K g r)(hbl:∀a b d,g a b=some d->∃k,d= .bl k)(ha:SE X a fa)(hb:SE X b fb)(hm:behindInMarks op b=false):ST X (.Compare a [op] [b] pos) (QN (dOp g fa fb)):=λH0 A0=>
 (QwH ho (ha H0 A0) (hb H0 A0) hm).mono λσ H Q ⟨ρ,hs,F,k,rel,e,q⟩=>by
  obtain⟨r',e0,e⟩:=bind1 e
  obtain⟨ra,rb,d,ea,eb,eg,rfl⟩:=Qlz e0
  obtain⟨k',rfl⟩:=hbl _ _ _ eg
  cases e
  refine two rel ea eb λx y H1 H2 G1 G2 p1 p2=>(hg _ _ _ eg).2 H2 x y G1 G2 _ (p1.rp.same p2.same) p2.rp λv hv=>?_
  exact⟨_,(hv H2).QfH,q H2 (p1.same.trans p2.same)⟩
theorem Qyt(ha:ST X a ga):ST X (.UnaryOp .Not a pos) (Qcy ga):=λH0 A0=>
 (Qxt (ha H0 A0)).mono λσ H Q ⟨ρ,hs,F,b,rel,e,q⟩=>by
  obtain⟨c,e1,e⟩:=bind1 e
  cases e
  exact⟨ρ,hs,F,c,rel,e1,λH1 s1=>q H1 s1⟩
theorem QwM(ha:ST X a ga):SW X (.BoolOp .And [a] pos) ga:=λH0 A0=>QwP (ha H0 A0)
theorem Qyd(ha:ST X a ga):SW X (.BoolOp .Or [a] pos) ga:=λH0 A0=>Qyz (ha H0 A0)
theorem Qx1(ha:ST X a ga)(hb:SW X (.BoolOp .And (b::rest) pos) gb):SW X (.BoolOp .And (a::b::rest) pos) (Qhh ga gb):=λH0 A0=>
 (QxI (ha H0 A0) (hb H0 A0)).mono λσ H Q ⟨ρ,hs,F,c,rel,e,q⟩=>by
  obtain⟨d,e1,e⟩:=bind1 e
  refine⟨ρ,hs,F,d,rel,e1,λH1 s1=>?_⟩
  cases d with
  | true=>exact⟨ρ,hs,F,c,rel.ext s1,e,λH2 s2=>q H2 (s1.trans s2)⟩
  | false=>cases e;exact q H1 s1
theorem QzD(ha:ST X a ga)(hb:SW X (.BoolOp .Or (b::rest) pos) gb):SW X (.BoolOp .Or (a::b::rest) pos) (bOr ga gb):=λH0 A0=>
 (Qzp (ha H0 A0) (hb H0 A0)).mono λσ H Q ⟨ρ,hs,F,c,rel,e,q⟩=>by
  obtain⟨d,e1,e⟩:=bind1 e
  refine⟨ρ,hs,F,d,rel,e1,λH1 s1=>?_⟩
  cases d with
  | true=>cases e;exact q H1 s1
  | false=>exact⟨ρ,hs,F,c,rel.ext s1,e,λH2 s2=>q H2 (s1.trans s2)⟩
theorem SW.st(h:SW X e ga):ST X e ga:=λH0 A0=>(h H0 A0).pt
noncomputable def QhM(fa fb:DE):DE:=λρ=>(fa ρ).bind λra=>(ra.d.tru).bind λb=>if b=true then fb ρ else some ra
noncomputable def dOr(fa fb:DE):DE:=λρ=>(fa ρ).bind λra=>(ra.d.tru).bind λb=>if b=true then some ra else fb ρ
noncomputable def Qui(fa:DE):DE:=λρ=>(fa ρ).bind λra=>(ra.d.tru).bind λb=>some ⟨.bl (!b),true,[]⟩
noncomputable def dIf(g:DT)(fa fb:DE):DE:=λρ=>(g ρ).bind λb=>if b=true then fa ρ else fb ρ
theorem QsI{op}(h:SE X a fa):SE X (.BoolOp op [a] pos) fa:=λH0 A0=>QwZ (h H0 A0)
theorem Qaa.ext{K:PySem.W.Frag}{ρ:En}{F:Nat->List Addr}{H H1 H2:Hp}{r:R}{v:V}{G:List Addr}(s:QP H H1)(p:Qaa K ρ F H1 H2 r v G){H0:Hp}{A0:List Addr}{hs:List (V×D×List Addr)}{σ:L2.St}(rel:Rel K H0 A0 hs ρ F σ H):Qaa K ρ F H H2 r v G where
 same:=s.trans p.same
 rp:=p.rp
 src:=λa ha=>(p.src a ha).elim (λz=> .inl (s.free z)) .inr
 cnt:=λh=>⟨λa=>Zx ((p.cnt h).1 a) (ZbB (by
  cases q:H1 a with
  | none=>rw[Qbw q,Qbw (s.free q)];exact Zi _
  | some o=>rw[Qdw q];exact ZX _) _),(p.cnt h).2⟩
 own:=p.own
theorem QyI(ha:SE X a fa)(hb:SE X (.BoolOp .And (b::rest) pos) fb):SE X (.BoolOp .And (a::b::rest) pos) (QhM fa fb):=λH0 A0=>by
 intro pins s σ H Q I ⟨ρ,hs,F,r,rel,e,q⟩
 obtain⟨ra,e1,e⟩:=bind1 e
 obtain⟨c,e2,e⟩:=bind1 e
 refine PyProof.Rows.BoolOp_and (thn (ha H0 A0 pins s σ H _ I ⟨ρ,hs,F,ra,rel,e1,λv H' G p=>(⟨G,p⟩:∃G,Qaa X.K ρ F H H' ra v G)⟩) λv s1 ⟨x,H1,I1,r1,G,p⟩=>?_)
 refine thn (Qj2 pins s1 σ H1 x v (λk H2=>k=c/\H2=H1) I1 r1 ⟨c,QmT p.rp e2,rfl,rfl⟩) λk s2 ⟨H2,I2,e3,e4⟩=>?_
 subst e3 e4
 cases k with
 | true=>exact hb H0 A0 pins s2 σ _ Q I2 ⟨ρ,hs,F,r,rel.ext p.same,e,λw H3 G3 p3=>q w H3 G3 (p3.ext p.same rel)⟩
 | false=>cases e;exact⟨x,_,I2,r1,q x _ G p⟩
theorem Qzd(ha:SE X a fa)(hb:SE X (.BoolOp .Or (b::rest) pos) fb):SE X (.BoolOp .Or (a::b::rest) pos) (dOr fa fb):=λH0 A0=>by
 intro pins s σ H Q I ⟨ρ,hs,F,r,rel,e,q⟩
 obtain⟨ra,e1,e⟩:=bind1 e
 obtain⟨c,e2,e⟩:=bind1 e
 refine PyProof.Rows.BoolOp_or (thn (ha H0 A0 pins s σ H _ I ⟨ρ,hs,F,ra,rel,e1,λv H' G p=>(⟨G,p⟩:∃G,Qaa X.K ρ F H H' ra v G)⟩) λv s1 ⟨x,H1,I1,r1,G,p⟩=>?_)
 refine thn (Qj2 pins s1 σ H1 x v (λk H2=>k=c/\H2=H1) I1 r1 ⟨c,QmT p.rp e2,rfl,rfl⟩) λk s2 ⟨H2,I2,e3,e4⟩=>?_
 subst e3 e4
 cases k with
 | false=>exact hb H0 A0 pins s2 σ _ Q I2 ⟨ρ,hs,F,r,rel.ext p.same,e,λw H3 G3 p3=>q w H3 G3 (p3.ext p.same rel)⟩
 | true=>cases e;exact⟨x,_,I2,r1,q x _ G p⟩
theorem Qyc(ha:SE X a fa):SE X (.UnaryOp .Not a pos) (Qui fa):=λH0 A0=>by
 intro pins s σ H Q I ⟨ρ,hs,F,r,rel,e,q⟩
 obtain⟨ra,e1,e⟩:=bind1 e
 obtain⟨c,e2,e⟩:=bind1 e
 cases e
 refine PyProof.Rows.UnaryOp_ (thn (ha H0 A0 pins s σ H _ I ⟨ρ,hs,F,ra,rel,e1,λv H' G p=>(⟨G,p⟩:∃G,Qaa X.K ρ F H H' ra v G)⟩) λv s1 ⟨x,H1,I1,r1,G,p⟩=>?_)
 refine PyProof.Rows.not_of (thn (Qj2 pins s1 σ H1 x v (λk H2=>k=c/\H2=H1) I1 r1 ⟨c,QmT p.rp e2,rfl,rfl⟩) λk s2 ⟨H2,I2,e3,e4⟩=>?_)
 subst e3 e4
 exact⟨.bl (!k),_,I2,rfl,q _ _ [] (.flat p.same .Qei)⟩
theorem Qy5{c:Expr}(hc:ST X c gc)(ha:SE X a fa)(hb:SE X b fb):SE X (.IfExp c a b pos) (dIf gc fa fb):=λH0 A0=>
 (Qs9 (hc H0 A0) (ha H0 A0) (hb H0 A0)).mono λσ H Q ⟨ρ,hs,F,r,rel,e,q⟩=>by
  obtain⟨c,e1,e⟩:=bind1 e
  refine⟨ρ,hs,F,c,rel,e1,λH1 s1=>?_⟩
  cases c with
  | true=>exact⟨ρ,hs,F,r,rel.ext s1,e,λv H2 G p=>q v H2 G (p.ext s1 rel)⟩
  | false=>exact⟨ρ,hs,F,r,rel.ext s1,e,λv H2 G p=>q v H2 G (p.ext s1 rel)⟩
noncomputable def Qq2(fa:DE):DE:=λρ=>(fa ρ).bind λra=>match ra.d with
 | .int i=>some ⟨.int (-i),true,[]⟩
 | _=>none
theorem QxE(ha:SE X a fa):SE X (.UnaryOp .USub a pos) (Qq2 fa):=λH0 A0=>
 (Qzm QyM (ha H0 A0)).mono λσ H Q ⟨ρ,hs,F,r,rel,e,q⟩=>by
  obtain⟨ra,e1,e⟩:=bind1 e
  refine⟨ρ,hs,F,ra,rel,e1,λv H1 G p=>?_⟩
  have rp:=p.rp
  cases hr:ra.d with
  | int i=>
   rw[hr]at e rp
   cases e
   exact⟨i,rp.int_inv,q _ H1 [] (.flat p.same .int_mk)⟩
  | _=>rw[hr]at e;cases e
end
end HS
namespace HS
open PySem PySem.Spec L2
section
variable {K:PySem.W.Frag}{H0 H H':Hp}{A0:List Addr}{hs:List (V×D×List Addr)}{ρ ρ':En}{F:Nat->List Addr}{σ:L2.St}
def Qdj(ρ ρ':En):Prop:=ρ'.length=ρ.length/\∀(i:Nat) d b,ρ'[i]? =some (some (d,b))->∃b',ρ[i]? =some (some (d,b'))/\(b=true->b'=true)
theorem Qdj.refl:Qdj ρ ρ:=⟨rfl,λi d b h=>⟨b,h,id⟩⟩
theorem Qdj.trans{ρ'':En}(a:Qdj ρ ρ')(b:Qdj ρ' ρ''):Qdj ρ ρ'':=⟨b.1.trans a.1,λi d c h=>by
 obtain⟨c',h1,h2⟩:=b.2 i d c h
 obtain⟨c'',h3,h4⟩:=a.2 i d c' h1
 exact⟨c'',h3,λz=>h4 (h2 z)⟩⟩
theorem Rel.weak(r:Rel K H0 A0 hs ρ F σ H)(w:Qdj ρ ρ'):Rel K H0 A0 hs ρ' F σ H where
 len:=w.1.trans r.len
 val:=λi d b e=>let ⟨b',h,_⟩:=w.2 i d b e;r.val i d b' h
 own:=λi d e=>by
  obtain⟨b',h,hb⟩:=w.2 i d true e
  have:b'=true:=hb rfl
  subst this
  obtain⟨h1,h2,h3,h4,h5⟩:=r.own i d h
  exact⟨h1,h2,h3,λj d' b' hj e'=>let ⟨b'',h',_⟩:=w.2 j d' b' e';h4 j d' b'' hj h',h5⟩
 src:=λi d b e=>let ⟨b',h,_⟩:=w.2 i d b e;r.src i d b' h
 held:=r.held
 same:=r.same
noncomputable def kill:List Nat->En->En
 | [],ρ=>ρ
 | i::M,ρ=>kill M (ρ.set i none)
noncomputable def QaT:List Nat->En->En
 | [],ρ=>ρ
 | i::M,ρ=>QaT M (match ρ[i]? with
  | some (some (d,_))=>ρ.set i (some (d,false))
  | _=>ρ)
theorem Qd3(i:Nat):Qdj ρ (ρ.set i none):=⟨by simp,λj d b h=>by
 by_cases hj:i=j
 ·subst hj
  by_cases hl:i<ρ.length
  ·rw[Zn hl]at h;cases h
  ·rw[Zm (by simp;omega)]at h;cases h
 ·rw[Zd hj]at h
  exact⟨b,h,id⟩⟩
theorem Qdh:∀(M:List Nat) (ρ:En),Qdj ρ (kill M ρ)
 | [],ρ=> .refl
 | i::M,ρ=>(Qd3 i).trans (Qdh M _)
theorem Qij:∀(M:List Nat) (ρ:En) (i:Nat) (d:D) (b:Bool),i∈M->(kill M ρ)[i]? =some (some (d,b))->False
 | [],ρ,i,d,b,h,_=>by simp at h
 | j::M,ρ,i,d,b,h,e=>by
  rcases Zs.mp h with rfl | h
  ·obtain⟨b',e',_⟩:=(Qdh M (ρ.set i none)).2 i d b e
   by_cases hl:i<ρ.length
   ·rw[Zn hl]at e';cases e'
   ·rw[Zm (by simp;omega)]at e';cases e'
  ·exact Qij M _ i d b h e
theorem QuR(i:Nat):Qdj ρ (match ρ[i]? with
  | some (some (d,_))=>ρ.set i (some (d,false))
  | _=>ρ):=by
 split
 ·rename_i d b e
  refine⟨by simp,λj d' b' h=>?_⟩
  by_cases hj:i=j
  ·subst hj
   have hl:i<ρ.length:=(Zf.mp e).1
   rw[Zn hl]at h
   cases h
   exact⟨b,e,λz=>by cases z⟩
  ·rw[Zd hj]at h
   exact⟨b',h,id⟩
 ·exact .refl
theorem Qa3:∀(M:List Nat) (ρ:En),Qdj ρ (QaT M ρ)
 | [],ρ=> .refl
 | i::M,ρ=>(QuR i).trans (Qa3 M _)
theorem QkK:∀(M:List Nat) (ρ:En) (i:Nat) (d:D),i∈M->(QaT M ρ)[i]? =some (some (d,true))->False
 | [],ρ,i,d,h,_=>by simp at h
 | j::M,ρ,i,d,h,e=>by
  rcases Zs.mp h with rfl | h
  ·obtain⟨b',e',hb⟩:=(Qa3 M _).2 i d true e
   have:b'=true:=hb rfl
   subst this
   split at e'
   ·rename_i d' b e1
    have hl:i<ρ.length:=(Zf.mp e1).1
    rw[Zn hl]at e'
    cases e'
   ·rename_i h1
    exact h1 d true e'
  ·exact QkK M _ i d h e
def Shr(H0:Hp)(A0:List Addr)(ρ:En)(F:Nat->List Addr)(G:List Addr):Prop:=
 ∀a∈G,(H0 a=none∨a∈A0)/\∀(i:Nat) d,ρ[i]? =some (some (d,true))->a∉F i
theorem Shr.of(r:Rel K H0 A0 hs ρ F σ H){M:List Nat}{G:List Addr}(s:Src ρ F H M G):Shr H0 A0 (QaT M ρ) F G:=λa ha=>by
 have w:=Qa3 M ρ
 rcases s a ha with h | ⟨i,d,b,e,m,hm⟩
 ·refine⟨.inl (r.same.free h),λj d' e' hj=>?_⟩
  obtain⟨b',e2,_⟩:=w.2 j d' true e'
  obtain⟨vs,q⟩:=r.mem e2 hj
  rw[h]at q;cases q
 ·refine⟨r.src i d b e a m,λj d' e' hj=>?_⟩
  obtain⟨b',e2,hb⟩:=w.2 j d' true e'
  have:b'=true:=hb rfl
  subst this
  by_cases hij:i=j
  ·subst hij
   rw[e]at e2
   cases e2
   exact QkK M ρ i _ (hm rfl) e'
  ·exact(r.own j d' e2).2.2.2.1 i d b hij e a hj m
theorem Rel.Qnj(r:Rel K H0 A0 hs ρ F σ H){i:Nat}{d:D}{v:V}{G:List Addr}(rp:Rp K H d v G)(sh:Shr H0 A0 ρ F G):
  Rel K H0 A0 hs (ρ.set i (some (d,d.flat))) (λj=>if j=i then G else F j) (σ.set i (some v)) H where
 len:=by simp[r.len]
 val:=λj d' b e=>by
  by_cases hj:j=i
  ·subst hj
   have hl:j<ρ.length:=by
    by_cases hl:j<ρ.length
    ·exact hl
    ·rw[Zm (by simp;omega)]at e;cases e
   rw[Zn hl]at e
   cases e
   exact⟨v,by rw[Zn (by rw[← r.len];exact hl)],by rw[if_pos rfl];exact rp⟩
  ·rw[Zd (Ne.symm hj)]at e
   obtain⟨w,h1,h2⟩:=r.val j d' b e
   exact⟨w,by rw[Zd (Ne.symm hj)];exact h1,by rw[if_neg hj];exact h2⟩
 own:=λj d' e=>by
  by_cases hj:j=i
  ·subst hj
   have hl:j<ρ.length:=by
    by_cases hl:j<ρ.length
    ·exact hl
    ·rw[Zm (by simp;omega)]at e;cases e
   rw[Zn hl]at e
   have e1:=Option.some.inj (Option.some.inj e)
   have ed:d=d':=congrArg Prod.fst e1
   have ef:d.flat=true:=congrArg Prod.snd e1
   subst ed
   have:=rp.Qbm ef
   subst this
   rw[if_pos rfl]
   exact⟨(Qdr d ef).symm,Zan,λa ha=>by simp at ha,λ_ _ _ _ _ a ha=>by simp at ha,λ_ _ a ha=>by simp at ha⟩
  ·rw[Zd (Ne.symm hj)]at e
   obtain⟨h1,h2,h3,h4,h5⟩:=r.own j d' e
   rw[if_neg hj]
   refine⟨h1,h2,h3,λk d'' b hk ek a ha=>?_,h5⟩
   by_cases hki:k=i
   ·subst hki
    rw[if_pos rfl]
    exact λhG=>(sh a hG).2 j d' e ha
   ·rw[Zd (Ne.symm hki)]at ek
    rw[if_neg hki]
    exact h4 k d'' b hk ek a ha
 src:=λj d' b e a ha=>by
  by_cases hj:j=i
  ·subst hj
   rw[if_pos rfl]at ha
   exact(sh a ha).1
  ·rw[Zd (Ne.symm hj)]at e
   rw[if_neg hj]at ha
   exact r.src j d' b e a ha
 held:=r.held
 same:=r.same
theorem QyR(r:Rel K H0 A0 hs ρ F σ H){M:List Nat}(ow:Qbp ρ M)(nd:M.Nodup)(a:Addr):((M.map F).flatten).count a<=1:=by
 induction M with
 | nil=>simp
 | cons i M ih=>
  rw[ZM,Zal,Zam]
  obtain⟨h1,h2⟩:=Zau.mp nd
  have ih':=ih (λj hj=>ow j (Ze _ hj)) h2
  obtain⟨d,e⟩:=ow i Zo
  obtain⟨_,nd1,_,apart,_⟩:=r.own i d e
  by_cases ha:a∈F i
  ·have c1:(F i).count a<=1:=Zai.mp nd1 a
   have c2:((M.map F).flatten).count a=0:=ZO.mpr λhm=>by
    obtain⟨l,hl,hal⟩:=Zby.mp hm
    obtain⟨j,hj,rfl⟩:=ZT.mp hl
    obtain⟨d',e'⟩:=ow j (Ze _ hj)
    exact apart j d' true (λz=>h1 (z▸hj)) e' a ha hal
   omega
  ·have:(F i).count a=0:=ZO.mpr ha
   omega
theorem Qaa.fresh(r:Rel K H0 A0 hs ρ F σ H){rr:R}{v:V}{G:List Addr}(p:Qaa K ρ F H H' rr v G)(hf:rr.fr=true)(nd:rr.M.Nodup):
  G.Nodup/\∀a∈G,H0 a=none/\(H a=none∨∃i d,i∈rr.M/\ρ[i]? =some (some (d,true))/\a∈F i):=by
 obtain⟨c,_⟩:=p.cnt hf
 refine⟨Zai.mpr λa=>?_,λa ha=>?_⟩
 ·have h1:=c a
  have h2:=QyR r p.own nd a
  cases q:H a with
  | none=>rw[Qbw q,r.fl0 p.own q]at h1;omega
  | some o=>rw[Qdw q]at h1;omega
 ·cases q:H a with
  | none=>exact⟨r.same.free q,.inl rfl⟩
  | some o=>
   have h1:=c a
   rw[Qdw q]at h1
   have h2:0<G.count a:=ZZ.mpr ha
   obtain⟨l,hl,hal⟩:=Zby.mp (ZZ.mp (by omega:0<((rr.M.map F).flatten).count a))
   obtain⟨i,hi,rfl⟩:=ZT.mp hl
   obtain⟨d,e⟩:=p.own i hi
   exact⟨(r.own i d e).2.2.1 a hal,.inr ⟨i,d,hi,e,hal⟩⟩
theorem Rel.Qz7(r:Rel K H0 A0 hs ρ F σ H){i:Nat}{rr:R}{v:V}{G:List Addr}(p:Qaa K ρ F H H' rr v G)(hf:rr.fr=true)(nd:rr.M.Nodup):
  Rel K H0 A0 hs ((kill rr.M ρ).set i (some (rr.d,true))) (λj=>if j=i then G else F j) (σ.set i (some v)) H':=by
 have r1:=(r.ext p.same).weak (Qdh rr.M ρ)
 obtain⟨gn,gs⟩:=p.fresh r hf nd
 have gl:=(p.cnt hf).2
 have apart:∀(j:Nat) d b,(kill rr.M ρ)[j]? =some (some (d,b))->∀a∈G,a∉F j:=λj d b e a ha hj=>by
  obtain⟨b',e',_⟩:=(Qdh rr.M ρ).2 j d b e
  rcases(gs a ha).2 with q | ⟨k,d',hk,ek,hak⟩
  ·obtain⟨vs,w⟩:=r.mem e' hj
   rw[q]at w;cases w
  ·have hjk:j≠k:=λz=>by subst z;exact Qij rr.M ρ j d b hk e
   exact(r.own k d' ek).2.2.2.1 j d b' hjk e' a hak hj
 have apartH:∀t∈hs,∀a∈G,a∉t.2.2:=λt ht a ha hj=>by
  rcases(gs a ha).2 with q | ⟨k,d',hk,ek,hak⟩
  ·obtain⟨vs,w⟩:=(r.held t ht).1.mem a hj
   rw[q]at w;cases w
  ·exact(r.own k d' ek).2.2.2.2 t ht a hak hj
 have lt:∀{j:Nat}{x:Option (D×Bool)}{y:D×Bool},((kill rr.M ρ).set j x)[j]? =some (some y)->j<(kill rr.M ρ).length:=λ{j x y} e=>by
  by_cases hl:j<(kill rr.M ρ).length
  ·exact hl
  ·rw[Zm (by simp;omega)]at e;cases e
 refine⟨by simp[r1.len],λj d b e=>?_,λj d e=>?_,λj d b e a ha=>?_,r1.held,r1.same⟩
 ·by_cases hj:j=i
  ·subst hj
   have hl:=lt e
   rw[Zn hl]at e
   cases e
   exact⟨v,by rw[Zn (by rw[← r1.len];exact hl)],by rw[if_pos rfl];exact p.rp⟩
  ·rw[Zd (Ne.symm hj)]at e
   obtain⟨w,h1,h2⟩:=r1.val j d b e
   exact⟨w,by rw[Zd (Ne.symm hj)];exact h1,by rw[if_neg hj];exact h2⟩
 ·by_cases hj:j=i
  ·subst hj
   have hl:=lt e
   rw[Zn hl]at e
   cases e
   rw[if_pos rfl]
   refine⟨gl,gn,λa ha=>(gs a ha).1,λk d' b hk ek a ha=>?_,apartH⟩
   rw[Zd (Ne.symm hk)]at ek
   rw[if_neg hk]
   exact apart k d' b ek a ha
  ·rw[Zd (Ne.symm hj)]at e
   obtain⟨h1,h2,h3,h4,h5⟩:=r1.own j d e
   rw[if_neg hj]
   refine⟨h1,h2,h3,λk d' b hk ek a ha=>?_,h5⟩
   by_cases hki:k=i
   ·subst hki
    rw[if_pos rfl]
    exact λhG=>apart j d true e a hG ha
   ·rw[Zd (Ne.symm hki)]at ek
    rw[if_neg hki]
    exact h4 k d' b hk ek a ha
 ·by_cases hj:j=i
  ·subst hj
   rw[if_pos rfl]at ha
   exact .inl (gs a ha).1
  ·rw[Zd (Ne.symm hj)]at e
   rw[if_neg hj]at ha
   exact r1.src j d b e a ha
noncomputable def asg(i:Nat)(r:R)(ρ:En):En:=
 if r.norm.fr && decide r.norm.M.Nodup then(kill r.norm.M ρ).set i (some (r.d,true))else(QaT r.norm.M ρ).set i (some (r.d,r.d.flat))
theorem Rel.asg(r:Rel K H0 A0 hs ρ F σ H){i:Nat}{rr:R}{v:V}{G:List Addr}(p:Qaa K ρ F H H' rr v G):∃F',Rel K H0 A0 hs (asg i rr ρ) F' (σ.set i (some v)) H':=by
 have p':=p.norm
 unfold HS.asg
 split
 ·rename_i h
  simp only[Zh,decide_eq_true_eq]at h
  have:=r.Qz7 (i:=i) p' h.1 h.2
  rw[rr.QcL]at this
  exact⟨_,this⟩
 ·have r1:=(r.ext p'.same).weak (Qa3 rr.norm.M ρ)
  have rp:=p'.rp
  rw[rr.QcL]at rp
  have sh:=Shr.of r p'.src
  exact⟨_,r1.Qnj rp sh⟩
theorem Rel.hold(r:Rel K H0 A0 hs ρ F σ H){ts:List (V×D×List Addr)}(h:∀t∈ts,Rp K H t.2.1 t.1 t.2.2/\Shr H0 A0 ρ F t.2.2):Rel K H0 A0 (ts++hs) ρ F σ H where
 len:=r.len
 val:=r.val
 own:=λi d e=>by
  obtain⟨h1,h2,h3,h4,h5⟩:=r.own i d e
  refine⟨h1,h2,h3,h4,λt ht a ha hm=>?_⟩
  rcases ZC.mp ht with z | z
  ·exact((h t z).2 a hm).2 i d e ha
  ·exact h5 t z a ha hm
 src:=r.src
 held:=λt ht=>by
  rcases ZC.mp ht with z | z
  ·exact⟨(h t z).1,λa ha=>((h t z).2 a ha).1⟩
  ·exact r.held t z
 same:=r.same
theorem Rel.Qse{ts:List (V×D×List Addr)}(r:Rel K H0 A0 (ts++hs) ρ F σ H):Rel K H0 A0 hs ρ F σ H where
 len:=r.len
 val:=r.val
 own:=λi d e=>let ⟨h1,h2,h3,h4,h5⟩:=r.own i d e;⟨h1,h2,h3,h4,λt ht=>h5 t (Zc _ ht)⟩
 src:=r.src
 held:=λt ht=>r.held t (Zc _ ht)
 same:=r.same
end
end HS
namespace HS
open PySem PySem.Spec L2
structure Ret (K:PySem.W.Frag) (H0:Hp) (A0:List Addr) (d:D) (fr:Bool) (v:V) (H':Hp) (G:List Addr):Prop where
 same:QP H0 H'
 rp:Rp K H' d v G
 src:∀a∈G,H0 a=none∨a∈A0
 cnt:fr=true->G.Nodup/\G.length=d.nl/\∀a∈G,H0 a=none
noncomputable abbrev Den:=List D->Option (D×Bool)
noncomputable def spV(K:PySem.W.Frag)(n:Nat)(den:Den):Sp:=λvs H Q _=>∃ds F d fr,Rps K H ds vs F/\ds.length=n/\den ds=some (d,fr)/\∀v H' G,Ret K H F d fr v H' G->Q v H'
theorem Qwr{K:PySem.W.Frag}{n:Nat}{den:Den}{ps:List Str}(hn:ps.length=n):∀vs H Q E,spV K n den vs H Q E->vs.length=ps.length:=λvs H Q E ⟨ds,F,d,fr,r,hl,_⟩=>by rw[hn,← hl,r.length]
noncomputable def Qn(n:Nat)(den:Den)(dfl:List D)(fs:DA):DE:=λρ=>(fs ρ).bind λr=>if r.ds.length+dfl.length=n then(den (r.ds++dfl)).map λq=>if q.2=true then⟨q.1,true,[]⟩else R.norm ⟨q.1,false,r.M⟩else none
section
variable {X:Cx}{e:Expr}{es:List Expr}{fs:DA}{pos p:Pos}{x:Str}{n k:Nat}{f:Addr}{fd:FuncData}{ps:List Str}{den:Den}{dfl:List D}{dvs:List V}{ds:List Value}
theorem Qmh{σ:L2.St}{H H0:Hp}{A0:List Addr}{Q:VK}(hdf:∀H,Rps X.K H dfl dvs []):tV X.K H0 A0 (Qn n den dfl fs) σ H Q->QqJ (spV X.K n den) dvs E0 (tVA X.K H0 A0 fs) σ H Q:=λ⟨ρ,hs,F,r,rel,e,q⟩=>by
 obtain⟨ra,e1,e⟩:=bind1 e
 split at e
 ·rename_i hl
  obtain⟨⟨d,fr⟩,e2,e⟩:=Zg.mp e
  refine⟨ρ,hs,F,ra,rel,e1,λvs H1 G p1=>⟨ra.ds++dfl,G++[],d,fr,p1.rp.append (hdf H1),by rw[Zr];exact hl,e2,λv H2 G2 rt=>?_⟩⟩
  subst e
  have src:Src ρ F H ra.M G2:=λa ha=>by
   rcases rt.src a ha with z | z
   ·exact .inl (p1.same.free z)
   ·rw[ZaS]at z
    exact p1.src a z
  split at q
  ·rename_i hf
   have hf:fr=true:=hf
   obtain⟨nd,hn,fresh⟩:=rt.cnt hf
   have hH:∀a∈G2,H a=none:=λa ha=>p1.same.free (fresh a ha)
   refine q v H2 G2 ⟨p1.same.trans rt.same,rt.rp,λa ha=> .inl (hH a ha),λ_=>⟨λa=>?_,hn⟩,Qbp.nil⟩
   by_cases ha:a∈G2
   ·rw[Qbw (hH a ha)];have:=Zai.mp nd a;omega
   ·rw[ZO.mpr ha];exact ZX _
  ·refine q v H2 G2 (Qaa.norm ⟨p1.same.trans rt.same,rt.rp,src,λz=>(by cases z),p1.own⟩)
 ·cases e
theorem Qv2(Fk:QdE X.prog X.w X.K X.mg X.base CX0 k f fd ps (spV X.K n den))(hr:QbH k X.A)(hg:Gl X x)(hm:X.mg x=some (.ref f))(hk:PySem.W.keepIn X.K (.ref f)=true)(hb:Binds X.K fd ps ds)(hd:QC dvs ds)(hdf:∀H,Rps X.K H dfl dvs [])
  (ha:SA X (e::es) fs) (hdb:(x == ("__debug__" :Str))=false) (he:starEach (e::es) X.env=(false,eval e X.env)::starEach es X.env) (hpl:(backTo pos (starEach es X.env)).any (·.1)=false):
  SE X (.Call (.Name x p) (e::es) [] pos) (Qn n den dfl fs):=λH0 A0=>
 (Qwx Fk hr hg hm hk hb hd Qu4 (ha H0 A0) hdb he hpl).mono λσ H Q h=>Qmh hdf h
theorem QuV(Fk:QdE X.prog X.w X.K X.mg X.base CX0 k f fd ps (spV X.K n den))(hr:QbH k X.A)(hg:Gl X x)(hm:X.mg x=some (.ref f))(hk:PySem.W.keepIn X.K (.ref f)=true)(hb:Binds X.K fd ps ds)(hd:QC dvs ds)(hdf:∀H,Rps X.K H dfl dvs [])
  (hdb:(x == ("__debug__" :Str))=false):SE X (.Call (.Name x p) [] [] pos) (Qn n den dfl Qf):=λH0 A0=>
 (Qtj Fk hr hg hm hk hb hd Qu4 hdb).mono λσ H Q h=>by
  have h':=Qmh (X:=X) (H0:=H0) (A0:=A0) hdf h
  obtain⟨ρ,hs,F,r,rel,e,q⟩:=h'
  cases e
  exact q [] H [] ⟨QP.refl _,by simp[Rps],Src.nil,λ_=>⟨Cnt.nil,rfl⟩,Qbp.nil⟩
end
structure IR where
 items:List D
 M:List Nat
noncomputable abbrev DI:=En->Option IR
def Qll(K:PySem.W.Frag)(H:Hp)(ts:List (V×D×List Addr)):Prop:=∀t∈ts,Rp K H t.2.1 t.1 t.2.2
structure Walk (K:PySem.W.Frag) (J:It) (ts:List (V×D×List Addr)) (ds:List D):Prop where
 stop:∀H,Qll K H ts->J.stop ds.length H
 go:∀i H,i<ds.length->Qll K H ts->J.go i H
 yld:∀(i:Nat) d H x H',ds[i]? =some d->Qll K H ts->J.yld i H x H'->QP H H'/\∃G,Rp K H' d x G/\∀a∈G,∃t∈ts,a∈t.2.2
noncomputable def tI(K:PySem.W.Frag)(H0:Hp)(A0:List Addr)(f:DI):TI:=λσ H Rr=>∃ρ hs F ir,Rel K H0 A0 hs ρ F σ H/\f ρ=some ir∧
 ∀J H1 ts,QP H H1->Walk K J ts ir.items->(∀t∈ts,Rp K H1 t.2.1 t.1 t.2.2/\Src ρ F H ir.M t.2.2)->Qbp ρ ir.M->ir.items.length<=sizeLine->Rr J H1
def SI(X:Cx)(tg e:Expr)(f:DI):Prop:=∀H0 A0,PI X tg e (tI X.K H0 A0 f)
theorem _root_.L2.PI.mono{X:Cx}{tg e:Expr}{t t':TI}(h:PI X tg e t)(m:∀σ H Q,t' σ H Q->t σ H Q):PI X tg e t':=λpins s σ H Q I q=>h pins s σ H Q I (m σ H Q q)
section
variable {X:Cx}{tg a b:Expr}{fa fb:DE}{fs:DA}{pos p:Pos}
theorem Rps.nth{K:PySem.W.Frag}{H:Hp}{ds:List D}{vs:List V}{F:List Addr}{i:Nat}{d:D}(h:Rps K H ds vs F)(e:ds[i]? =some d):∃v G,vs[i]? =some v/\Rp K H d v G/\∀a∈G,a∈F:=by
 obtain⟨v,F1,G,F2,h1,h2,h3,_⟩:=h.get e
 exact⟨v,G,h1,h3,λa ha=>by rw[h2];exact Zc _ (Zj _ ha)⟩
noncomputable def QzU(K:PySem.W.Frag)(tl:TE):TI:=λσ H Rr=>tl σ H λx H1=>(∃a,x= .ref a/\(∃xs,SqL K H1 a xs)/\Rr (Itl K a) H1)∨(∃a,x= .ref a/\(∃xs,SqT K H1 a xs)/\Rr (Itt K a) H1)
theorem Qx5{l:Expr}{tl:TE}(hl:PE X l tl):PI X tg l (QzU X.K tl):=by
 intro pins s σ H Rr I h
 refine thn (hl pins s σ H _ I h) λv s1 ⟨x,H1,I1,r1,q1⟩=>?_
 rcases q1 with⟨a,e,⟨xs,hq⟩,q⟩ | ⟨a,e,⟨xs,hq⟩,q⟩
 ·subst e
  cases r1
  obtain⟨its,rv,pl,hz⟩:=I1.list hq
  refine wpAny_pyIter_list pl.isList ⟨s1.heap.objs.size,[s1.heap.objs.size],_,_,H1,rfl,I1.kept (t':=s1.toks) λb o e=>Zb _ e,QsB a _,⟨_,ZA _ rfl,rfl,rfl⟩,λb hb=>?_,q⟩
  have e:b=s1.heap.objs.size:=by simpa using hb
  subst e
  exact I1.Qjt (Zi _) (I1.hok.fresh (Zi _))
 ·subst e
  cases r1
  obtain⟨its,rv,pl,hz⟩:=I1.tuple hq
  refine wpAny_pyIter_tuple (show s1.heap.IsTuple a its.toArray from pl) ⟨s1.heap.objs.size,[s1.heap.objs.size],_,_,H1,rfl,I1.kept (t':=s1.toks) λb o e=>Zb _ e,Qqj a _,⟨_,ZA _ rfl,rfl,rfl⟩,λb hb=>?_,q⟩
  have e:b=s1.heap.objs.size:=by simpa using hb
  subst e
  exact I1.Qjt (Zi _) (I1.hok.fresh (Zi _))
noncomputable def Q3(fa:DE):DI:=λρ=>(fa ρ).bind λr=>match r.d with
 | .lst xs=>some ⟨xs,r.M⟩
 | .tup xs=>if xs.length<=sizeLine then some ⟨xs,r.M⟩else none
 | _=>none
theorem Qru{K:PySem.W.Frag}{c:Addr}{ds:List D}{G:List Addr}:Walk K (Itl K c) [(.ref c,.lst ds,G)] ds where
 stop:=λH h=>by
  obtain⟨l,vs,L,e,hl,rl,zl,el⟩:=(h _ (Zz.mpr rfl)).lst_inv
  cases e
  exact⟨vs,Q5 hl,by rw[rl.length];exact Zi _⟩
 go:=λi H hi h=>by
  obtain⟨l,vs,L,e,hl,rl,zl,el⟩:=(h _ (Zz.mpr rfl)).lst_inv
  cases e
  have:i<vs.length:=by rw[← rl.length];exact hi
  exact⟨vs,vs[i],Q5 hl,by simp[this]⟩
 yld:=λi d H x H' e h y=>by
  obtain⟨l,vs,L,e1,hl,rl,zl,el⟩:=(h _ (Zz.mpr rfl)).lst_inv
  cases e1
  obtain⟨rfl,y⟩:=y
  obtain⟨v,G',h1,h2,h3⟩:=rl.nth e
  have:=y vs (Q5 hl)
  rw[h1]at this
  cases this
  refine⟨QP.refl _,G',h2,λz hz=>⟨_,Zz.mpr rfl,?_⟩⟩
  have:=h3 z hz
  rcases el with rfl | rfl
  ·exact Ze _ this
  ·exact this
theorem QuE{K:PySem.W.Frag}{c:Addr}{ds:List D}{G:List Addr}:Walk K (Itt K c) [(.ref c,.tup ds,G)] ds where
 stop:=λH h=>by
  obtain⟨l,vs,e,hl,rl⟩:=(h _ (Zz.mpr rfl)).QbD
  cases e
  exact⟨vs,hl,by rw[rl.length];exact Zi _⟩
 go:=λi H hi h=>by
  obtain⟨l,vs,e,hl,rl⟩:=(h _ (Zz.mpr rfl)).QbD
  cases e
  have:i<vs.length:=by rw[← rl.length];exact hi
  exact⟨vs,vs[i],hl,by simp[this]⟩
 yld:=λi d H x H' e h y=>by
  obtain⟨l,vs,e1,hl,rl⟩:=(h _ (Zz.mpr rfl)).QbD
  cases e1
  obtain⟨rfl,y⟩:=y
  obtain⟨v,G',h1,h2,h3⟩:=rl.nth e
  have:=y vs hl
  rw[h1]at this
  cases this
  exact⟨QP.refl _,G',h2,λz hz=>⟨_,Zz.mpr rfl,h3 z hz⟩⟩
theorem Qw6(ha:SE X a fa):SI X tg a (Q3 fa):=λH0 A0=>(Qx5 (ha H0 A0)).mono λσ H Rr ⟨ρ,hs,F,ir,rel,e,q⟩=>by
 obtain⟨r,e1,e⟩:=bind1 e
 refine⟨ρ,hs,F,r,rel,e1,λv H1 G p=>?_⟩
 have rp:=p.rp
 cases hr:r.d with
 | lst xs=>
  rw[hr]at e rp
  cases e
  obtain⟨c,vs,L,rfl,hl,rl,zl,el⟩:=rp.lst_inv
  refine .inl ⟨c,rfl,⟨vs,Q5 hl⟩,q _ H1 [(.ref c,.lst xs,G)] p.same Qru (λt ht=>?_) p.own zl⟩
  rw[Zz.mp ht]
  exact⟨rp,p.src⟩
 | tup xs=>
  rw[hr]at e rp
  dsimp only at e
  split at e
  ·rename_i hz
   cases e
   obtain⟨c,vs,rfl,hl,rl⟩:=rp.QbD
   refine .inr ⟨c,rfl,⟨vs,hl⟩,q _ H1 [(.ref c,.tup xs,G)] p.same QuE (λt ht=>?_) p.own hz⟩
   rw[Zz.mp ht]
   exact⟨rp,p.src⟩
  ·cases e
 | _=>rw[hr]at e;cases e
noncomputable def Qh1(lo:Int)(n:Nat):List D:=(List.range n).map λ(k:Nat)=> .int (lo+(k:Int))
theorem Qg5{lo:Int}{n:Nat}:(Qh1 lo n).length=n:=by simp[Qh1]
theorem Qut{lo:Int}{n i:Nat}{d:D}(h:(Qh1 lo n)[i]? =some d):i<n/\d= .int (lo+i):=by
 unfold Qh1 at h
 rw[Zl]at h
 cases q:(List.range n)[i]? with
 | none=>rw[q]at h;cases h
 | some k=>
  rw[q]at h
  obtain⟨h1,h2⟩:=Zf.mp q
  simp at h1 h2
  subst h2
  exact⟨h1,(Option.some.inj h).symm⟩
theorem Qky{K:PySem.W.Frag}{lo:Int}{n:Nat}:Walk K (Itr lo n) [] (Qh1 lo n) where
 stop:=λH _=>by rw[Qg5];exact Zi _
 go:=λi H hi _=>by rw[Qg5]at hi;exact hi
 yld:=λi d H x H' e _ y=>by
  obtain⟨h1,rfl⟩:=Qut e
  obtain⟨rfl,rfl⟩:=y
  exact⟨QP.refl _,[],.int_mk,λz hz=>by simp at hz⟩
noncomputable def Qay(fa:DE):DI:=λρ=>(fa ρ).bind λr=>match r.d with
 | .int j=>if j<=16777216/\ -(2^62)<=j then some ⟨Qh1 0 j.toNat,[]⟩else none
 | _=>none
noncomputable def Qeq(fa fb:DE):DI:=λρ=>(fa ρ).bind λr=>(fb ρ).bind λr'=>match r.d,r'.d with
 | .int i,.int j=>if j-i<=16777216/\ -(2^62)<=i/\i<2^62/\ -(2^62)<=j/\j<2^62 then some ⟨Qh1 i (j-i).toNat,[]⟩else none
 | _,_=>none
theorem QgL:(sizeLine:Nat)=16777216:=sizeLine_eq
theorem Qr2(hg:Gl X "range")(hm:X.mg "range" =none)(ha:SE X a fa)(hs:starEach [a] X.env=[(false,eval a X.env)]):SI X tg (.Call (.Name "range" p) [a] [] pos) (Qay fa):=λH0 A0=>
 (Qr5 hg hm (Q9 (ha H0 A0) QbZ hs) hs).mono λσ H Rr ⟨ρ,hs,F,ir,rel,e,q⟩=>by
  obtain⟨r,e1,e⟩:=bind1 e
  refine⟨ρ,hs,F,r,rel,e1,λv H1 G pp=>?_⟩
  have rp:=pp.rp
  cases hr:r.d with
  | int j=>
   rw[hr]at e rp
   dsimp only at e
   split at e
   ·rename_i hz
    cases e
    rw[rp.int_inv]
    refine⟨j,rfl,hz.2,by omega,q _ H1 [] pp.same Qky (λt ht=>by simp at ht) Qbp.nil ?_⟩
    rw[Qg5,QgL];omega
   ·cases e
  | _=>rw[hr]at e;cases e
theorem Qry(hg:Gl X "range")(hm:X.mg "range" =none)(ha:SE X a fa)(hb:SE X b fb)(hs:starEach [a,b] X.env=[(false,eval a X.env),(false,eval b X.env)])(hs2:starEach [b] X.env=[(false,eval b X.env)]):
  SI X tg (.Call (.Name "range" p) [a,b] [] pos) (Qeq fa fb):=λH0 A0=>
 (QrR hg hm (Q9 (ha H0 A0) (Q9 (hb H0 A0) QbZ hs2) (by rw[hs,hs2])) hs hs2).mono λσ H Rr ⟨ρ,hs,F,ir,rel,e,q⟩=>by
  obtain⟨r,e1,e⟩:=bind1 e
  obtain⟨r',e2,e⟩:=bind1 e
  refine⟨ρ,hs,F,r,rel,e1,λv H1 G pp=>⟨ρ,hs,F,r',rel.ext pp.same,e2,λv' H2 G' pp'=>?_⟩⟩
  have rp:=pp.rp.same pp'.same
  have rp':=pp'.rp
  cases hr:r.d with
  | int i=>
   cases hr':r'.d with
   | int j=>
    rw[hr,hr']at e
    rw[hr]at rp
    rw[hr']at rp'
    dsimp only at e
    split at e
    ·rename_i hz
     cases e
     rw[rp.int_inv,rp'.int_inv]
     refine⟨i,j,rfl,hz.2,q _ H2 [] (pp.same.trans pp'.same) Qky (λt ht=>by simp at ht) Qbp.nil ?_⟩
     rw[Qg5,QgL];omega
    ·cases e
   | _=>rw[hr,hr']at e;cases e
  | _=>rw[hr]at e;cases e
noncomputable def Qfb(ds:List D):List D:=ds.zipIdx.map λq=> .tup [.int q.2,q.1]
theorem Qih{ds:List D}:(Qfb ds).length=ds.length:=by simp[Qfb]
theorem QsA{ds:List D}{i:Nat}{d:D}(h:(Qfb ds)[i]? =some d):∃e,ds[i]? =some e/\d= .tup [.int i,e]:=by
 unfold Qfb at h
 rw[Zl,List.getElem?_zipIdx]at h
 cases q:ds[i]? with
 | none=>rw[q]at h;cases h
 | some e=>rw[q]at h;simp at h;exact⟨e,rfl,h.symm⟩
theorem QsX{K:PySem.W.Frag}{c:Addr}{ds:List D}{G:List Addr}:Walk K (Ite K c) [(.ref c,.lst ds,G)] (Qfb ds) where
 stop:=λH h=>by
  obtain⟨l,vs,L,e,hl,rl,zl,el⟩:=(h _ (Zz.mpr rfl)).lst_inv
  cases e
  exact⟨vs,Q5 hl,by rw[Qih,rl.length];exact Zi _⟩
 go:=λi H hi h=>by
  obtain⟨l,vs,L,e,hl,rl,zl,el⟩:=(h _ (Zz.mpr rfl)).lst_inv
  cases e
  rw[Qih]at hi
  have:i<vs.length:=by rw[← rl.length];exact hi
  exact⟨vs,vs[i],Q5 hl,by simp[this]⟩
 yld:=λi d H x H' e h y=>by
  obtain⟨l,vs,L,e1,hl,rl,zl,el⟩:=(h _ (Zz.mpr rfl)).lst_inv
  cases e1
  obtain⟨d',e',rfl⟩:=QsA e
  obtain⟨pp,u,rfl,hp,rfl,y⟩:=y
  obtain⟨v,G',h1,h2,h3⟩:=rl.nth e'
  have:=y vs (Q5 hl)
  rw[h1]at this
  cases this
  have s:=Qa1 (o:= .tup [.int i,u]) hp
  refine⟨s,G',Rp.Qfu Qaj ?_,λz hz=>⟨_,Zz.mpr rfl,?_⟩⟩
  ·simp only[Rps]
   exact⟨.int i,[u],[],G',rfl,rfl,.int_mk,u,[],G',[],rfl,by simp,h2.same s,rfl,rfl⟩
  ·have:=h3 z hz
   rcases el with rfl | rfl
   ·exact Ze _ this
   ·exact this
noncomputable def QgJ(fa:DE):DI:=λρ=>(fa ρ).bind λr=>match r.d with
 | .lst xs=>some ⟨Qfb xs,r.M⟩
 | _=>none
theorem QvV{es:List Expr}{tk:Nat}{tpos:Pos}(hg:Gl X "enumerate")(hm:X.mg "enumerate" =none)(ha:SE X a fa)(hs:starEach [a] X.env=[(false,eval a X.env)]):SI X (.Tuple es tk tpos) (.Call (.Name "enumerate" p) [a] [] pos) (QgJ fa):=λH0 A0=>
 (Qvo hg hm (Q9 (ha H0 A0) QbZ hs) hs).mono λσ H Rr ⟨ρ,hs,F,ir,rel,e,q⟩=>by
  obtain⟨r,e1,e⟩:=bind1 e
  refine⟨ρ,hs,F,r,rel,e1,λv H1 G pp=>?_⟩
  have rp:=pp.rp
  cases hr:r.d with
  | lst xs=>
   rw[hr]at e rp
   cases e
   obtain⟨c,vs,L,rfl,hl,rl,zl,el⟩:=rp.lst_inv
   refine⟨c,rfl,⟨vs,Q5 hl⟩,q _ H1 [(.ref c,.lst xs,G)] pp.same QsX (λt ht=>?_) pp.own (by rw[Qih];exact zl)⟩
   rw[Zz.mp ht]
   exact⟨rp,pp.src⟩
  | _=>rw[hr]at e;cases e
noncomputable def Qh7(xs ys:List D):List D:=(xs.zip ys).map λq=> .tup [q.1,q.2]
theorem Qjd{xs ys:List D}:(Qh7 xs ys).length=min xs.length ys.length:=by simp[Qh7]
theorem Qs3{xs ys:List D}{i:Nat}{d:D}(h:(Qh7 xs ys)[i]? =some d):∃e f,xs[i]? =some e/\ys[i]? =some f/\d= .tup [e,f]:=by
 unfold Qh7 at h
 rw[Zl]at h
 cases q:(xs.zip ys)[i]? with
 | none=>rw[q]at h;cases h
 | some e=>
  rw[q]at h
  obtain⟨h1,h2⟩:=Zax.mp q
  exact⟨e.1,e.2,h1,h2,(Option.some.inj h).symm⟩
theorem Qth{K:PySem.W.Frag}{c c':Addr}{xs ys:List D}{G G':List Addr}:Walk K (Itz K c c') [(.ref c,.lst xs,G),(.ref c',.lst ys,G')] (Qh7 xs ys) where
 stop:=λH h=>by
  obtain⟨l,vs,L,e,hl,rl,zl,el⟩:=(h _ (Zo)).lst_inv
  obtain⟨l',vs',L',e',hl',rl',zl',el'⟩:=(h _ (Ze _ Zo)).lst_inv
  cases e
  cases e'
  refine⟨vs,vs',Q5 hl,Q5 hl',?_⟩
  rw[Qjd,← rl.length,← rl'.length];omega
 go:=λi H hi h=>by
  obtain⟨l,vs,L,e,hl,rl,zl,el⟩:=(h _ (Zo)).lst_inv
  obtain⟨l',vs',L',e',hl',rl',zl',el'⟩:=(h _ (Ze _ Zo)).lst_inv
  cases e
  cases e'
  rw[Qjd]at hi
  have h1:i<vs.length:=by rw[← rl.length];omega
  have h2:i<vs'.length:=by rw[← rl'.length];omega
  exact⟨vs,vs',vs[i],vs'[i],Q5 hl,Q5 hl',by simp[h1],by simp[h2]⟩
 yld:=λi d H x H' e h y=>by
  obtain⟨l,vs,L,e1,hl,rl,zl,el⟩:=(h _ (Zo)).lst_inv
  obtain⟨l',vs',L',e1',hl',rl',zl',el'⟩:=(h _ (Ze _ Zo)).lst_inv
  cases e1
  cases e1'
  obtain⟨d1,d2,ea,eb,rfl⟩:=Qs3 e
  obtain⟨pp,u,u',rfl,hp,rfl,y,y'⟩:=y
  obtain⟨v,G1,h1,h2,h3⟩:=rl.nth ea
  obtain⟨v',G2,h1',h2',h3'⟩:=rl'.nth eb
  have:=y vs (Q5 hl)
  rw[h1]at this
  cases this
  have:=y' vs' (Q5 hl')
  rw[h1']at this
  cases this
  have s:=Qa1 (o:= .tup [u,u']) hp
  refine⟨s,G1++G2,Rp.Qfu Qaj ?_,λz hz=>?_⟩
  ·simp only[Rps]
   exact⟨u,[u'],G1,G2,rfl,rfl,h2.same s,u',[],G2,[],rfl,by simp,h2'.same s,rfl,rfl⟩
  ·rcases ZC.mp hz with hz | hz
   ·refine⟨_,Zo,?_⟩
    have:=h3 z hz
    rcases el with rfl | rfl
    ·exact Ze _ this
    ·exact this
   ·refine⟨_,Ze _ Zo,?_⟩
    have:=h3' z hz
    rcases el' with rfl | rfl
    ·exact Ze _ this
    ·exact this
noncomputable def QcD(fa fb:DE):DI:=λρ=>(fa ρ).bind λr=>(fb ρ).bind λr'=>match r.d,r'.d with
 | .lst xs,.lst ys=>some ⟨Qh7 xs ys,r.M++r'.M⟩
 | _,_=>none
theorem Qyf{es:List Expr}{tk:Nat}{tpos:Pos}(hg:Gl X "zip")(hm:X.mg "zip" =none)(ha:SE X a fa)(hb:SE X b fb)(hs:starEach [a,b] X.env=[(false,eval a X.env),(false,eval b X.env)])(hs2:starEach [b] X.env=[(false,eval b X.env)]):
  SI X (.Tuple es tk tpos) (.Call (.Name "zip" p) [a,b] [] pos) (QcD fa fb):=λH0 A0=>
 (Qyj hg hm (Q9 (ha H0 A0) (Q9 (hb H0 A0) QbZ hs2) (by rw[hs,hs2])) hs hs2).mono λσ H Rr ⟨ρ,hs,F,ir,rel,e,q⟩=>by
  obtain⟨r,e1,e⟩:=bind1 e
  obtain⟨r',e2,e⟩:=bind1 e
  refine⟨ρ,hs,F,r,rel,e1,λv H1 G pp=>⟨ρ,hs,F,r',rel.ext pp.same,e2,λv' H2 G' pp'=>?_⟩⟩
  have rp:=pp.rp.same pp'.same
  have rp':=pp'.rp
  cases hr:r.d with
  | lst xs=>
   cases hr':r'.d with
   | lst ys=>
    rw[hr,hr']at e
    rw[hr]at rp
    rw[hr']at rp'
    cases e
    obtain⟨c,vs,L,rfl,hl,rl,zl,el⟩:=rp.lst_inv
    obtain⟨c',vs',L',rfl,hl',rl',zl',el'⟩:=rp'.lst_inv
    refine⟨c,c',rfl,⟨vs,Q5 hl⟩,⟨vs',Q5 hl'⟩,q _ H2 [(.ref c,.lst xs,G),(.ref c',.lst ys,G')] (pp.same.trans pp'.same) Qth (λt ht=>?_) (pp.own.append pp'.own) (by rw[Qjd];omega)⟩
    have sa:=pp.src.append pp'.src pp.same
    rcases Zs.mp ht with rfl | ht
    ·exact⟨rp,λz hz=>sa z (Zj _ hz)⟩
    ·rw[Zz.mp ht]
     exact⟨rp',λz hz=>sa z (Zc _ hz)⟩
   | _=>rw[hr,hr']at e;cases e
  | _=>rw[hr]at e;cases e
end
end HS
namespace HS
open PySem L2
noncomputable def Qgb(xs ys zs:List D):List D:=(xs.zip (ys.zip zs)).map λq=> .tup [q.1,q.2.1,q.2.2]
theorem QrL{xs ys zs:List D}{i:Nat}{d:D}(h:(Qgb xs ys zs)[i]? =some d):∃e f g,xs[i]? =some e/\ys[i]? =some f/\zs[i]? =some g/\d= .tup [e,f,g]:=by
 unfold Qgb at h
 rw[Zl]at h
 cases q:(xs.zip (ys.zip zs))[i]? with
 | none=>rw[q]at h;cases h
 | some e=>
  rw[q]at h
  obtain⟨h1,h2⟩:=Zax.mp q
  obtain⟨h3,h4⟩:=Zax.mp h2
  exact⟨e.1,e.2.1,e.2.2,h1,h3,h4,(Option.some.inj h).symm⟩
theorem QhN{xs ys zs:List D}(h1:xs.length=ys.length)(h2:ys.length=zs.length):(Qgb xs ys zs).length=xs.length:=by
 simp[Qgb];omega
theorem QsD{K:PySem.W.Frag}{c c' c'':Addr}{xs ys zs:List D}{G G' G'':List Addr}(n1:xs.length=ys.length)(n2:ys.length=zs.length):Walk K (Qto K c c' c'') [(.ref c,.lst xs,G),(.ref c',.lst ys,G'),(.ref c'',.lst zs,G'')] (Qgb xs ys zs):=by
 have inv:∀H,Qll K H [(.ref c,.lst xs,G),(.ref c',.lst ys,G'),(.ref c'',.lst zs,G'')]->(∃vs L,SqL K H c vs/\Rps K H xs vs L/\∀a∈L,a∈G)/\(∃vs L,SqL K H c' vs/\Rps K H ys vs L/\∀a∈L,a∈G')/\∃vs L,SqL K H c'' vs/\Rps K H zs vs L/\∀a∈L,a∈G'':=λH h=>by
  have one:∀{p:Addr}{ds:List D}{G:List Addr},Rp K H (.lst ds) (.ref p) G->∃vs L,SqL K H p vs/\Rps K H ds vs L/\∀a∈L,a∈G:=λ{p ds G} r=>by
   obtain⟨l,vs,L,e,hl,rl,zl,el⟩:=r.lst_inv
   cases e
   refine⟨vs,L,Q5 hl,rl,λa ha=>?_⟩
   rcases el with rfl | rfl
   ·exact Ze _ ha
   ·exact ha
  exact⟨one (h _ Zo),one (h _ (Ze _ Zo)),one (h _ (Ze _ (Ze _ Zo)))⟩
 refine⟨λH h=>?_,λi H hi h=>?_,λi d H x H' e h y=>?_⟩
 ·obtain⟨⟨vs,L,hl,rl,el⟩,_⟩:=inv H h
  exact⟨vs,hl,by rw[QhN n1 n2,← rl.length];omega⟩
 ·obtain⟨⟨vs,L,hl,rl,el⟩,⟨vs',L',hl',rl',el'⟩,⟨vs'',L'',hl'',rl'',el''⟩⟩:=inv H h
  rw[QhN n1 n2]at hi
  have h1:i<vs.length:=by rw[← rl.length];omega
  have h2:i<vs'.length:=by rw[← rl'.length];omega
  have h3:i<vs''.length:=by rw[← rl''.length];omega
  exact⟨vs,vs',vs'',vs[i],vs'[i],vs''[i],hl,hl',hl'',by simp[h1],by simp[h2],by simp[h3]⟩
 ·obtain⟨⟨vs,L,hl,rl,el⟩,⟨vs',L',hl',rl',el'⟩,⟨vs'',L'',hl'',rl'',el''⟩⟩:=inv H h
  obtain⟨d1,d2,d3,ea,eb,ec,rfl⟩:=QrL e
  obtain⟨pp,u,u',u'',rfl,hp,rfl,y,y',y''⟩:=y
  obtain⟨v,G1,h1,h2,h3⟩:=rl.nth ea
  obtain⟨v',G2,h1',h2',h3'⟩:=rl'.nth eb
  obtain⟨v'',G3,h1'',h2'',h3''⟩:=rl''.nth ec
  have q:=y vs hl
  rw[h1]at q
  cases q
  have q:=y' vs' hl'
  rw[h1']at q
  cases q
  have q:=y'' vs'' hl''
  rw[h1'']at q
  cases q
  have s:=Qa1 (o:= .tup [u,u',u'']) hp
  refine⟨s,G1++(G2++G3),Rp.Qfu Qaj ?_,λz hz=>?_⟩
  ·simp only[Rps]
   exact⟨u,[u',u''],G1,G2++G3,rfl,rfl,h2.same s,u',[u''],G2,G3,rfl,rfl,h2'.same s,u'',[],G3,[],rfl,by simp,h2''.same s,rfl,rfl⟩
  ·rcases ZC.mp hz with hz | hz
   ·exact⟨_,Zo,el _ (h3 z hz)⟩
   ·rcases ZC.mp hz with hz | hz
    ·exact⟨_,Ze _ Zo,el' _ (h3' z hz)⟩
    ·exact⟨_,Ze _ (Ze _ Zo),el'' _ (h3'' z hz)⟩
noncomputable def QgE(fa fb fc:DE):DI:=λρ=>(fa ρ).bind λr=>(fb ρ).bind λr'=>(fc ρ).bind λr''=>match r.d,r'.d,r''.d with
 | .lst xs,.lst ys,.lst zs=>if xs.length=ys.length/\ys.length=zs.length then some ⟨Qgb xs ys zs,r.M++(r'.M++r''.M)⟩else none
 | _,_,_=>none
section
variable {X:Cx}{a b c:Expr}{fa fb fc:DE}{pos p:Pos}
theorem Qwa{es:List Expr}{tk:Nat}{tpos:Pos}(hg:Gl X "zip")(hm:X.mg "zip" =none)(ha:SE X a fa)(hb:SE X b fb)(hc:SE X c fc)(hs:starEach [a,b,c] X.env=(false,eval a X.env)::starEach [b,c] X.env)(hs2:starEach [b,c] X.env=(false,eval b X.env)::starEach [c] X.env)(hs3:starEach [c] X.env=[(false,eval c X.env)]):
  SI X (.Tuple es tk tpos) (.Call (.Name "zip" p) [a,b,c] [] pos) (QgE fa fb fc):=λH0 A0=>
 (Qwt hg hm (Q9 (ha H0 A0) (Q9 (hb H0 A0) (Q9 (hc H0 A0) QbZ hs3) hs2) hs) hs (by rw[hs2,hs3];rfl)).mono λσ H Rr ⟨ρ,hs,F,ir,rel,e,q⟩=>by
  obtain⟨r,e1,e⟩:=bind1 e
  obtain⟨r',e2,e⟩:=bind1 e
  obtain⟨r'',e3,e⟩:=bind1 e
  refine⟨ρ,hs,F,r,rel,e1,λv H1 G pp=>⟨ρ,hs,F,r',rel.ext pp.same,e2,λv' H2 G' pp'=>⟨ρ,hs,F,r'',(rel.ext pp.same).ext pp'.same,e3,λv'' H3 G'' pp''=>?_⟩⟩⟩
  have rp:=(pp.rp.same pp'.same).same pp''.same
  have rp':=pp'.rp.same pp''.same
  have rp'':=pp''.rp
  cases hr:r.d with
  | lst xs=>
   cases hr':r'.d with
   | lst ys=>
    cases hr'':r''.d with
    | lst zs=>
     rw[hr,hr',hr'']at e
     rw[hr]at rp
     rw[hr']at rp'
     rw[hr'']at rp''
     dsimp only at e
     split at e
     ·rename_i hn
      cases e
      obtain⟨c1,vs,L,rfl,hl,rl,zl,el⟩:=rp.lst_inv
      obtain⟨c2,vs',L',rfl,hl',rl',zl',el'⟩:=rp'.lst_inv
      obtain⟨c3,vs'',L'',rfl,hl'',rl'',zl'',el''⟩:=rp''.lst_inv
      refine⟨c1,c2,c3,rfl,⟨vs,Q5 hl⟩,⟨vs',Q5 hl'⟩,⟨vs'',Q5 hl''⟩,q _ H3 [(.ref c1,.lst xs,G),(.ref c2,.lst ys,G'),(.ref c3,.lst zs,G'')] ((pp.same.trans pp'.same).trans pp''.same) (QsD hn.1 hn.2) (λt ht=>?_) (pp.own.append (pp'.own.append pp''.own)) (by rw[QhN hn.1 hn.2];exact zl)⟩
      have sb:=pp'.src.append pp''.src pp'.same
      have sa:=pp.src.append sb pp.same
      rcases Zs.mp ht with rfl | ht
      ·exact⟨rp,λz hz=>sa z (Zj _ hz)⟩
      ·rcases Zs.mp ht with rfl | ht
       ·exact⟨rp',λz hz=>sa z (Zc _ (Zj _ hz))⟩
       ·rw[Zz.mp ht]
        exact⟨rp'',λz hz=>sa z (Zc _ (Zc _ hz))⟩
     ·cases e
    | _=>rw[hr,hr',hr'']at e;cases e
   | _=>rw[hr,hr']at e;cases e
  | _=>rw[hr]at e;cases e
end
end HS
namespace HS
open PySem PySem.Spec L2
inductive Tg where
 | nm (i:Nat)
 | tp (is:List Nat)
noncomputable def Tg.slots:Tg->List Nat
 | .nm i=>[i]
 | .tp is=>is
noncomputable def Qej:List Nat->List D->En->En
 | i::is,d::ds,ρ=>Qej is ds (ρ.set i (some (d,d.flat)))
 | _,_,ρ=>ρ
noncomputable def Qcd:Tg->D->En->Option En
 | .nm i,d,ρ=>some (ρ.set i (some (d,d.flat)))
 | .tp is,.tup xs,ρ=>if xs.length=is.length then some (Qej is xs ρ)else none
 | .tp is,.lst xs,ρ=>if xs.length=is.length then some (Qej is xs ρ)else none
 | .tp _,_,_=>none
noncomputable def tG(K:PySem.W.Frag)(H0:Hp)(A0:List Addr)(t:Tg):TG:=λv σ H Q=>∃ρ hs F d G ρ',Rel K H0 A0 hs ρ F σ H/\Rp K H d v G/\Shr H0 A0 ρ F G/\Qcd t d ρ=some ρ'∧
 ∀σ' F',Rel K H0 A0 hs ρ' F' σ' H->(∀j,j∉t.slots->σ'[j]? =σ[j]?)->(∀j a,a∈F' j->a∈F j∨a∈G)->Q σ' H
def SG(X:Cx)(tg:Expr)(t:Tg):Prop:=∀H0 A0,PG X tg (tG X.K H0 A0 t)
theorem _root_.L2.PG.mono{X:Cx}{tg:Expr}{t t':TG}(h:PG X tg t)(m:∀v σ H Q,t' v σ H Q->t v σ H Q):PG X tg t':=λpins s σ H v u Q I r q=>h pins s σ H v u Q I r (m v σ H Q q)
noncomputable def QkB:List Nat->TGs
 | []=>Qxl
 | i::is=>Qvd (Qf5 i) (QkB is)
theorem Shr.set{H0:Hp}{A0:List Addr}{ρ:En}{F:Nat->List Addr}{G G1:List Addr}{i:Nat}{d:D}(h:Shr H0 A0 ρ F G)(hf:d.flat=true->G1=[]):Shr H0 A0 (ρ.set i (some (d,d.flat))) (λj=>if j=i then G1 else F j) G:=λa ha=>by
 refine⟨(h a ha).1,λj d' e=>?_⟩
 by_cases hj:j=i
 ·subst hj
  show ¬a∈(if j=j then G1 else F j)
  rw[if_pos rfl]
  have hl:j<ρ.length:=by
   by_cases hl:j<ρ.length
   ·exact hl
   ·rw[Zm (by simp;omega)]at e;cases e
  rw[Zn hl]at e
  have e1:=Option.some.inj (Option.some.inj e)
  rw[hf (congrArg Prod.snd e1)]
  simp
 ·rw[Zd (Ne.symm hj)]at e
  show ¬a∈(if j=i then G1 else F j)
  rw[if_neg hj]
  exact(h a ha).2 j d' e
theorem Qjc{K:PySem.W.Frag}{H0:Hp}{A0:List Addr}{hs:List (V×D×List Addr)}:∀(is:List Nat) (ds:List D) (vs:List V) (ρ:En) (F:Nat->List Addr) (σ:L2.St) (H:Hp) (G:List Addr) (Q:L2.St->Hp->Prop),
  Rel K H0 A0 hs ρ F σ H->Rps K H ds vs G->Shr H0 A0 ρ F G->ds.length=is.length→
  (∀σ' F',Rel K H0 A0 hs (Qej is ds ρ) F' σ' H->(∀j,j∉is->σ'[j]? =σ[j]?)->(∀j a,a∈F' j->a∈F j∨a∈G)->Q σ' H)->QkB is vs σ H Q
 | [],ds,vs,ρ,F,σ,H,G,Q,rel,rp,sh,hl,q=>by
  have:ds=[]:=by simpa using hl
  subst this
  simp only[Rps]at rp
  exact⟨rp.1,q σ F rel (λ_ _=>rfl) λ_ _ h=> .inl h⟩
 | i::is,[],vs,ρ,F,σ,H,G,Q,rel,rp,sh,hl,q=>by simp at hl
 | i::is,d::ds,vs,ρ,F,σ,H,G,Q,rel,rp,sh,hl,q=>by
  simp only[Rps]at rp
  obtain⟨v,ws,G1,G2,rfl,rfl,r1,r2⟩:=rp
  refine⟨v,ws,rfl,?_⟩
  have sh1:Shr H0 A0 ρ F G1:=λa ha=>sh a (Zj _ ha)
  have sh2:Shr H0 A0 ρ F G2:=λa ha=>sh a (Zc _ ha)
  refine Qjc is ds ws _ _ _ H G2 Q (rel.Qnj (i:=i) r1 sh1) r2 (sh2.set r1.Qbm) (by simpa using hl) λσ' F' rel' k m=>q σ' F' rel' (λj hj=>?_) λj a ha=>?_
  ·have h1:j≠i:=λz=>hj (by rw[z];exact Zo)
   rw[k j λz=>hj (Ze _ z),Zd (Ne.symm h1)]
  ·rcases m j a ha with z | z
   ·by_cases hj:j=i
    ·rw[if_pos hj]at z;exact .inr (Zj _ z)
    ·rw[if_neg hj]at z;exact .inl z
   ·exact .inr (Zc _ z)
section
variable {X:Cx}{tg:Expr}{pos:Pos}
theorem QwL{i:Nat}{x:Str}(h:PG X (.Name x pos) (Qf5 i)):SG X (.Name x pos) (.nm i):=λH0 A0=>h.mono λv σ H Q ⟨ρ,hs,F,d,G,ρ',rel,rp,sh,e,q⟩=>by
 cases e
 refine q _ _ (rel.Qnj (i:=i) rp sh) (λj hj=>?_) λj a ha=>?_
 ·have:j≠i:=λz=>hj (by simp[Tg.slots,z])
  rw[Zd (Ne.symm this)]
 ·by_cases hj:j=i
  ·rw[if_pos hj]at ha;exact .inr ha
  ·rw[if_neg hj]at ha;exact .inl ha
theorem Qwc{es:List Expr}{k:Nat}{t:TGs}{n:Nat}(hc:X.calm=true)(h:PGs X es t)
  (hn:(assignEach es X.env).length=n) (hst:(assignEach es X.env).findIdx? (·.1)=none):PG X (.Tuple es k pos) (λv σ H Q=>∃a xs,v= .ref a/\SqL X.K H a xs/\xs.length=n/\t xs σ H Q):=by
 intro pins s σ H v u Q I r hw
 obtain⟨a,xs,e1,hq,hl,hw⟩:=hw
 subst e1
 cases r
 obtain⟨its,rv,ht,hz⟩:=I.list hq
 rw[PyProof.Rows.assign_Tuple]
 refine wpAny_bind (wpAny_standAt ?_)
 unfold unpack
 rw[hn,hst,show n=its.toArray.size by simp[← hl,rv.length]]
 refine wpAny_bind (wpAny_holding (PySem.W.kun_itemsOf (I.ok.hd hc) ht.isList λh' hx=>?_))
 have I1:Inv X pins σ H {s with heap:=h'}:=I.kept (t':=s.toks) λb o e=>hx b o (ZS (Zw e)) e
 exact h pins _ σ H xs _ Q I1 (by simpa using rv) hw
theorem Qyo{es:List Expr}{k:Nat}{is:List Nat}(hc:X.calm=true)(h:PGs X es (QkB is))(hn:(assignEach es X.env).length=is.length)(hst:(assignEach es X.env).findIdx? (·.1)=none):SG X (.Tuple es k pos) (.tp is):=λH0 A0=>
 λpins s σ H v u Q I r ⟨ρ,hs,F,d,G,ρ',rel,rp,sh,e,q⟩=>by
  cases d with
  | tup xs=>
   simp only[Qcd]at e
   split at e
   ·rename_i hl
    cases e
    obtain⟨a,vs,rfl,hq,rs⟩:=rp.QbD
    exact Qxg hc h hn hst pins s σ H _ u Q I r ⟨a,vs,rfl,hq,by rw[← rs.length];exact hl,Qjc is xs vs ρ F σ H G Q rel rs sh hl q⟩
   ·cases e
  | lst xs=>
   simp only[Qcd]at e
   split at e
   ·rename_i hl
    cases e
    obtain⟨a,vs,L,rfl,hq,rs,_,eG⟩:=rp.lst_inv
    have sub:∀b∈L,b∈G:=λb hb=>by
     rcases eG with rfl | rfl
     ·exact Ze _ hb
     ·exact hb
    exact Qwc hc h hn hst pins s σ H _ u Q I r ⟨a,vs,rfl,Q5 hq,by rw[← rs.length];exact hl,Qjc is xs vs ρ F σ H L Q rel rs (λb hb=>sh b (sub b hb)) hl λσ' F' rel' k m=>q σ' F' rel' k λj b hb=>(m j b hb).imp id (sub b)⟩
   ·cases e
  | _=>simp only[Qcd]at e;cases e
end
noncomputable def Qfa(cap:List (Option Nat))(ρ:En):En:=cap.map λo=>o.bind λi=>match ρ[i]? with
 | some (some (d,_))=>some (d,d.flat)
 | _=>none
noncomputable def Qqs(cap:List (Option Nat))(ρ:En):List Nat:=cap.filterMap λo=>o.bind λi=>match ρ[i]? with
 | some (some (d,b))=>if b && !d.flat then some i else none
 | _=>none
noncomputable def Qf8(t:Tg)(ft:DT)(fe:DE)(ρc:En)(acc:List D×Bool)(d:D):Option (List D×Bool):=
 (Qcd t d ρc).bind λρ1=>(ft ρ1).bind λc=>if c=true then(fe ρ1).map λr=>(acc.1++[r.d],acc.2 && r.norm.fr)else some acc
noncomputable def QI(fi:DI)(t:Tg)(cap:List (Option Nat))(ft:DT)(fe:DE):DE:=λρ=>(fi ρ).bind λir=>
 (ir.items.foldlM (Qf8 t ft fe (Qfa cap ρ)) ([],true)).map λq=>if q.2=true then⟨.lst q.1,true,[]⟩else⟨.lst q.1,false,ir.M++Qqs cap ρ⟩
def Qdl(ρ:En):Prop:=∀(j:Nat) d,ρ[j]? =some (some (d,true))->d.flat=true
theorem Qdl.set{ρ:En}(h:Qdl ρ)(i:Nat)(d:D):Qdl (ρ.set i (some (d,d.flat))):=λj d' e=>by
 by_cases hj:j=i
 ·subst hj
  have hl:j<ρ.length:=by
   by_cases hl:j<ρ.length
   ·exact hl
   ·rw[Zm (by simp;omega)]at e;cases e
  rw[Zn hl]at e
  have e1:=Option.some.inj (Option.some.inj e)
  have h1:d=d':=congrArg Prod.fst e1
  have h2:d.flat=true:=congrArg Prod.snd e1
  rw[← h1];exact h2
 ·rw[Zd (Ne.symm hj)]at e
  exact h j d' e
theorem Qdl.Qej:∀(is:List Nat) (ds:List D) {ρ:En},Qdl ρ->Qdl (Qej is ds ρ)
 | [],_,_,h=>h
 | _::_,[],_,h=>h
 | i::is,d::ds,_,h=>Qdl.Qej is ds (h.set i d)
theorem Qdl.bind{t:Tg}{d:D}{ρ ρ':En}(h:Qdl ρ)(e:Qcd t d ρ=some ρ'):Qdl ρ':=by
 cases t with
 | nm i=>cases e;exact h.set i d
 | tp is=>
  cases d with
  | tup xs=>
   simp only[Qcd]at e
   split at e
   ·cases e;exact h.Qej is xs
   ·cases e
  | lst xs=>
   simp only[Qcd]at e
   split at e
   ·cases e;exact h.Qej is xs
   ·cases e
  | _=>simp only[Qcd]at e;cases e
theorem QjS(cap:List (Option Nat))(ρ:En):Qdl (Qfa cap ρ):=λj d e=>by
 unfold Qfa at e
 rw[Zl]at e
 cases q:cap[j]? with
 | none=>rw[q]at e;cases e
 | some o=>
  rw[q]at e
  cases o with
  | none=>cases e
  | some i=>
   simp only[Zab,Za,Option.some.injEq]at e
   split at e
   ·have e1:=Option.some.inj e
    have h1:=congrArg Prod.fst e1
    have h2:=congrArg Prod.snd e1
    dsimp only at h1 h2
    rw[← h1];exact h2
   ·cases e
theorem Ql0{cap:List (Option Nat)}{ρ:En}{j:Nat}{d:D}{b:Bool}(e:(Qfa cap ρ)[j]? =some (some (d,b))):∃i b',cap[j]? =some (some i)/\ρ[i]? =some (some (d,b')):=by
 unfold Qfa at e
 rw[Zl]at e
 cases q:cap[j]? with
 | none=>rw[q]at e;cases e
 | some o=>
  rw[q]at e
  cases o with
  | none=>cases e
  | some i=>
   simp only[Zab,Za,Option.some.injEq]at e
   split at e
   ·rename_i d' b' hi
    have e1:=Option.some.inj e
    have h1:d'=d:=congrArg Prod.fst e1
    subst h1
    exact⟨i,b',rfl,hi⟩
   ·cases e
def Qn7(X:Cx)(ifs:List Expr)(f:DT):Prop:=∀H0 A0,PTs X ifs (tVT X.K H0 A0 f)
noncomputable def QR:DT:=λ_=>some true
theorem QtG{X:Cx}:Qn7 X [] QR:=λH0 A0 pins s σ H Q I ⟨ρ,hs,F,b,rel,e,q⟩=>by
 cases e
 exact QwQ pins s σ H Q I (q H (QP.refl _))
theorem QuH{X:Cx}{c:Expr}{f:DT}(h:ST X c f):Qn7 X [c] f:=λH0 A0=>QwK (h H0 A0)
structure QmN (X:Cx) (N':List Str) (scope:Scope) (cap:List (Option Nat)) (tgs:List Nat):Prop where
 len:cap.length=N'.length
 get:∀(j i:Nat),cap[j]? =some (some i)->∃x,N'[j]? =some x/\scope.names.lookup x=some .free/\X.N[i]? =some x/\(X.env.kindOf x=some .cell∨X.env.kindOf x=some .free)
 apart:∀(j i:Nat),cap[j]? =some (some i)->j∉tgs
theorem join_some{α:Type}{o:Option (Option α)}{v:α}(h:o.join=some v):o=some (some v):=by
 cases o with
 | none=>cases h
 | some p=>cases p with
  | none=>cases h
  | some x=>exact h▸rfl
theorem Ql4{X:Cx}{N':List Str}{scope:Scope}{fi:DI}{t:Tg}{cap:List (Option Nat)}{ft:DT}{fe:DE}{H0:Hp}{A0:List Addr}{σ:L2.St}{H:Hp}{Q:VK}(hc:QmN X N' scope cap t.slots):
  tV X.K H0 A0 (QI fi t cap ft fe) σ H Q->QmL (tI X.K H0 A0 fi) (Qkv X N' scope) (tG X.K (λ_=>none) [] t) (tVT X.K (λ_=>none) [] ft) (tV X.K (λ_=>none) [] fe) σ H Q:=λ⟨ρ,hs,F,r,rel,e,q⟩=>by
 obtain⟨ir,e1,e⟩:=bind1 e
 obtain⟨⟨xs,f⟩,ef,e⟩:=Zg.mp e
 subst e
 refine⟨ρ,hs,F,ir,rel,e1,λJ H1 ts s1 wk hts ow hz=>?_⟩
 refine⟨cap.map λo=>o.bind λi=>σ[i]?.join,⟨by simp[hc.len],λj x v hN hv=>?_⟩,λDl hD=>?_⟩
 ·rw[Zl]at hv
  cases qc:cap[j]? with
  | none=>rw[qc]at hv;cases hv
  | some o=>
   rw[qc]at hv
   cases o with
   | none=>cases hv
   | some i=>
    simp only[Zab,Za,Option.some.injEq]at hv
    obtain⟨y,h1,h2,h3,h4⟩:=hc.get j i qc
    rw[hN]at h1;cases h1
    exact⟨h2,i,h3,join_some hv,h4⟩
 generalize hσc:(cap.map λo=>o.bind λi=>σ[i]?.join)=σc
 generalize hρc:Qfa cap ρ=ρc at ef
 have hF0:∃Fc:Nat->List Addr,Fc=λj=>match cap[j]? with
  | some (some i)=>(match ρ[i]? with
   | some (some _)=>F i
   | _=>[])
  | _=>[]:=⟨_,rfl⟩
 obtain⟨Fc,hFc⟩:=hF0
 have rel1:=rel.ext s1
 have relC:∀H2,QP H1 H2->Rel X.K (λ_=>none) [] [] ρc Fc σc H2:=λH2 s2=>by
  refine⟨by rw[← hρc,← hσc];simp[Qfa],λj d b e=>?_,λj d e=>?_,λj d b e a ha=> .inl rfl,λt ht=>(by simp at ht),λb o z=>(by cases z)⟩
  ·rw[← hρc]at e
   obtain⟨i,b',h1,h2⟩:=Ql0 e
   obtain⟨v,h3,h4⟩:=(rel1.ext s2).val i d b' h2
   refine⟨v,?_,?_⟩
   ·rw[← hσc,Zl,h1]
    simp only[Zab,Za,h3,Option.join_some]
   ·rw[hFc];simp only[h1,h2];exact h4
  ·have hf:d.flat=true:=QjS cap ρ j d (by rw[hρc];exact e)
   have:Fc j=[]:=by
    rw[← hρc]at e
    obtain⟨i,b',h1,h2⟩:=Ql0 e
    obtain⟨v,h3,h4⟩:=rel1.val i d b' h2
    rw[hFc];simp only[h1,h2];exact h4.Qbm hf
   rw[this]
   exact⟨(Qdr d hf).symm,Zan,λa ha=>(by simp at ha),λ_ _ _ _ _ a ha=>(by simp at ha),λt ht=>(by simp at ht)⟩
 have shC:∀G,Shr (λ_=>none) [] ρc Fc G:=λG a ha=>⟨.inl rfl,λj d e hj=>by
  have h0:=(relC H1 (QP.refl _)).own j d e
  have hf:d.flat=true:=QjS cap ρ j d (by rw[hρc];exact e)
  have:(Fc j).length=0:=by rw[h0.1,Qdr d hf]
  rw[ZbC this]at hj
  simp at hj⟩
 have hSh:Qdl ρc:=by rw[← hρc];exact QjS cap ρ
 have heldOf:∀H2,QP H1 H2->Qll X.K H2 ts:=λH2 s2 t ht=>(hts t ht).1.same s2
 have oldOf:∀a,((∃t∈ts,a∈t.2.2)∨∃j,a∈Fc j)->(∃vs,H1 a=some (.lst vs))/\(H a=none∨∃(i:Nat) (d:D) (b:Bool),ρ[i]? =some (some (d,b))/\a∈F i/\(b=true->i∈ir.M++Qqs cap ρ)):=λa ha=>by
  rcases ha with⟨t,ht,ha⟩ | ⟨j,ha⟩
  ·refine⟨(hts t ht).1.mem a ha,?_⟩
   rcases(hts t ht).2 a ha with z | ⟨i,d,b,e,m,w⟩
   ·exact .inl z
   ·exact .inr ⟨i,d,b,e,m,λhb=>Zj _ (w hb)⟩
  ·have ha0:=ha
   rw[hFc]at ha
   dsimp only at ha
   split at ha
   ·rename_i i hi
    split at ha
    ·rename_i db hdb
     obtain⟨d,b⟩:=db
     obtain⟨v,h3,h4⟩:=rel1.val i d b hdb
     refine⟨h4.mem a ha,.inr ⟨i,d,b,hdb,ha,λhb=>Zc _ ?_⟩⟩
     unfold Qqs
     refine Zbi.mpr ⟨some i,ZP hi,?_⟩
     simp only[Za,hdb]
     have hnf:d.flat=false:=by
      cases hf:d.flat with
      | false=>rfl
      | true=>rw[h4.Qbm hf]at ha;simp at ha
     rw[hb,hnf];rfl
    ·simp at ha
   ·simp at ha
 have fresh5:∀H2,QP H1 H2->∀a,H2 a=none->H1 a=none:=λH2 s2 a h=>s2.free h
 refine⟨λi m acc H2=>m=ir.items.length-i/\i<=ir.items.length/\QP H1 H2/\H2 Dl=some (.lst acc)/\∃(ys:List D) (g:Bool) (G:List Addr),(ir.items.drop i).foldlM (Qf8 t ft fe ρc) (ys,g)=some (xs,f)/\Rps X.K H2 ys acc G/\ys.length<=i∧
  (∀a∈G,a≠Dl/\(H1 a=none∨(∃t∈ts,a∈t.2.2)∨∃j,a∈Fc j))/\(g=true->G.length=nls ys/\∀a,G.count a<=nw H1 a),⟨ir.items.length,rfl,ZX _,Qa1 hD,Qaj,[],true,[],by simpa using ef,by simp[Rps],Zi _,λa ha=>(by simp at ha),λ_=>⟨rfl,λa=>by simp⟩⟩,?_⟩
 rintro i m acc H2 ⟨rfl,hi,s2,eD,ys,g,G,hfold,rps,hlen,hG,hcnt⟩
 by_cases hlt:i<ir.items.length
 ·refine .inr ⟨wk.go i H2 hlt (heldOf H2 s2),λx H3 hy=>?_⟩
  obtain⟨s3,G0,rp0,hG0⟩:=wk.yld i ir.items[i] H2 x H3 (by simp[hlt]) (heldOf H2 s2) hy
  rw[Zak hlt,ZbW]at hfold
  obtain⟨acc1,hstep,hrest⟩:=bind1 hfold
  unfold Qf8 at hstep
  obtain⟨ρ1,eb,hstep⟩:=bind1 hstep
  obtain⟨c,ec,hstep⟩:=bind1 hstep
  have sh1:Qdl ρ1:=hSh.bind eb
  refine⟨ρc,[],Fc,ir.items[i],G0,ρ1,relC H3 (s2.trans s3),rp0,shC G0,eb,λσ2 F2 rel2 keep mem2=>⟨λj v hv=>?_,ρ1,[],F2,c,rel2,ec,λH5 s5=>?_⟩⟩
  ·have hj:j∉t.slots:=λhj=>by
    rw[← hσc,Zl]at hv
    cases qc:cap[j]? with
    | none=>rw[qc]at hv;cases hv
    | some o=>
     cases o with
     | none=>rw[qc]at hv;cases hv
     | some k=>exact hc.apart j k qc hj
   rw[keep j hj];exact hv
  have s15:QP H1 H5:=(s2.trans s3).trans s5
  have eD5:H5 Dl=some (.lst acc):=s5 _ _ (s3 _ _ eD)
  cases c with
  | false=>
   rw[if_neg Zaz]at hstep
   refine Qt0 ?_
   cases hstep
   exact⟨_,by omega,rfl,hlt,s15,eD5,ys,g,G,hrest,rps.same (s3.trans s5),by omega,hG,hcnt⟩
  | true=>
   rw[if_pos rfl]at hstep
   refine Qul ?_
   obtain⟨rr,er,hstep⟩:=Zg.mp hstep
   subst hstep
   refine⟨ρ1,[],F2,rr,rel2.ext s5,er,λy H6 Ge pe=>?_⟩
   have eD6:H6 Dl=some (.lst acc):=pe.same _ _ eD5
   have s16:=s15.trans pe.same
   refine⟨eD6,?_,_,by omega,rfl,hlt,?_⟩
   ·rw[← rps.length];exact Zap hlen (Zq hlt hz)
   have hGe:∀a∈Ge,a≠Dl/\(H1 a=none∨(∃t∈ts,a∈t.2.2)∨∃j,a∈Fc j):=λa ha=>by
    rcases pe.src a ha with z | ⟨j,d,b,ej,hj,_⟩
    ·exact⟨λw=>(by rw[w,eD5]at z;cases z),.inl (s15.free z)⟩
    ·have h1:(∃t∈ts,a∈t.2.2)∨∃j,a∈Fc j:=by
      rcases mem2 j a hj with w | w
      ·exact .inr ⟨j,w⟩
      ·exact .inl (hG0 a w)
     obtain⟨⟨vs,w⟩,_⟩:=oldOf a h1
     exact⟨λw'=>(by rw[w',hD]at w;cases w),.inr h1⟩
   have nD:Dl∉G:=λh=>(hG _ h).1 rfl
   have nDe:Dl∉Ge:=λh=>(hGe _ h).1 rfl
   have sU:QP H1 (L2.upd H6 Dl (.lst (acc++[y]))):=λb o hb=>by rw[QS (Qb5 hb hD)];exact s16 b o hb
   refine⟨sU,Qaj,ys++[rr.d],g && rr.norm.fr,G++Ge,hrest,?_,by rw[Zr,ZaX];omega,λa ha=>?_,λhg=>?_⟩
   ·refine Rps.append ((rps.same ((s3.trans s5).trans pe.same)).upd eD6 nD) ?_
    simp only[Rps]
    exact⟨y,[],Ge,[],rfl,by simp,pe.rp.upd eD6 nDe,rfl,rfl⟩
   ·rcases ZC.mp ha with h | h
    ·exact hG a h
    ·exact hGe a h
   ·simp only[Zh]at hg
    obtain⟨l1,c1⟩:=hcnt hg.1
    have pn:=pe.norm
    obtain⟨c2,l2⟩:=pn.cnt hg.2
    rw[rr.QcL]at l2
    have nlapp:∀(as bs:List D),nls (as++bs)=nls as+nls bs:=λas bs=>by
     induction as with
     | nil=>simp[nls]
     | cons a as ih=>simp only[Zbx,nls,ih];omega
    refine⟨by rw[Zr,l1,l2,nlapp];simp[nls],λa=>?_⟩
    have fl:((rr.norm.M.map F2).flatten).count a=0:=by
     rw[ZO]
     intro hm
     obtain⟨l,hl,hal⟩:=Zby.mp hm
     obtain⟨j,hj,rfl⟩:=ZT.mp hl
     obtain⟨d,ej⟩:=pn.own j hj
     have hf:=sh1 j d ej
     obtain⟨v,_,rv⟩:=rel2.val j d true ej
     rw[rv.Qbm hf]at hal
     simp at hal
    have h1:=c1 a
    have h2:=c2 a
    rw[fl]at h2
    rw[Zam]
    cases q5:H5 a with
    | some o=>rw[Qdw q5]at h2;omega
    | none=>
     rw[Qbw q5]at h2
     have h0:G.count a=0:=ZO.mpr λhm=>by
      obtain⟨vs,w⟩:=rps.mem a hm
      rw[s5 _ _ (s3 _ _ w)]at q5;cases q5
     rw[Qbw (s15.free q5)]
     omega
 ·have hn:i=ir.items.length:=by omega
  subst hn
  refine .inl ⟨wk.stop H2 (heldOf H2 s2),?_⟩
  rw[List.drop_length]at hfold
  have:(ys,g)=(xs,f):=Option.some.inj hfold
  cases this
  have rp:Rp X.K H2 (.lst xs) (.ref Dl) (Dl::G):=Rp.Qea eD rps (Zx hlen hz)
  have hHD:H Dl=none:=s1.free hD
  split at q
  ·rename_i hg
   have hg:f=true:=hg
   obtain⟨l1,c1⟩:=hcnt hg
   have hn:∀a∈G,H1 a=none:=λa ha=>by
    have:=c1 a
    have h2:0<G.count a:=ZZ.mpr ha
    cases w:H1 a with
    | none=>rfl
    | some o=>rw[Qdw w]at this;omega
   refine q _ H2 (Dl::G) ⟨s1.trans s2,rp,λa ha=>?_,λ_=>⟨λa=>?_,by simp only[D.nl,ZE,l1]⟩,Qbp.nil⟩
   ·rcases Zs.mp ha with rfl | h
    ·exact .inl hHD
    ·exact .inl (s1.free (hn a h))
   ·rw[ZaO]
    have h1:=c1 a
    split
    ·rename_i w
     have w:Dl=a:=by simpa using w
     subst w
     have h0:G.count Dl=0:=ZO.mpr λh=>(hG _ h).1 rfl
     rw[Qbw hHD];omega
    ·cases w:H1 a with
     | none=>rw[Qbw w]at h1;rw[Qbw (s1.free w)];omega
     | some o=>rw[Qdw w]at h1;omega
  ·refine q _ H2 (Dl::G) ⟨s1.trans s2,rp,λa ha=>?_,λz=>(by cases z),?_⟩
   ·rcases Zs.mp ha with rfl | h
    ·exact .inl hHD
    ·rcases(hG a h).2 with z | z
     ·exact .inl (s1.free z)
     ·exact(oldOf a z).2
   ·refine ow.append λi hi=>?_
    unfold Qqs at hi
    obtain⟨o,_,ho⟩:=Zbi.mp hi
    cases o with
    | none=>cases ho
    | some k=>
     simp only[Za]at ho
     split at ho
     ·rename_i d b hk
      split at ho
      ·rename_i hb
       cases ho
       simp only[Zh]at hb
       rw[hb.1]at hk
       exact⟨d,hk⟩
      ·cases ho
     ·cases ho
section
variable {X:Cx}{tg iter elt:Expr}{ifs:List Expr}{scope:Scope}{N':List Str}{pos:Pos}{fi:DI}{t:Tg}{cap:List (Option Nat)}{ft:DT}{fe:DE}
theorem QvR(hcalm:X.calm=true)(S:QeS X N' scope)(hi:SI X tg iter fi)(hcap:QmN X N' scope cap t.slots)
  (hin:∀cl C fp s3 H3,SG (cxc X N' scope cl C fp s3 H3) tg t/\Qn7 (cxc X N' scope cl C fp s3 H3) ifs ft/\SE (cxc X N' scope cl C fp s3 H3) elt fe) (hs:∀x,foldedSetIterable iter X.env x=pure x):
  SE X (.ListComp elt [⟨tg,iter,ifs,0⟩] scope pos) (QI fi t cap ft fe):=λH0 A0=>
 (Qpy hcalm S (hi H0 A0) (λcl C fp s3 H3=>⟨(hin cl C fp s3 H3).1 _ _,(hin cl C fp s3 H3).2.1 _ _,(hin cl C fp s3 H3).2.2 _ _⟩) hs).mono λσ H Q h=>Ql4 hcap h
end
end HS
namespace HS
open PySem PySem.Spec L2
inductive Out where
 | nx (ρ:En)
 | bk (ρ:En)
 | ct (ρ:En)
 | rt (d:D) (fr:Bool)
noncomputable abbrev DS:=En->Option Out
noncomputable def Fits(K:PySem.W.Frag)(H0:Hp)(A0:List Addr)(hs:List (V×D×List Addr))(E:Ends):Out->Prop
 | .nx ρ=>∀σ H F,Rel K H0 A0 hs ρ F σ H->E.nx σ H
 | .bk ρ=>∀σ H F,Rel K H0 A0 hs ρ F σ H->E.bk σ H
 | .ct ρ=>∀σ H F,Rel K H0 A0 hs ρ F σ H->E.ct σ H
 | .rt d fr=>∀v H G,Ret K H0 A0 d fr v H G->E.rt v H
noncomputable def tS(K:PySem.W.Frag)(H0:Hp)(A0:List Addr)(f:DS):TS:=λE σ H=>∃ρ hs F o,Rel K H0 A0 hs ρ F σ H/\f ρ=some o/\Fits K H0 A0 hs E o
def S1(X:Cx)(st:Stmt)(f:DS):Prop:=∀H0 A0,PS X st (tS X.K H0 A0 f)
def SS(X:Cx)(sts:List Stmt)(f:DS):Prop:=∀H0 A0,PSs X sts (tS X.K H0 A0 f)
theorem _root_.L2.PS.mono{X:Cx}{st:Stmt}{t t':TS}(h:PS X st t)(m:∀D σ H,t' D σ H->t D σ H):PS X st t':=λpins s σ H D I q=>h pins s σ H D I (m D σ H q)
theorem _root_.L2.PSs.mono{X:Cx}{st:List Stmt}{t t':TS}(h:PSs X st t)(m:∀D σ H,t' D σ H->t D σ H):PSs X st t':=λpins s σ H D I q=>h pins s σ H D I (m D σ H q)
noncomputable def Qr:DS:=λρ=>some (.nx ρ)
noncomputable def Qe(f g:DS):DS:=λρ=>(f ρ).bind λo=>match o with
 | .nx ρ'=>g ρ'
 | .bk ρ'=>some (.bk ρ')
 | .ct ρ'=>some (.ct ρ')
 | .rt d fr=>some (.rt d fr)
noncomputable def Qqu:DS:=λρ=>some (.bk ρ)
noncomputable def Qqg:DS:=λρ=>some (.ct ρ)
noncomputable def Qs(i:Nat)(fa:DE):DS:=λρ=>(fa ρ).bind λr=>some (.nx (asg i r ρ))
noncomputable def Qao(fa:DE):DE:=λρ=>(fa ρ).map λr=>⟨r.d,false,r.M⟩
noncomputable def QM(fa:DE):DS:=λρ=>(fa ρ).bind λr=>some (.rt r.d (r.norm.fr && decide r.norm.M.Nodup))
noncomputable def Qqq:DS:=λ_=>some (.rt .non true)
noncomputable def QiB(fa:DE):DS:=λρ=>(fa ρ).bind λ_=>some (.nx ρ)
noncomputable def sIf(g:DT)(f1 f2:DS):DS:=λρ=>(g ρ).bind λb=>if b=true then f1 ρ else f2 ρ
noncomputable def QdK(t:Tg)(fb:DS):List D->DS
 | [],ρ=>some (.nx ρ)
 | d::ds,ρ=>(Qcd t d ρ).bind λρ1=>(fb ρ1).bind λo=>match o with
  | .nx ρ2=>QdK t fb ds ρ2
  | .ct ρ2=>QdK t fb ds ρ2
  | .bk ρ2=>some (.nx ρ2)
  | .rt d fr=>some (.rt d fr)
noncomputable def Qbt(fi:DI)(t:Tg)(fb:DS):DS:=λρ=>(fi ρ).bind λir=>QdK t fb ir.items (QaT ir.M ρ)
noncomputable def Qa7(g:DT)(fb:DS):Nat->DS
 | 0,_=>none
 | n+1,ρ=>(g ρ).bind λb=>if b=true then(fb ρ).bind λo=>match o with
  | .nx ρ2=>Qa7 g fb n ρ2
  | .ct ρ2=>Qa7 g fb n ρ2
  | .bk ρ2=>some (.nx ρ2)
  | .rt d fr=>some (.rt d fr)
  else some (.nx ρ)
section
variable {X:Cx}{st:Stmt}{sts:List Stmt}{e:Expr}{fa:DE}{f g:DS}{gc:DT}{pos:Pos}
theorem Qw8:SS X [] Qr:=λH0 A0=>Qvr.mono λE σ H ⟨ρ,hs,F,o,rel,e,q⟩=>by
 cases e
 exact q σ H F rel
theorem Qwn(h1:S1 X st f)(h2:SS X sts g):SS X (st::sts) (Qe f g):=λH0 A0=>(QcF (h1 H0 A0) (h2 H0 A0)).mono λE σ H ⟨ρ,hs,F,o,rel,e,q⟩=>by
 obtain⟨o1,e1,e⟩:=bind1 e
 refine⟨ρ,hs,F,o1,rel,e1,?_⟩
 cases o1 with
 | nx ρ'=>exact λσ' H' F' rel'=>⟨ρ',hs,F',o,rel',e,q⟩
 | bk ρ'=>cases e;exact q
 | ct ρ'=>cases e;exact q
 | rt d fr=>cases e;exact q
theorem QwD:S1 X (.Pass pos) Qr:=λH0 A0=>Qww.mono λE σ H ⟨ρ,hs,F,o,rel,e,q⟩=>by
 cases e
 exact q σ H F rel
theorem Qs1:S1 X (.Break pos) Qqu:=λH0 A0=>QuN.mono λE σ H ⟨ρ,hs,F,o,rel,e,q⟩=>by
 cases e
 exact q σ H F rel
theorem Qvi:S1 X (.Continue pos) Qqg:=λH0 A0=>QoV.mono λE σ H ⟨ρ,hs,F,o,rel,e,q⟩=>by
 cases e
 exact q σ H F rel
theorem QtT(h:SE X e fa):SE X e (Qao fa):=λH0 A0=>(h H0 A0).mono λσ H Q ⟨ρ,hs,F,r,rel,e,q⟩=>by
 obtain⟨r',e1,rfl⟩:=Zg.mp e
 exact⟨ρ,hs,F,r',rel,e1,λv H' G p=>q v H' G ⟨p.same,p.rp,p.src,λz=>(by cases z),p.own⟩⟩
theorem QoG{i:Nat}(h:∀H0 A0,PS X st (QeA (tV X.K H0 A0 fa) (Qf5 i))):S1 X st (Qs i fa):=λH0 A0=>(h H0 A0).mono λE σ H ⟨ρ,hs,F,o,rel,e,q⟩=>by
 obtain⟨r,e1,e⟩:=bind1 e
 cases e
 refine⟨ρ,hs,F,r,rel,e1,λv H' G p=>?_⟩
 obtain⟨F',rel'⟩:=rel.asg (i:=i) p
 exact q _ _ F' rel'
theorem QvT(h:PS X st (QiC (tV X.K H0 A0 fa))):PS X st (tS X.K H0 A0 (QiB fa)):=h.mono λE σ H ⟨ρ,hs,F,o,rel,e,q⟩=>by
 obtain⟨r,e1,e⟩:=bind1 e
 cases e
 exact⟨ρ,hs,F,r,rel,e1,λv H' G p=>q σ H' F (rel.ext p.same)⟩
theorem Rel.ret{K:PySem.W.Frag}{H0 H H':Hp}{A0:List Addr}{hs:List (V×D×List Addr)}{ρ:En}{F:Nat->List Addr}{σ:L2.St}(rel:Rel K H0 A0 hs ρ F σ H){r:R}{v:V}{G:List Addr}(p:Qaa K ρ F H H' r v G):Ret K H0 A0 r.d (r.norm.fr && decide r.norm.M.Nodup) v H' G where
 same:=rel.same.trans p.same
 rp:=p.rp
 src:=λa ha=>by
  rcases p.src a ha with z | ⟨i,d,b,e,m,_⟩
  ·exact .inl (rel.same.free z)
  ·exact rel.src i d b e a m
 cnt:=λh=>by
  simp only[Zh,decide_eq_true_eq]at h
  have p':=p.norm
  obtain⟨h1,h2⟩:=p'.fresh rel h.1 h.2
  have h3:=(p'.cnt h.1).2
  rw[r.QcL]at h3
  exact⟨h1,h3,λa ha=>(h2 a ha).1⟩
theorem Qx3(he:SE X e fa):S1 X (.Return (some e) pos) (QM fa):=λH0 A0=>(QxU (he H0 A0)).mono λE σ H ⟨ρ,hs,F,o,rel,e,q⟩=>by
 obtain⟨r,e1,e⟩:=bind1 e
 cases e
 exact⟨ρ,hs,F,r,rel,e1,λv H' G p=>q v H' G (rel.ret p)⟩
theorem Qv6:S1 X (.Return none pos) Qqq:=λH0 A0=>Qv0.mono λE σ H ⟨ρ,hs,F,o,rel,e,q⟩=>by
 cases e
 exact q .non H [] ⟨rel.same,.Qkf,λa ha=>(by simp at ha),λ_=>⟨Zan,rfl,λa ha=>(by simp at ha)⟩⟩
theorem Qy6{c:Expr}{a b:List Stmt}(hc:ST X c gc)(ha:SS X a f)(hb:SS X b g):S1 X (.If c a b pos) (sIf gc f g):=λH0 A0=>(Qy3 (hc H0 A0) (ha H0 A0) (hb H0 A0)).mono λE σ H ⟨ρ,hs,F,o,rel,e,q⟩=>by
 obtain⟨c,e1,e⟩:=bind1 e
 refine⟨ρ,hs,F,c,rel,e1,λH1 s1=>?_⟩
 cases c with
 | true=>exact Qul ⟨ρ,hs,F,o,rel.ext s1,e,q⟩
 | false=>exact Qt0 ⟨ρ,hs,F,o,rel.ext s1,e,q⟩
theorem Qyu{tg iter:Expr}{body:List Stmt}{fi:DI}{t:Tg}(hp:PassesOwn (model X.prog X.w) X.A X.env X.xe)(hc:X.calm=true)(hi:SI X tg iter fi)(hg:SG X tg t)(hb:SS X body f)(hs:∀x,foldedSetIterable iter X.env x=pure x):
  S1 X (.For tg iter body [] pos) (Qbt fi t f):=λH0 A0=>(QyF hp hc (hi H0 A0) (hg H0 A0) (hb H0 A0) hs).mono λE σ H ⟨ρ,hs,F,o,rel,e,q⟩=>by
 obtain⟨ir,e1,e⟩:=bind1 e
 refine⟨ρ,hs,F,ir,rel,e1,λJ H1 ts s1 wk hts ow hz=>?_⟩
 have rel1:Rel X.K H0 A0 (ts++hs) (QaT ir.M ρ) F σ H1:=((rel.ext s1).weak (Qa3 ir.M ρ)).hold λt ht=>⟨(hts t ht).1,Shr.of rel (hts t ht).2⟩
 refine⟨λi m σ' H'=>m=ir.items.length-i/\i<=ir.items.length/\∃ρi Fi,Rel X.K H0 A0 (ts++hs) ρi Fi σ' H'/\QdK t f (ir.items.drop i) ρi=some o,⟨_,rfl,ZX _,_,F,rel1,by simpa using e⟩,?_⟩
 rintro i m σ' H' ⟨rfl,hi',ρi,Fi,reli,ei⟩
 have held:Qll X.K H' ts:=λt ht=>(reli.held t (Zj _ ht)).1
 by_cases hlt:i<ir.items.length
 ·rw[Zak hlt]at ei
  unfold QdK at ei
  obtain⟨ρ1,eb,ei⟩:=bind1 ei
  obtain⟨o1,eo,ei⟩:=bind1 ei
  refine .inr ⟨wk.go i H' hlt held,λσ2 H2=>∃ρ2 F2,Rel X.K H0 A0 (ts++hs) ρ2 F2 σ2 H2/\QdK t f (ir.items.drop (i+1)) ρ2=some o,λσ2 H2 ⟨ρ2,F2,rel2,e2⟩=>⟨_,by omega,rfl,hlt,ρ2,F2,rel2,e2⟩,λx H2 hy=>?_⟩
  obtain⟨s2,G0,rp0,hG0⟩:=wk.yld i ir.items[i] H' x H2 (by simp[hlt]) held hy
  have shr:Shr H0 A0 ρi Fi G0:=λa ha=>by
   obtain⟨t,ht,hat⟩:=hG0 a ha
   exact⟨(reli.held t (Zj _ ht)).2 a hat,λj d ej hj=>(reli.own j d ej).2.2.2.2 t (Zj _ ht) a hj hat⟩
  refine⟨ρi,ts++hs,Fi,ir.items[i],G0,ρ1,reli.ext s2,rp0,shr,eb,λσ3 F3 rel3 _ _=>⟨ρ1,ts++hs,F3,o1,rel3,eo,?_⟩⟩
  cases o1 with
  | nx ρ2=>exact λσ4 H4 F4 rel4=>⟨ρ2,F4,rel4,ei⟩
  | ct ρ2=>exact λσ4 H4 F4 rel4=>⟨ρ2,F4,rel4,ei⟩
  | bk ρ2=>cases ei;exact λσ4 H4 F4 rel4=>q σ4 H4 F4 rel4.Qse
  | rt d fr=>cases ei;exact q
 ·have hn:i=ir.items.length:=by omega
  subst hn
  rw[List.drop_length]at ei
  cases ei
  exact .inl ⟨wk.stop H' held,q σ' H' Fi reli.Qse⟩
theorem QtA{c:Expr}{body:List Stmt}{n:Nat}(hp:PassesOwn (model X.prog X.w) X.A X.env X.xe)(hc:ST X c gc)(hb:SS X body f):S1 X (.While c body [] pos) (Qa7 gc f n):=λH0 A0=>(Qs2 hp (hc H0 A0) (hb H0 A0)).mono λE σ H ⟨ρ,hs,F,o,rel,e,q⟩=>by
 refine⟨λm σ' H'=>∃ρi Fi,Rel X.K H0 A0 hs ρi Fi σ' H'/\Qa7 gc f m ρi=some o,⟨n,ρ,F,rel,e⟩,?_⟩
 rintro m σ' H' ⟨ρi,Fi,reli,ei⟩
 cases m with
 | zero=>cases ei
 | succ m=>
  unfold Qa7 at ei
  obtain⟨b,eb,ei⟩:=bind1 ei
  refine⟨ρi,hs,Fi,b,reli,eb,λH1 s1=>?_⟩
  cases b with
  | false=>
   rw[if_neg Zaz]at ei
   cases ei
   exact Qt0 (q σ' H1 Fi (reli.ext s1))
  | true=>
   rw[if_pos rfl]at ei
   obtain⟨o1,eo,ei⟩:=bind1 ei
   refine Qul ⟨λσ2 H2=>∃ρ2 F2,Rel X.K H0 A0 hs ρ2 F2 σ2 H2/\Qa7 gc f m ρ2=some o,λσ2 H2 h=>⟨m,ZbT _,h⟩,ρi,hs,Fi,o1,reli.ext s1,eo,?_⟩
   cases o1 with
   | nx ρ2=>exact λσ4 H4 F4 rel4=>⟨ρ2,F4,rel4,ei⟩
   | ct ρ2=>exact λσ4 H4 F4 rel4=>⟨ρ2,F4,rel4,ei⟩
   | bk ρ2=>cases ei;exact λσ4 H4 F4 rel4=>q σ4 H4 F4 rel4
   | rt d fr=>cases ei;exact q
end
end HS
namespace HS
open PySem PySem.Spec L2
section
variable {K:PySem.W.Frag}{H H':Hp}
theorem Rps.split:∀{ds:List D}{vs:List V}{F:List Addr}{j:Nat}{d:D},Rps K H ds vs F->ds[j]? =some d→
  ∃F1 G F2 v,F=F1++(G++F2)/\vs[j]? =some v/\Rps K H (ds.take j) (vs.take j) F1/\Rp K H d v G/\Rps K H (ds.drop (j+1)) (vs.drop (j+1)) F2
 | [],_,_,_,_,_,e=>by simp at e
 | d::ds,_,_,0,_,h,e=>by
  simp only[Rps]at h
  obtain⟨v,ws,F1,F2,rfl,rfl,r,q⟩:=h
  simp at e;subst e
  exact⟨[],F1,F2,v,rfl,by simp,by simp[Rps],r,by simpa using q⟩
 | d::ds,_,_,j+1,_,h,e=>by
  simp only[Rps]at h
  obtain⟨v,ws,F1,F2,rfl,rfl,r,q⟩:=h
  obtain⟨G1,G,G2,v',h1,h2,h3,h4,h5⟩:=Rps.split q (j:=j) (by simpa using e)
  refine⟨F1++G1,G,G2,v',by rw[h1,ZaP],by simpa using h2,?_,h4,by simpa using h5⟩
  simp only[ZbG,Rps]
  exact⟨v,_,F1,G1,rfl,rfl,r,h3⟩
theorem Rps.join{ds:List D}{vs:List V}{F1 G F2:List Addr}{j:Nat}{d:D}{v:V}(h1:Rps K H (ds.take j) (vs.take j) F1)(hd:Rp K H d v G)(h2:Rps K H (ds.drop (j+1)) (vs.drop (j+1)) F2)(hj:j<ds.length)(hv:vs[j]? =some v):
  Rps K H (ds.set j d) vs (F1++(G++F2)):=by
 have e1:ds.set j d=ds.take j++d::ds.drop (j+1):=ZaL .. |>.trans (by rw[if_pos hj])
 have hjv:j<vs.length:=(Zf.mp hv).1
 have hve:vs[j]=v:=(Zf.mp hv).2
 have e2:vs=vs.take j++v::vs.drop (j+1):=by
  rw[← hve,← Zak hjv,Zay]
 rw[e1,e2]
 refine h1.append ?_
 simp only[Rps]
 refine⟨v,_,G,F2,rfl,rfl,hd,h2⟩
theorem Rps.Qvc{ds:List D}{vs:List V}{F1 G F2:List Addr}{j:Nat}{d:D}{v:V}(h1:Rps K H (ds.take j) (vs.take j) F1)(hd:Rp K H d v G)(h2:Rps K H (ds.drop (j+1)) (vs.drop (j+1)) F2)(hj:j<ds.length)(hv:j<vs.length):
  Rps K H (ds.set j d) (vs.set j v) (F1++(G++F2)):=by
 have e1:ds.set j d=ds.take j++d::ds.drop (j+1):=ZaL .. |>.trans (by rw[if_pos hj])
 have e2:vs.set j v=vs.take j++v::vs.drop (j+1):=ZaL .. |>.trans (by rw[if_pos hv])
 rw[e1,e2]
 refine h1.append ?_
 simp only[Rps]
 exact⟨v,_,G,F2,rfl,rfl,hd,h2⟩
noncomputable def Focus(K:PySem.W.Frag)(H:Hp):List Int->D->V->List Addr->D->V->List Addr->Prop
 | [],d,v,F,dm,w,Gm=>dm=d/\w=v/\Gm=F/\Rp K H d v F
 | i::is,d,v,F,dm,w,Gm=>∃(ds:List D) (a:Addr) (vs:List V) (j:Nat) (F1 G F2:List Addr) (d':D) (v':V),v= .ref a/\ixN ds.length i=some j∧
   ((d= .lst ds/\ds.length<=sizeLine/\((F=a::(F1++(G++F2))/\H a=some (.lst vs))∨(F=F1++(G++F2)/\Fix K H a vs)))∨(d= .tup ds/\F=F1++(G++F2)/\SqT K H a vs))∧
   Rps K H (ds.take j) (vs.take j) F1/\Rps K H (ds.drop (j+1)) (vs.drop (j+1)) F2/\ds[j]? =some d'/\vs[j]? =some v'/\ds.length=vs.length/\Focus K H is d' v' G dm w Gm
theorem Focus.same(s:QP H H'):∀{is:List Int}{d:D}{v:V}{F:List Addr}{dm:D}{w:V}{Gm:List Addr},Focus K H is d v F dm w Gm->Focus K H' is d v F dm w Gm
 | [],_,_,_,_,_,_,h=>⟨h.1,h.2.1,h.2.2.1,h.2.2.2.same s⟩
 | i::is,_,_,_,_,_,_,h=>by
  obtain⟨ds,a,vs,j,F1,G,F2,d',v',h1,h2,h3,h4,h5,h6,h7,h8,h9⟩:=h
  refine⟨ds,a,vs,j,F1,G,F2,d',v',h1,h2,?_,h4.same s,h5.same s,h6,h7,h8,h9.same s⟩
  rcases h3 with⟨e,z,q⟩ | ⟨e,eF,q⟩
  ·refine .inl ⟨e,z,?_⟩
   rcases q with⟨eF,q⟩ | ⟨eF,q⟩
   ·exact .inl ⟨eF,s _ _ q⟩
   ·exact .inr ⟨eF,Qnd s q⟩
  ·exact .inr ⟨e,eF,Qoj s q⟩
theorem Focus.rp:∀{is:List Int}{d:D}{v:V}{F:List Addr}{dm:D}{w:V}{Gm:List Addr},Focus K H is d v F dm w Gm->Rp K H dm w Gm
 | [],_,_,_,_,_,_,h=>by
  obtain⟨rfl,rfl,rfl,r⟩:=h
  exact r
 | i::is,_,_,_,_,_,_,h=>by
  obtain⟨ds,a,vs,j,F1,G,F2,d',v',h1,h2,h3,h4,h5,h6,h7,h8,h9⟩:=h
  exact h9.rp
theorem Focus.Qri:∀{is:List Int}{d:D}{v:V}{F:List Addr}{dm:D}{w:V}{Gm:List Addr},Focus K H is d v F dm w Gm->Rp K H d v F
 | [],_,_,_,_,_,_,h=>h.2.2.2
 | i::is,_,_,_,_,_,_,h=>by
  obtain⟨ds,a,vs,j,F1,G,F2,d',v',rfl,h2,h3,h4,h5,h6,h7,h8,h9⟩:=h
  have hjl:j<ds.length:=(Zf.mp h6).1
  have hdj:ds[j]=d':=(Zf.mp h6).2
  have j1:=Rps.join h4 h9.Qri h5 hjl h7
  rw[show ds.set j d'=ds by rw[← hdj];exact List.set_getElem_self hjl]at j1
  rcases h3 with⟨rfl,hz,⟨rfl,q⟩ | ⟨rfl,q⟩⟩ | ⟨rfl,rfl,q⟩
  ·exact Rp.Qea q j1 hz
  ·simp only[Rp]
   exact⟨hz,a,vs,rfl,.inr ⟨q,j1⟩⟩
  ·simp only[Rp]
   exact⟨a,vs,rfl,q,j1⟩
theorem Focus.one{d:D}{v:V}{F:List Addr}{ds:List D}{i:Int}{d':D}(r:Rp K H d v F)(hd:d.items=some ds)(hi:atI ds i=some d'):
  ∃a vs v' G,v= .ref a/\((d= .lst ds/\SqL K H a vs)∨(d= .tup ds/\SqT K H a vs))/\atI vs i=some v'/\Focus K H [i] d v F d' v' G:=by
 unfold atI at hi
 cases hj:ixN ds.length i with
 | none=>rw[hj]at hi;cases hi
 | some j=>
  rw[hj]at hi
  have hdj:ds[j]? =some d':=hi
  have fin:∀(vs:List V) (L:List Addr),Rps K H ds vs L->∃v' G F1 F2,L=F1++(G++F2)/\vs[j]? =some v'/\atI vs i=some v'/\Rps K H (ds.take j) (vs.take j) F1/\Rp K H d' v' G/\Rps K H (ds.drop (j+1)) (vs.drop (j+1)) F2/\ds.length=vs.length:=λvs L rl=>by
   obtain⟨F1,G,F2,v',h1,h2,h3,h4,h5⟩:=rl.split hdj
   refine⟨v',G,F1,F2,h1,h2,?_,h3,h4,h5,rl.length⟩
   unfold atI
   rw[← rl.length,hj]
   exact h2
  cases d with
  | lst xs=>
   cases hd
   simp only[Rp]at r
   obtain⟨hz,a,vs,rfl,⟨L,rfl,q,rl⟩ | ⟨q,rl⟩⟩:=r
   ·obtain⟨v',G,F1,F2,h1,h2,h3,h4,h5,h6,h7⟩:=fin vs L rl
    exact⟨a,vs,v',G,rfl,.inl ⟨rfl,SqL.of q⟩,h3,ds,a,vs,j,F1,G,F2,d',v',rfl,hj,.inl ⟨rfl,hz,.inl ⟨by rw[h1],q⟩⟩,h4,h6,hdj,h2,h7,rfl,rfl,rfl,h5⟩
   ·obtain⟨v',G,F1,F2,h1,h2,h3,h4,h5,h6,h7⟩:=fin vs _ rl
    exact⟨a,vs,v',G,rfl,.inl ⟨rfl,q.sq⟩,h3,ds,a,vs,j,F1,G,F2,d',v',rfl,hj,.inl ⟨rfl,hz,.inr ⟨h1,q⟩⟩,h4,h6,hdj,h2,h7,rfl,rfl,rfl,h5⟩
  | tup xs=>
   cases hd
   obtain⟨a,vs,rfl,q,rl⟩:=r.QbD
   obtain⟨v',G,F1,F2,h1,h2,h3,h4,h5,h6,h7⟩:=fin vs _ rl
   exact⟨a,vs,v',G,rfl,.inr ⟨rfl,q⟩,h3,ds,a,vs,j,F1,G,F2,d',v',rfl,hj,.inr ⟨rfl,h1,q⟩,h4,h6,hdj,h2,h7,rfl,rfl,rfl,h5⟩
  | _=>cases hd
theorem Focus.snoc:∀{is:List Int}{d:D}{v:V}{F:List Addr}{dm:D}{w:V}{Gm:List Addr}{i:Int}{d':D}{v':V}{G:List Addr},Focus K H is d v F dm w Gm->Focus K H [i] dm w Gm d' v' G->Focus K H (is++[i]) d v F d' v' G
 | [],_,_,_,_,_,_,_,_,_,_,h,g=>by
  obtain⟨rfl,rfl,rfl,r⟩:=h
  exact g
 | k::is,_,_,_,_,_,_,_,_,_,_,h,g=>by
  obtain⟨ds,a,vs,j,F1,G,F2,d',v',h1,h2,h3,h4,h5,h6,h7,h8,h9⟩:=h
  exact⟨ds,a,vs,j,F1,G,F2,d',v',h1,h2,h3,h4,h5,h6,h7,h8,h9.snoc g⟩
noncomputable def QaS:D->List Int->Option D
 | d,[]=>some d
 | d,i::is=>(d.items).bind λds=>(atI ds i).bind λd'=>QaS d' is
theorem Qkz:∀{is:List Int}{d:D}{i:Int}{d':D},QaS d (is++[i])=some d'->∃dm ds,QaS d is=some dm/\dm.items=some ds/\atI ds i=some d'
 | [],d,i,d',h=>by
  obtain⟨ds,h1,h⟩:=bind1 h
  obtain⟨d'',h2,h⟩:=bind1 h
  cases h
  exact⟨d,ds,rfl,h1,h2⟩
 | k::is,d,i,d',h=>by
  obtain⟨ds,h1,h⟩:=bind1 h
  obtain⟨d'',h2,h⟩:=bind1 h
  obtain⟨dm,es,h3,h4,h5⟩:=Qkz h
  refine⟨dm,es,?_,h4,h5⟩
  simp only[QaS,h1,h2,Za,h3]
noncomputable def QaR:List Int->D->D->D
 | [],_,new=>new
 | i::is,.lst ds,new=>match ixN ds.length i with
  | some j=> .lst (ds.set j (QaR is (ds.getD j .non) new))
  | none=> .lst ds
 | i::is,.tup ds,new=>match ixN ds.length i with
  | some j=> .tup (ds.set j (QaR is (ds.getD j .non) new))
  | none=> .tup ds
 | _::_,d,_=>d
theorem QiG:∀{ds:List D}{j:Nat}{d e:D},ds[j]? =some d->nls (ds.set j e)+d.nl=nls ds+e.nl
 | [],_,_,_,h=>by simp at h
 | x::ds,0,d,e,h=>by simp at h;subst h;simp only[List.set_cons_zero,nls];omega
 | x::ds,j+1,d,e,h=>by
  have:=QiG (ds:=ds) (j:=j) (e:=e) (by simpa using h)
  simp only[List.set_cons_succ,nls];omega
theorem Qb7:∀(as bs:List D),nls (as++bs)=nls as+nls bs
 | [],bs=>by simp[nls]
 | a::as,bs=>by simp only[Zbx,nls,Qb7 as bs];omega
theorem Focus.mut{p:Addr}{dsm ds':List D}{vs':List V}{G':List Addr}:∀{is:List Int}{d:D}{v:V}{F:List Addr}{Gm:List Addr},Focus K H is d v F (.lst dsm) (.ref p) Gm->F.Nodup->F.length=d.nl→
  ∃vsm Gp,H p=some (.lst vsm)/\Gm=p::Gp/\Rps K H dsm vsm Gp/\Gp.length=nls dsm/\p∈F/\(∀a∈Gp,a∈F)/\p∉Gp∧
   (Rps K (upd H p (.lst vs')) ds' vs' G'->ds'.length<=sizeLine->G'.length=nls ds'→
    ∃F',Rp K (upd H p (.lst vs')) (QaR is d (.lst ds')) v F'/\F'.length=(QaR is d (.lst ds')).nl/\∀a,F'.count a+Gp.count a=F.count a+G'.count a)
 | [],d,v,F,Gm,h,nd,hl=>by
  obtain⟨rfl,rfl,rfl,r⟩:=h
  simp only[Rp]at r
  obtain⟨hz,a,vs,e,h⟩:=r
  cases e
  rcases h with⟨L,rfl,q,rl⟩ | ⟨q,rl⟩
  ·obtain⟨n1,n2⟩:=Zau.mp nd
   have hl':L.length=nls dsm:=by simp only[D.nl,ZE]at hl;omega
   refine⟨vs,L,q,rfl,rl,hl',Zo,λa ha=>Ze _ ha,n1,λr' hz' hl2=>⟨p::G',Rp.Qea Qaj r' hz',?_,λa=>?_⟩⟩
   ·simp only[QaR,D.nl,ZE,hl2]
   ·rw[ZaO,ZaO];omega
  ·have:=rl.QaB
   simp only[D.nl]at hl
   omega
 | i::is,d,v,F,Gm,h,nd,hl=>by
  obtain⟨ds,a,vs,j,F1,G,F2,d',v',rfl,hj,h3,h4,h5,h6,h7,h8,h9⟩:=h
  have hjl:j<ds.length:=(Zf.mp h6).1
  have gd:ds.getD j .non=d':=by rw[ZaI,h6];rfl
  have l1:=h4.QaB
  have l2:=h5.QaB
  have l3:=h9.Qri.QaB
  have nlsplit:nls (ds.take j)+(d'.nl+nls (ds.drop (j+1)))=nls ds:=by
   have e1:ds=ds.take j++d'::ds.drop (j+1):=by
    have:ds[j]=d':=(Zf.mp h6).2
    rw[← this,← Zak hjl,Zay]
   have e2:=congrArg nls e1
   rw[Qb7]at e2
   simp only[nls]at e2
   exact e2.symm
  have core:(F1++(G++F2)).Nodup->(F1++(G++F2)).length=nls ds->_:=λnd' hl'=>by
   simp only[Zr]at hl'
   have hG:G.length=d'.nl:=by omega
   have ndG:G.Nodup:=(Zbp.mp (Zbp.mp nd').2.1).1
   exact(h9.mut (vs':=vs') (ds':=ds') (G':=G') ndG hG)
  have apart:(F1++(G++F2)).Nodup->p∈G->p∉F1/\p∉F2:=λnd' hp=>by
   have n1:=Zbp.mp nd'
   have n2:=Zbp.mp n1.2.1
   exact⟨λh=>n1.2.2 p h p (Zj _ hp) rfl,λh=>n2.2.2 p hp p h rfl⟩
  have cnt:∀(G'' Gp:List Addr),(∀a,G''.count a+Gp.count a=G.count a+G'.count a)->∀a,(F1++(G''++F2)).count a+Gp.count a=(F1++(G++F2)).count a+G'.count a:=λG'' Gp hc a=>by
   have:=hc a
   simp only[Zam];omega
  rcases h3 with⟨rfl,hz,⟨rfl,q⟩ | ⟨rfl,q⟩⟩ | ⟨rfl,rfl,q⟩
  ·
   obtain⟨n1,n2⟩:=Zau.mp nd
   have hl':(F1++(G++F2)).length=nls ds:=by simp only[D.nl,ZE]at hl;omega
   obtain⟨vsm,Gp,e1,e2,e3,e4,e5,e6,e7,e8⟩:=core n2 hl'
   have ap:=apart n2 e5
   have hap:a≠p:=λz=>n1 (by rw[z];exact Zc _ (Zj _ e5))
   refine⟨vsm,Gp,e1,e2,e3,e4,Ze _ (Zc _ (Zj _ e5)),λb hb=>Ze _ (Zc _ (Zj _ (e6 b hb))),e7,λr' hz' hl2=>?_⟩
   obtain⟨G'',f1,f2,f3⟩:=e8 r' hz' hl2
   have j1:=Rps.join (h4.upd (ys:=vs') e1 ap.1) f1 (h5.upd (ys:=vs') e1 ap.2) hjl h7
   refine⟨a::(F1++(G''++F2)),?_,?_,λb=>?_⟩
   ·simp only[QaR,hj,gd]
    exact Rp.Qea (by rw[QS hap];exact q) j1 (by rw[ZR];exact hz)
   ·have:=QiG (ds:=ds) (j:=j) (e:=QaR is d' (.lst ds')) h6
    simp only[QaR,hj,gd,D.nl,ZE,Zr,f2]at hl' ⊢
    omega
   ·have:=cnt G'' Gp f3 b
    rw[ZaO,ZaO];omega
  ·have:(F1++(G++F2)).length<=nls ds:=by simp only[Zr];omega
   simp only[D.nl]at hl
   omega
  ·
   have hl':(F1++(G++F2)).length=nls ds:=by simpa only[D.nl]using hl
   obtain⟨vsm,Gp,e1,e2,e3,e4,e5,e6,e7,e8⟩:=core nd hl'
   have ap:=apart nd e5
   refine⟨vsm,Gp,e1,e2,e3,e4,Zc _ (Zj _ e5),λb hb=>Zc _ (Zj _ (e6 b hb)),e7,λr' hz' hl2=>?_⟩
   obtain⟨G'',f1,f2,f3⟩:=e8 r' hz' hl2
   have j1:=Rps.join (h4.upd (ys:=vs') e1 ap.1) f1 (h5.upd (ys:=vs') e1 ap.2) hjl h7
   refine⟨F1++(G''++F2),?_,?_,cnt G'' Gp f3⟩
   ·simp only[QaR,hj,gd,Rp]
    exact⟨a,vs,rfl,QpE e1 q,j1⟩
   ·have:=QiG (ds:=ds) (j:=j) (e:=QaR is d' (.lst ds')) h6
    simp only[QaR,hj,gd,D.nl,Zr,f2]at hl' ⊢
    omega
end
end HS
namespace HS
open PySem PySem.Spec L2
section
variable {K:PySem.W.Frag}{H0 H H1 H2:Hp}{A0:List Addr}{hs:List (V×D×List Addr)}{ρ:En}{F:Nat->List Addr}{σ:L2.St}
theorem Rel.mut(rel:Rel K H0 A0 hs ρ F σ H){r:R}{vn:V}{Gn:List Addr}(p:Qaa K ρ F H H1 r vn Gn)(hf:r.fr=true)(nd:r.M.Nodup)(s12:QP H1 H2){x:Nat}{d:D}(hx:ρ[x]? =some (some (d,true)))(hxM:x∉r.M){v0:V}(hv0:σ[x]? =some (some v0))
  {dnew:D}{q:Addr}{F':List Addr}{vsm vs':List V}(e1:H2 q=some (.lst vsm)) (e5:q∈F x) (f1:Rp K (upd H2 q (.lst vs')) dnew v0 F') (f2:F'.length=dnew.nl) (cF:∀a,F'.count a<=(F x).count a+Gn.count a):
  ∃F',Rel K H0 A0 hs ((kill r.M ρ).set x (some (dnew,true))) F' σ (upd H2 q (.lst vs')):=by
 obtain⟨ol,on,o0,oap,oh⟩:=rel.own x d hx
 obtain⟨gn,gs⟩:=p.fresh rel hf nd
 have rel2:=(rel.ext p.same).ext s12
 have relk:=rel2.weak (Qdh r.M ρ)
 have apn:∀a∈Gn,a∉F x:=λa ha hax=>by
  rcases(gs a ha).2 with z | ⟨k,d',hk,ek,hak⟩
  ·obtain⟨vs,w⟩:=rel.mem hx hax
   rw[z]at w;cases w
  ·have:k≠x:=λz=>hxM (z▸hk)
   exact oap k d' true this ek a hax hak
 have memF:∀a∈F',a∈F x∨a∈Gn:=λa ha=>by
  have h1:=cF a
  have h2:0<F'.count a:=ZZ.mpr ha
  by_cases h:a∈F x
  ·exact .inl h
  ·rw[ZO.mpr h]at h1
   exact .inr (ZZ.mp (by omega))
 have apart:∀(j:Nat) d' b,j≠x->(kill r.M ρ)[j]? =some (some (d',b))->∀a∈F',a∉F j:=λj d' b hj e a ha haj=>by
  obtain⟨b',e',_⟩:=(Qdh r.M ρ).2 j d' b e
  rcases memF a ha with h | h
  ·exact oap j d' b' hj e' a h haj
  ·rcases(gs a h).2 with z | ⟨k,d'',hk,ek,hak⟩
   ·obtain⟨vs,w⟩:=rel.mem e' haj
    rw[z]at w;cases w
   ·have hjk:j≠k:=λz=>by subst z;exact Qij r.M ρ j d' b hk e
    exact(rel.own k d'' ek).2.2.2.1 j d' b' hjk e' a hak haj
 have apartH:∀t∈hs,∀a∈F',a∉t.2.2:=λt ht a ha hat=>by
  rcases memF a ha with h | h
  ·exact oh t ht a h hat
  ·rcases(gs a h).2 with z | ⟨k,d'',hk,ek,hak⟩
   ·obtain⟨vs,w⟩:=(rel.held t ht).1.mem a hat
    rw[z]at w;cases w
   ·exact(rel.own k d'' ek).2.2.2.2 t ht a hak hat
 have nqj:∀(j:Nat) d' b,j≠x->ρ[j]? =some (some (d',b))->q∉F j:=λj d' b hj e h=>oap j d' b hj e q e5 h
 have nF':F'.Nodup:=Zai.mpr λa=>by
  have h1:=cF a
  have h2:=Zai.mp on a
  have h3:=Zai.mp gn a
  by_cases h:a∈Gn
  ·rw[ZO.mpr (apn a h)]at h1;omega
  ·rw[ZO.mpr h]at h1;omega
 have lt:∀{j:Nat}{z:Option (D×Bool)}{y:D×Bool},((kill r.M ρ).set j z)[j]? =some (some y)->j<(kill r.M ρ).length:=λ{j z y} e=>by
  by_cases hl:j<(kill r.M ρ).length
  ·exact hl
  ·rw[Zm (by simp;omega)]at e;cases e
 refine⟨λj=>if j=x then F' else F j,by simp[relk.len],λj d' b e=>?_,λj d' e=>?_,λj d' b e a ha=>?_,λt ht=>⟨(relk.held t ht).1.upd e1 λh=>oh t ht q e5 h,(relk.held t ht).2⟩,λb o hb=>?_⟩
 ·by_cases hj:j=x
  ·subst hj
   have hl:=lt e
   rw[Zn hl]at e
   cases e
   exact⟨v0,hv0,by rw[if_pos rfl];exact f1⟩
  ·rw[Zd (Ne.symm hj)]at e
   obtain⟨w,h1,h2⟩:=relk.val j d' b e
   obtain⟨b',e',_⟩:=(Qdh r.M ρ).2 j d' b e
   exact⟨w,h1,by rw[if_neg hj];exact h2.upd e1 (nqj j d' b' hj e')⟩
 ·by_cases hj:j=x
  ·subst hj
   have hl:=lt e
   rw[Zn hl]at e
   cases e
   rw[if_pos rfl]
   refine⟨f2,nF',λa ha=>?_,λk d'' b hk ek a ha=>?_,apartH⟩
   ·rcases memF a ha with h | h
    ·exact o0 a h
    ·exact(gs a h).1
   ·rw[Zd (Ne.symm hk)]at ek
    rw[if_neg hk]
    exact apart k d'' b hk ek a ha
  ·rw[Zd (Ne.symm hj)]at e
   obtain⟨h1,h2,h3,h4,h5⟩:=relk.own j d' e
   rw[if_neg hj]
   refine⟨h1,h2,h3,λk d'' b hk ek a ha=>?_,h5⟩
   by_cases hki:k=x
   ·subst hki
    rw[if_pos rfl]
    exact λhG=>apart j d' true hj e a hG ha
   ·rw[Zd (Ne.symm hki)]at ek
    rw[if_neg hki]
    exact h4 k d'' b hk ek a ha
 ·by_cases hj:j=x
  ·subst hj
   rw[if_pos rfl]at ha
   rcases memF a ha with h | h
   ·exact .inl (o0 a h)
   ·exact .inl (gs a h).1
  ·rw[Zd (Ne.symm hj)]at e
   rw[if_neg hj]at ha
   exact relk.src j d' b e a ha
 ·have hbq:b≠q:=λz=>by rw[z,o0 q e5]at hb;cases hb
  rw[QS hbq]
  exact relk.same b o hb
end
noncomputable abbrev DP:=En->Option (List Int)
noncomputable def Q7:DP:=λ_=>some []
noncomputable def Qbs(p:DP)(fb:DE):DP:=λρ=>(p ρ).bind λis=>(fb ρ).bind λr=>match r.d with
 | .int i=>some (is++[i])
 | _=>none
noncomputable def tP(K:PySem.W.Frag)(H0:Hp)(A0:List Addr)(x:Nat)(pf:DP):TE:=λσ H Q=>∃ρ hs F d b is dm,Rel K H0 A0 hs ρ F σ H/\ρ[x]? =some (some (d,b))/\pf ρ=some is/\QaS d is=some dm∧
 ∀v0 v H' Gm,QP H H'->σ[x]? =some (some v0)->Focus K H' is d v0 (F x) dm v Gm->Q v H'
def SPa(X:Cx)(e:Expr)(x:Nat)(pf:DP):Prop:=∀H0 A0,PE X e (tP X.K H0 A0 x pf)
section
variable {X:Cx}{a b e:Expr}{fa fb:DE}{pf:DP}{x:Nat}{pos:Pos}
theorem QdL{y:Str}(h:PE X (.Name y pos) (Qgq x)):SPa X (.Name y pos) x Q7:=λH0 A0=>h.mono λσ H Q ⟨ρ,hs,F,d,b,is,dm,rel,hx,hp,hd,q⟩=>by
 cases hp
 cases hd
 obtain⟨v,h1,h2⟩:=rel.val x d b hx
 exact⟨v,h1,q v v H (F x) (QP.refl _) h1 ⟨rfl,rfl,rfl,h2⟩⟩
theorem QgA(ha:SPa X a x pf)(hb:SE X b fb)(hs:Qiu b):SPa X (.Subscript a b pos) x (Qbs pf fb):=λH0 A0=>
 (Qvf (QpW.or Qrm) (ha H0 A0) (hb H0 A0) hs).mono λσ H Q ⟨ρ,hs,F,d,b',is,dm,rel,hx,hp,hd,q⟩=>by
  obtain⟨is',e1,hp⟩:=bind1 hp
  obtain⟨r,e2,hp⟩:=bind1 hp
  cases hr:r.d with
  | int i=>
   rw[hr]at hp
   cases hp
   obtain⟨dn,ds,g1,g2,g3⟩:=Qkz hd
   refine⟨ρ,hs,F,d,b',is',dn,rel,hx,e1,g1,λv0 w H1 Gm s1 hv fo=>⟨ρ,hs,F,r,rel.ext s1,e2,λu H2 G p2=>?_⟩⟩
   have rp:=p2.rp
   rw[hr]at rp
   rw[rp.int_inv]
   have fo2:=fo.same p2.same
   obtain⟨c,vs,v',G',rfl,hc,h3,h4⟩:=Focus.one fo2.rp g2 g3
   have fin:=q v0 v' H2 G' (s1.trans p2.same) hv (fo2.snoc h4)
   rcases hc with⟨_,hc⟩ | ⟨_,hc⟩
   ·exact .inl ⟨c,vs,i,v',rfl,rfl,hc,h3,fin⟩
   ·exact .inr ⟨c,vs,i,v',rfl,rfl,hc,h3,fin⟩
  | _=>rw[hr]at hp;cases hp
noncomputable def Qbr(x:Nat)(pf:DP)(fi fa:DE):DS:=λρ=>(fa ρ).bind λr0=>match ρ[x]? with
 | some (some (d,true))=>(pf ρ).bind λis=>(fi ρ).bind λri=>match ri.d,QaS d is with
  | .int k,some (.lst ds)=>(ixN ds.length k).bind λj=>if r0.norm.fr && decide r0.norm.M.Nodup && !r0.norm.M.contains x then some (.nx ((kill r0.norm.M ρ).set x (some (QaR is d (.lst (ds.set j r0.d)),true))))else
   if is.isEmpty && !r0.norm.M.contains x then some (.nx ((QaT r0.norm.M ρ).set x (some (.lst (ds.set j r0.d),false))))else
   none
  | _,_=>none
 | _=>none
theorem set_mk{K:PySem.W.Frag}{H2:Hp}{q:Addr}{dsm:List D}{vsm:List V}{Gp Gn:List Addr}{j:Nat}{dn:D}{vn:V}(hq:H2 q=some (.lst vsm))(rs:Rps K H2 dsm vsm Gp)(hl:Gp.length=nls dsm)(nq:q∉Gp)(nqn:q∉Gn)(hn:Rp K H2 dn vn Gn)(hnl:Gn.length=dn.nl)(hj:j<dsm.length):
  ∃G',Rps K (upd H2 q (.lst (vsm.set j vn))) (dsm.set j dn) (vsm.set j vn) G'/\G'.length=nls (dsm.set j dn)/\∀a,G'.count a<=Gp.count a+Gn.count a:=by
 obtain⟨F1,G,F2,v,e1,e2,h1,h2,h3⟩:=rs.split (j:=j) (d:=dsm[j]) (by simp[hj])
 subst e1
 have hjv:j<vsm.length:=by rw[← rs.length];exact hj
 have n1:q∉F1:=λh=>nq (Zj _ h)
 have n2:q∉F2:=λh=>nq (Zc _ (Zc _ h))
 refine⟨F1++(Gn++F2),Rps.Qvc (h1.upd hq n1) (hn.upd hq nqn) (h3.upd hq n2) hj hjv,?_,λa=>?_⟩
 ·have:=QiG (ds:=dsm) (j:=j) (d:=dsm[j]) (e:=dn) (by simp[hj])
  have l1:=h1.QaB
  have l2:=h2.QaB
  have l3:=h3.QaB
  have e1:nls (dsm.take j)+((dsm[j]).nl+nls (dsm.drop (j+1)))=nls dsm:=by
   have e2:=congrArg nls (Zay j dsm)
   rw[Qb7,Zak hj]at e2
   simpa only[nls]using e2
  simp only[Zr]at hl ⊢
  omega
 ·simp only[Zam];omega
theorem Qaa.Qge{K:PySem.W.Frag}{ρ:En}{F:Nat->List Addr}{H H1 H2:Hp}{r:R}{v:V}{G:List Addr}(p:Qaa K ρ F H H1 r v G)(s:QP H1 H2):Qaa K ρ F H H2 r v G:=⟨p.same.trans s,p.rp.same s,p.src,p.cnt,p.own⟩
theorem Qld{K:PySem.W.Frag}{H2:Hp}{q:Addr}{dsm:List D}{vsm:List V}{Gp Gn:List Addr}{j:Nat}{dn:D}{vn:V}(hq:H2 q=some (.lst vsm))(rs:Rps K H2 dsm vsm Gp)(nq:q∉Gp)(nqn:q∉Gn)(hn:Rp K H2 dn vn Gn)(hj:j<dsm.length):
  ∃G',Rps K (upd H2 q (.lst (vsm.set j vn))) (dsm.set j dn) (vsm.set j vn) G'/\∀a∈G',a∈Gp∨a∈Gn:=by
 obtain⟨F1,G,F2,v,e1,e2,h1,h2,h3⟩:=rs.split (j:=j) (d:=dsm[j]) (by simp[hj])
 subst e1
 have hjv:j<vsm.length:=by rw[← rs.length];exact hj
 have n1:q∉F1:=λh=>nq (Zj _ h)
 have n2:q∉F2:=λh=>nq (Zc _ (Zc _ h))
 refine⟨F1++(Gn++F2),Rps.Qvc (h1.upd hq n1) (hn.upd hq nqn) (h3.upd hq n2) hj hjv,λa ha=>?_⟩
 rcases ZC.mp ha with h | h
 ·exact .inl (Zj _ h)
 ·rcases ZC.mp h with h | h
  ·exact .inr h
  ·exact .inl (Zc _ (Zc _ h))
theorem Qi6:∀(M:List Nat) (ρ:En) (x:Nat),x∉M->(QaT M ρ)[x]? =ρ[x]?
 | [],ρ,x,_=>rfl
 | i::M,ρ,x,h=>by
  have hi:i≠x:=λe=>h (e▸Zo)
  unfold QaT
  rw[Qi6 M _ x λe=>h (Ze _ e)]
  split
  ·rw[Zd hi]
  ·rfl
theorem Rel.Qz9{K:PySem.W.Frag}{H0 H:Hp}{A0:List Addr}{hs:List (V×D×List Addr)}{ρ:En}{F:Nat->List Addr}{σ:L2.St}(rel:Rel K H0 A0 hs ρ F σ H){x:Nat}{d:D}(hx:ρ[x]? =some (some (d,true))){Gn:List Addr}(sh:Shr H0 A0 ρ F Gn){v0:V}(hv0:σ[x]? =some (some v0))
  {dnew:D}{q:Addr}{G':List Addr}{vsm vs':List V}(e1:H q=some (.lst vsm)) (e5:q∈F x) (f1:Rp K (upd H q (.lst vs')) dnew v0 G') (mem:∀a∈G',a∈F x∨a∈Gn):
  ∃F',Rel K H0 A0 hs (ρ.set x (some (dnew,false))) F' σ (upd H q (.lst vs')):=by
 obtain⟨ol,on,o0,oap,oh⟩:=rel.own x d hx
 have lt:∀{j:Nat}{z:Option (D×Bool)}{y:D×Bool},(ρ.set j z)[j]? =some (some y)->j<ρ.length:=λ{j z y} e=>by
  by_cases hl:j<ρ.length
  ·exact hl
  ·rw[Zm (by simp;omega)]at e;cases e
 refine⟨λj=>if j=x then G' else F j,by simp[rel.len],λj d' b e=>?_,λj d' e=>?_,λj d' b e a ha=>?_,λt ht=>⟨(rel.held t ht).1.upd e1 λh=>oh t ht q e5 h,(rel.held t ht).2⟩,λb o hb=>?_⟩
 ·by_cases hj:j=x
  ·subst hj
   have hl:=lt e
   rw[Zn hl]at e
   cases e
   exact⟨v0,hv0,by rw[if_pos rfl];exact f1⟩
  ·rw[Zd (Ne.symm hj)]at e
   obtain⟨w,h1,h2⟩:=rel.val j d' b e
   exact⟨w,h1,by rw[if_neg hj];exact h2.upd e1 λh=>oap j d' b hj e q e5 h⟩
 ·by_cases hj:j=x
  ·subst hj
   have hl:=lt e
   rw[Zn hl]at e
   cases e
  ·rw[Zd (Ne.symm hj)]at e
   obtain⟨h1,h2,h3,h4,h5⟩:=rel.own j d' e
   rw[if_neg hj]
   refine⟨h1,h2,h3,λk d'' b hk ek a ha=>?_,h5⟩
   by_cases hki:k=x
   ·subst hki
    rw[if_pos rfl]
    intro hG
    rcases mem a hG with h | h
    ·exact h4 k d true (Ne.symm hj) hx a ha h
    ·exact(sh a h).2 j d' e ha
   ·rw[Zd (Ne.symm hki)]at ek
    rw[if_neg hki]
    exact h4 k d'' b hk ek a ha
 ·by_cases hj:j=x
  ·subst hj
   rw[if_pos rfl]at ha
   rcases mem a ha with h | h
   ·exact .inl (o0 a h)
   ·exact(sh a h).1
  ·rw[Zd (Ne.symm hj)]at e
   rw[if_neg hj]at ha
   exact rel.src j d' b e a ha
 ·have hbq:b≠q:=λz=>by rw[z,o0 q e5]at hb;cases hb
  rw[QS hbq]
  exact rel.same b o hb
theorem Qye{i:Expr}{pos':Pos}{fi:DE}(hv:SE X e fa)(ho:SPa X a x pf)(hi:SE X i fi)
  (h:∀te to ti,PE X e te->PE X a to->PE X i ti->PS X (.Assign [.Subscript a i pos'] e pos) (QeA te (L2.QaJ to ti Qf4))):S1 X (.Assign [.Subscript a i pos'] e pos) (Qbr x pf fi fa):=λH0 A0=>
 (h _ _ _ (hv H0 A0) (ho H0 A0) (hi H0 A0)).mono λE σ H ⟨ρ,hs,F,o,rel,e,q⟩=>by
  obtain⟨r0,e1,e⟩:=bind1 e
  split at e
  ·rename_i d hx
   obtain⟨is,e2,e⟩:=bind1 e
   obtain⟨ri,e3,e⟩:=bind1 e
   split at e
   ·rename_i k ds hk hp
    obtain⟨j,e4,e⟩:=bind1 e
    split at e
    ·rename_i hc
     cases e
     simp only[Zh,decide_eq_true_eq,ZaC]at hc
     obtain⟨⟨c1,c2⟩,c3⟩:=hc
     have c3:x∉r0.norm.M:=λh=>by rw[Zbw.mpr h]at c3;cases c3
     refine⟨ρ,hs,F,r0,rel,e1,λvn H1 Gn p=>⟨ρ,hs,F,d,true,is,.lst ds,rel.ext p.same,hx,e2,hp,λv0 w H2 Gm s2 hv0 fo=>⟨ρ,hs,F,ri,(rel.ext p.same).ext s2,e3,λu H3 Gi pi=>?_⟩⟩⟩
     have p':=(p.norm.Qge s2).Qge pi.same
     have fo3:=fo.same pi.same
     have rpi:=pi.rp
     rw[hk]at rpi
     rw[rpi.int_inv]
     obtain⟨l,ws,L,rfl,_⟩:=fo3.rp.lst_inv
     obtain⟨ol,on,_,oap,_⟩:=rel.own x d hx
     have hjl:=(Qcs e4).2.1
     obtain⟨gn,gs⟩:=p'.fresh rel c1 c2
     have rn:=p'.rp
     rw[r0.QcL]at rn
     have hnl:=(p'.cnt c1).2
     rw[r0.QcL]at hnl
     obtain⟨vsm,_,f1,_⟩:=fo3.mut (vs':=[]) (ds':=[]) (G':=[]) on ol
     obtain⟨_,_,_,_,_,_,zl,_⟩:=fo3.rp.lst_inv
     have key:∃F',Rp X.K (upd H3 l (.lst (vsm.set j vn))) (QaR is d (.lst (ds.set j r0.d))) v0 F'/\F'.length=(QaR is d (.lst (ds.set j r0.d))).nl/\l∈F x/\ds.length=vsm.length/\∀a,F'.count a<=(F x).count a+Gn.count a:=by
      have own5:∀G',_:=λG'=>fo3.mut (vs':=vsm.set j vn) (ds':=ds.set j r0.d) (G':=G') on ol
      obtain⟨vs1,Gp,g1,g2,g3,g4,g5,g6,g7,_⟩:=own5 []
      rw[f1]at g1;cases g1
      have hq:l∉Gn:=λh=>by
       rcases(gs l h).2 with z | ⟨k',d',hk',ek,hak⟩
       ·obtain⟨vs,w⟩:=rel.mem hx g5
        rw[z]at w;cases w
       ·exact oap k' d' true (λz=>c3 (z▸hk')) ek l g5 hak
      obtain⟨G',m1,m2,m3⟩:=set_mk f1 g3 g4 g7 hq rn hnl hjl
      obtain⟨vs2,Gp2,k1,k2,k3,k4,k5,k6,k7,k8⟩:=own5 G'
      have eG:Gp2=Gp:=by rw[g2]at k2;exact(List.cons.inj k2).2.symm
      subst eG
      obtain⟨F',h1,h2,h3⟩:=k8 m1 (by rw[ZR];exact zl) m2
      exact⟨F',h1,h2,g5,g3.length,λa=>by have:=h3 a;have:=m3 a;omega⟩
     obtain⟨F',k1,k2,k3,k4,k5⟩:=key
     refine⟨l,vsm,k,j,rfl,rfl,f1,by rw[← k4];exact e4,?_⟩
     obtain⟨F'',rel'⟩:=rel.mut p' c1 c2 (QP.refl _) hx c3 hv0 f1 k3 k1 k2 k5
     exact q _ _ F'' rel'
    ·
     split at e
     ·rename_i hc
      cases e
      simp only[Zh,ZaC,List.isEmpty_iff]at hc
      obtain⟨rfl,c3⟩:=hc
      have c3:x∉r0.norm.M:=λh=>by rw[Zbw.mpr h]at c3;cases c3
      refine⟨ρ,hs,F,r0,rel,e1,λvn H1 Gn p=>⟨ρ,hs,F,d,true,[],.lst ds,rel.ext p.same,hx,e2,hp,λv0 w H2 Gm s2 hv0 fo=>⟨ρ,hs,F,ri,(rel.ext p.same).ext s2,e3,λu H3 Gi pi=>?_⟩⟩⟩
      have p':=(p.norm.Qge s2).Qge pi.same
      have fo3:=fo.same pi.same
      have rpi:=pi.rp
      rw[hk]at rpi
      rw[rpi.int_inv]
      obtain⟨l,ws,L,rfl,_⟩:=fo3.rp.lst_inv
      obtain⟨ol,on,_,oap,_⟩:=rel.own x d hx
      have hjl:=(Qcs e4).2.1
      have rn:=p'.rp
      rw[r0.QcL]at rn
      obtain⟨vsm,Gp,f1,g2,g3,g4,g5,g6,g7,_⟩:=fo3.mut (vs':=[]) (ds':=[]) (G':=[]) on ol
      obtain⟨_,_,_,_,_,_,zl,_⟩:=fo3.rp.lst_inv
      have sh:=Shr.of rel p'.src
      have relD:=(rel.ext p'.same).weak (Qa3 r0.norm.M ρ)
      have hxD:(QaT r0.norm.M ρ)[x]? =some (some (d,true)):=by rw[Qi6 _ _ _ c3];exact hx
      have hq:l∉Gn:=λh=>(sh l h).2 x d hxD g5
      obtain⟨G',m1,m3⟩:=Qld f1 g3 g7 hq rn hjl
      have e0:v0= .ref l:=(fo3.2.1).symm
      subst e0
      refine⟨l,vsm,k,j,rfl,rfl,f1,by rw[← g3.length];exact e4,?_⟩
      obtain⟨F'',rel'⟩:=relD.Qz9 (dnew:= .lst (ds.set j r0.d)) (G':=l::G') (vs':=vsm.set j vn) hxD sh hv0 f1 g5 (Rp.Qea Qaj m1 (by rw[ZR];exact zl)) λa ha=>by
       rcases Zs.mp ha with h | h
       ·exact .inl (h▸g5)
       ·rcases m3 a h with h | h
        ·exact .inl (g6 a h)
        ·exact .inr h
      exact q _ _ F'' rel'
     ·
      cases e
   ·cases e
  ·cases e
end
end HS
namespace HS
open PySem PySem.Spec L2
section
variable {K:PySem.W.Frag}{H0 H H1 H2 H3:Hp}{A0:List Addr}{hs:List (V×D×List Addr)}{ρ:En}{F:Nat->List Addr}{σ:L2.St}
theorem Rel.write(rel:Rel K H0 A0 hs ρ F σ H){r:R}{vn:V}{Gn:List Addr}(p:Qaa K ρ F H H3 r vn Gn)(hf:r.fr=true)(nd:r.M.Nodup){x:Nat}{d:D}(hx:ρ[x]? =some (some (d,true)))(hxM:x∉r.M){v0 w:V}(hv0:σ[x]? =some (some v0))
  {is:List Int}{ds:List D}{Gm:List Addr}(fo:Focus K H3 is d v0 (F x) (.lst ds) w Gm):
  ∃l vsm Gp,w= .ref l/\H3 l=some (.lst vsm)/\Rps K H3 ds vsm Gp/\Gp.length=nls ds/\l∉Gp/\l∉Gn/\ds.length<=sizeLine∧
   ∀ds' vs' G',Rps K (upd H3 l (.lst vs')) ds' vs' G'->ds'.length<=sizeLine->G'.length=nls ds'->(∀a,G'.count a<=Gp.count a+Gn.count a)→
    ∃F',Rel K H0 A0 hs ((kill r.M ρ).set x (some (QaR is d (.lst ds'),true))) F' σ (upd H3 l (.lst vs')):=by
 obtain⟨l,ws,L,rfl,_,_,zl,_⟩:=fo.rp.lst_inv
 obtain⟨ol,on,_,oap,_⟩:=rel.own x d hx
 obtain⟨gn,gs⟩:=p.fresh rel hf nd
 obtain⟨vsm,Gp,g1,g2,g3,g4,g5,g6,g7,_⟩:=fo.mut (vs':=[]) (ds':=[]) (G':=[]) on ol
 have hq:l∉Gn:=λh=>by
  rcases(gs l h).2 with z | ⟨k',d',hk',ek,hak⟩
  ·obtain⟨vs,w⟩:=rel.mem hx g5
   rw[z]at w;cases w
  ·exact oap k' d' true (λz=>hxM (z▸hk')) ek l g5 hak
 refine⟨l,vsm,Gp,rfl,g1,g3,g4,g7,hq,zl,λds' vs' G' m1 m2 m3 m4=>?_⟩
 obtain⟨vs2,Gp2,k1,k2,k3,k4,k5,k6,k7,k8⟩:=fo.mut (vs':=vs') (ds':=ds') (G':=G') on ol
 have eG:Gp2=Gp:=by rw[g2]at k2;exact(List.cons.inj k2).2.symm
 subst eG
 obtain⟨F',h1,h2,h3⟩:=k8 m1 m2 m3
 exact rel.mut p hf nd (QP.refl _) hx hxM hv0 g1 g5 h1 h2 λa=>by have:=h3 a;have:=m4 a;omega
end
section
variable {X:Cx}{a b e:Expr}{fa fb:DE}{pf:DP}{x:Nat}{pos apos:Pos}
noncomputable def QmO(r:R)(x:Nat):Bool:=r.norm.fr && decide r.norm.M.Nodup && !r.norm.M.contains x
theorem QrE{r:R}{x:Nat}(h:QmO r x=true):r.norm.fr=true/\r.norm.M.Nodup/\x∉r.norm.M:=by
 unfold QmO at h
 simp only[Zh,decide_eq_true_eq,ZaC]at h
 exact⟨h.1.1,h.1.2,λz=>by rw[Zbw.mpr z]at h;cases h.2⟩
noncomputable def QfG(x:Nat)(pf:DP)(fa:DE):DS:=λρ=>match ρ[x]? with
 | some (some (d,true))=>(pf ρ).bind λis=>(fa ρ).bind λr0=>match QaS d is with
  | some (.lst ds)=>if QmO r0 x && decide (ds.length<sizeLine)then some (.nx ((kill r0.norm.M ρ).set x (some (QaR is d (.lst (ds++[r0.d])),true))))else none
  | _=>none
 | _=>none
theorem Qtr{H0:Hp}{A0:List Addr}{E:Ends}{σ:L2.St}{H:Hp}:tS X.K H0 A0 (QfG x pf fa) E σ H->QiC (tBM X.K "list" Qlo (tP X.K H0 A0 x pf) (QcH (tV X.K H0 A0 fa) QfF)) E σ H:=λ⟨ρ,hs,F,o,rel,e,q⟩=>by
 unfold QfG at e
 split at e
 ·rename_i d hx
  obtain⟨is,e2,e⟩:=bind1 e
  obtain⟨r0,e1,e⟩:=bind1 e
  split at e
  ·rename_i ds hp
   split at e
   ·rename_i hc
    simp only[Zh,decide_eq_true_eq]at hc
    obtain⟨c1,c2,c3⟩:=QrE hc.1
    cases e
    refine⟨ρ,hs,F,d,true,is,.lst ds,rel,hx,e2,hp,λv0 w H2 Gm s2 hv0 fo=>?_⟩
    have ty:tyV X.K "list" w H2:=by
     obtain⟨l,ws,L,rfl,hl,_⟩:=fo.rp.lst_inv
     exact .inl ⟨rfl,ws,Q5 hl⟩
    refine⟨ty,ρ,hs,F,r0,rel.ext s2,e1,λvn H3 Gn p=>?_⟩
    have p':=p.norm
    obtain⟨l,vsm,Gp,rfl,g1,g2,g3,g4,g5,g6,g7⟩:=(rel.ext s2).write p' c1 c2 hx c3 hv0 (fo.same p.same)
    refine⟨l,vsm,vn,rfl,rfl,g1,by rw[← g2.length];exact hc.2,?_⟩
    have rn:=p'.rp
    rw[r0.QcL]at rn
    have hnl:=(p'.cnt c1).2
    rw[r0.QcL]at hnl
    have rw1:Rps X.K (upd H3 l (.lst (vsm++[vn]))) [r0.d] [vn] Gn:=by
     simp only[Rps]
     exact⟨vn,[],Gn,[],rfl,by simp,rn.upd g1 g5,rfl,rfl⟩
    obtain⟨F',rel'⟩:=g7 (ds++[r0.d]) (vsm++[vn]) (Gp++Gn) ((g2.upd g1 g4).append rw1) (by rw[Zr,ZaX];omega) (by rw[Zr,Qb7,g3,hnl];simp[nls]) (λa=>by rw[Zam];omega)
    exact q _ _ F' rel'
   ·cases e
  ·cases e
 ·cases e
open PyProof.Rows in
theorem Qst:QxY X (QwX X.K):=by
 intro pins s σ H o i ov iv Q I ro ri h
 obtain⟨p,xs,k,v,rfl,rfl,hq,ha,q⟩:=h
 cases ro
 obtain⟨t,rfl⟩:=ri
 obtain⟨its,r,pl,hz⟩:=I.list hq
 obtain⟨j,h1,h2,h3,h4,h5⟩:=Qk5 ha
 obtain⟨w,ew,rw'⟩:=r.get h2
 have hl:=r.length
 have hn:=QgQ
 by_cases h0:0<=k
 ·refine wpAny_getItem_list pl.isList h0 (by omega) (x:=w) ?_ ⟨v,H,I,rw',q⟩
  have:k.toNat=j:=by
   rw[seqIndex_of h0 h5]at h1
   exact Option.some.inj h1
  rw[this];simpa using ew
 ·refine wpAny_getItem_list_neg pl.isList (by omega) (by rw[Zt]<;>omega) (by omega) (x:=w) ?_ ⟨v,H,I,rw',q⟩
  have hj:(k+(its.toArray.size:Int)).toNat=j:=by
   rw[seqIndex_neg (by omega) h4]at h1
   rw[Zt,← hl]
   exact Option.some.inj h1
  rw[hj];simpa using ew
noncomputable def Qf2(g:D->D->Option D)(x:Nat)(pf:DP)(fi fa:DE):DS:=λρ=>match ρ[x]? with
 | some (some (d,true))=>(pf ρ).bind λis=>(fi ρ).bind λri=>match ri.d,QaS d is with
  | .int k,some (.lst ds)=>(ixN ds.length k).bind λj=>(ds[j]?).bind λold=>(fa ρ).bind λr=>(g old r.d).map λnew=> .nx (ρ.set x (some (QaR is d (.lst (ds.set j new)),true)))
  | _,_=>none
 | _=>none
theorem Qv9{op:Operator}{i:Expr}{pos':Pos}{fi:DE}{g:D->D->Option D}{r:R2}(ho:OpR X (inplaceOp op) r)(hg:Qcm X.K g r)(hv:SE X e fa)(hp:SPa X a x pf)(hi:SE X i fi)
  (ha:∀ov iv new,augStore i ov iv new=(do holding [new,ov,iv] (setItem ov iv new);release [new,ov,iv] [];pure .next)):S1 X (.AugAssign (.Subscript a i pos') op e pos) (Qf2 g x pf fi fa):=λH0 A0=>
 (QvZ (hp H0 A0) (hi H0 A0) Qst (hv H0 A0) (λpins s σ H x y v u Q I rx ry q=>QAr ho I rx ry q) set_list ha).mono λE σ H ⟨ρ,hs,F,o,rel,e,q⟩=>by
  unfold Qf2 at e
  split at e
  ·rename_i d hx
   obtain⟨is,e2,e⟩:=bind1 e
   obtain⟨ri,e3,e⟩:=bind1 e
   split at e
   ·rename_i k ds hk hp'
    obtain⟨j,e4,e⟩:=bind1 e
    obtain⟨old,e5,e⟩:=bind1 e
    obtain⟨rv,e6,e⟩:=bind1 e
    obtain⟨new,e7,e⟩:=Zg.mp e
    subst e
    have hjl:=(Qcs e4).2.1
    refine⟨ρ,hs,F,d,true,is,.lst ds,rel,hx,e2,hp',λv0 w H2 Gm s2 hv0 fo=>⟨ρ,hs,F,ri,rel.ext s2,e3,λu H3 Gi pi=>?_⟩⟩
    have fo3:=fo.same pi.same
    have rpi:=pi.rp
    rw[hk]at rpi
    rw[rpi.int_inv]
    have at3:atI ds k=some old:=by unfold atI;rw[e4];exact e5
    obtain⟨l,vs,v',Go,rfl,hc,h3,h4⟩:=Focus.one fo3.rp rfl at3
    have hc:SqL X.K H3 l vs:=by
     rcases hc with⟨_,hc⟩ | ⟨hc,_⟩
     ·exact hc
     ·cases hc
    refine⟨l,vs,k,v',rfl,rfl,hc,h3,ρ,hs,F,rv,(rel.ext s2).ext pi.same,e6,λy H4 G4 p4=>?_⟩
    have fo4:=fo3.same p4.same
    have ro:=h4.rp.same p4.same
    refine(hg _ _ _ e7).2 H4 v' y Go G4 _ ro p4.rp λz hz=>?_
    have rel4:=((rel.ext s2).ext pi.same).ext p4.same
    have pz:Qaa X.K ρ F H4 H4 ⟨new,true,[]⟩ z []:= .flat (QP.refl _) (hz H4) (hg _ _ _ e7).1
    obtain⟨l',vsm,Gp,el,g1,g2,g3,g4,g5,g6,g7⟩:=rel4.write pz rfl Zan hx (by simp) hv0 fo4
    cases el
    refine⟨l,vsm,k,j,rfl,rfl,g1,by rw[← g2.length];exact e4,?_⟩
    obtain⟨G',m1,m2,m3⟩:=set_mk g1 g2 g3 g4 g5 (hz H4) (Qdr new (hg _ _ _ e7).1).symm hjl
    obtain⟨F',rel'⟩:=g7 _ _ G' m1 (by rw[ZR];exact g6) m2 m3
    exact q _ _ F' rel'
   ·cases e
  ·cases e
end
end HS
namespace HS
open PySem PySem.Spec L2 PyProof.Rows
noncomputable def D.Qu8:D->Option Int
 | .int i=>some i
 | _=>none
noncomputable def QhB:List D->Option (List Int)
 | []=>some []
 | d::ds=>(d.Qu8).bind λi=>(QhB ds).map λr=>i::r
theorem Qib:∀{ds:List D}{ns:List Int},QhB ds=some ns->ds=ns.map .int
 | [],_,h=>by cases h;rfl
 | d::ds,ns,h=>by
  unfold QhB at h
  obtain⟨i,h1,h⟩:=bind1 h
  obtain⟨r,h2,rfl⟩:=Zg.mp h
  cases d with
  | int j=>cases h1;rw[Qib h2];rfl
  | _=>cases h1
theorem Qn6:∀(ns:List Int),QhB (ns.map D.int)=some ns
 | []=>rfl
 | n::ns=>by simp[QhB,Qn6 ns,D.Qu8]
theorem Rps.ints{K:PySem.W.Frag}{H:Hp}:∀{ns:List Int}{vs:List V}{F:List Addr},Rps K H (ns.map .int) vs F->vs=ns.map .int
 | [],_,_,h=>by simp only[List.map_nil,Rps]at h;rw[h.1];rfl
 | n::ns,_,_,h=>by
  simp only[ZM,Rps]at h
  obtain⟨v,ws,F1,F2,rfl,rfl,r,q⟩:=h
  rw[r.int_inv,Rps.ints q];rfl
theorem QeP{ns:List Int}{us:List Value}(h:QC (ns.map V.int) us):IntsAre us ns:=intsAre_of h
section
variable {X:Cx}{a b e:Expr}{es:List Expr}{fa fb:DE}{fs:DA}{pos p2:Pos}
theorem Qkc{us:List Value}{ns:List Int}(hi:IntsAre us ns):∃xs:Array (Int×Tok),us.toArray=intItems xs/\ns=xs.toList.map (·.1):=by
 obtain⟨xs,e⟩:=hi.allInts.items
 exact⟨xs,e,by rw[← hi.numsOf,← nums_intItems,← e]⟩
theorem Qm1{prog:Program}{w:World}{A:Around}{E:Value->Shared->Prop}{s:Shared}{l:Addr}{xs:Array (Int×Tok)}{Q:Value->Shared->Prop}(hh:A.handled=none)(hl:s.heap.IsTuple l (intItems xs))
  (h:∀h' tk t',(∀b o,s.heap.get? b=some o->h'.get? b=some o)->Q (.int (preSum (numAt xs) xs.size) t') {s with heap:=h',toks:=tk}):
  wpAny (model prog w) A (call (.builtin "sum") [.ref l]) Q E s:=by
 have hlt:l<s.heap.objs.size:=by obtain⟨_,e,_⟩:=hl;exact Zw e
 refine call_sum_walkG (wpAny_pyIter_tuple hl ?_)
 refine⟨_,[_,l],[_],_,_,_,numAt xs,rfl,Walks.tuple (A:=A.in1) hh _ l (ZS hlt) (intItems xs),⟨⟨_,ZA _ rfl,rfl,rfl⟩,hl.push _⟩,λb hb=>?_,(λ_ _=>intItems_at),λh' tk t' hk=>?_⟩
 ·show b<(s.heap.push _).objs.size
  rw[Zas]
  rcases Zs.mp hb with rfl | hb
  ·exact ZbT _
  ·rcases Zs.mp hb with rfl | hb
   ·exact Zbn hlt
   ·cases hb
 ·have:=h h' tk t' λb o e=>by
   refine hk b o (λhm=>?_) (Zb _ e)
   rcases Zs.mp hm with e1 | hm
   ·exact absurd (e1▸Zw e) (ZV _)
   ·cases hm
  simpa[intItems]using this
noncomputable def Qyy(K:PySem.W.Frag):List V->Hp->VK->Prop:=λxs H Q=>∃(p:Addr) (ns:List Int),xs=[.ref p]/\(SqL K H p (ns.map V.int)∨SqT K H p (ns.map V.int))/\Q (.int ns.sum) H
theorem QrN(hc:X.calm=true):QdJ X (.builtin "sum") (Qyy X.K):=by
 intro pins s σ H xs us Q I r h
 obtain⟨p,ns,rfl,hq,q⟩:=h
 obtain⟨u,rfl,rx⟩:=vals1 r
 cases rx
 rcases hq with hq | hq
 ·obtain⟨its,r',pl,hz⟩:=I.list hq
  obtain⟨ys,e,hns⟩:=Qkc (QeP r')
  have hl:=pl.isList
  rw[e]at hl
  refine sum_intListG (I.ok.hd hc) hl λh' tk t' hk=>?_
  refine⟨.int ns.sum,H,I.kept hk,⟨t',?_⟩,q⟩
  rw[preSum_eq,Zaa (by simp),hns]
 ·obtain⟨its,r',pl,hz⟩:=I.tuple hq
  obtain⟨ys,e,hns⟩:=Qkc (QeP r')
  have hl:=pl
  rw[e]at hl
  refine Qm1 (I.ok.hd hc) hl λh' tk t' hk=>?_
  refine⟨.int ns.sum,H,I.kept hk,⟨t',?_⟩,q⟩
  rw[preSum_eq,Zaa (by simp),hns]
noncomputable def QiJ:List D->Option D
 | [.lst xs]=>(QhB xs).map λns=> .int ns.sum
 | [.tup xs]=>(QhB xs).map λns=> .int ns.sum
 | _=>none
theorem Qvw{K:PySem.W.Frag}:QgG K QiJ (Qyy K):=λds d e=>by
 unfold QiJ at e
 split at e
 ·obtain⟨ns,h1,rfl⟩:=Zg.mp e
  refine⟨rfl,λH vs F Q r q=>?_⟩
  obtain⟨v,rfl,rp⟩:=r.one
  obtain⟨l,ws,L,rfl,hl,rl,zl,el⟩:=rp.lst_inv
  rw[Qib h1]at rl
  rw[rl.ints]at hl
  exact⟨l,ns,rfl,.inl (Q5 hl),q _ λ_=> .int_mk⟩
 ·obtain⟨ns,h1,rfl⟩:=Zg.mp e
  refine⟨rfl,λH vs F Q r q=>?_⟩
  obtain⟨v,rfl,rp⟩:=r.one
  obtain⟨l,ws,rfl,hl,rl⟩:=rp.QbD
  rw[Qib h1]at rl
  rw[rl.ints]at hl
  exact⟨l,ns,rfl,.inr hl,q _ λ_=> .int_mk⟩
 ·cases e
theorem Qnw:QdJ X (.builtin "divmod") (λxs H Q=>∃i j,xs=[.int i,.int j]/\QbK j=true/\∀p,H p=none->Q (.ref p) (upd H p (.tup [.int (QdD i j),.int (QaX i j)]))):=by
 intro pins s σ H xs us Q I r h
 obtain⟨i,j,rfl,hc,q⟩:=h
 obtain⟨u,w',rfl,⟨t,rfl⟩,⟨t',rfl⟩⟩:=vals2 r
 unfold QbK at hc
 simp only[Zh,decide_eq_true_eq]at hc
 have h0:j.natAbs≠0:=by omega
 refine PyProof.Rows.divmod_int hc.1 ?_ (.inl (Zbg (Zcd ((Zcm h0).mpr hc.2) (by decide))))
 rw[← QiE,← QgV]
 have hn:H s.heap.objs.size=none:=I.hok.fresh (Zi _)
 refine⟨.ref s.heap.objs.size,_,?_,rfl,q _ hn⟩
 refine I.laid (λb o e=>Zb _ e) (Zi _) ⟨by simp only[ZE,List.length_nil];rw[sizeLine_eq];decide,[.int (QdD i j) s.toks,.int (QaX i j) (s.toks+1)],.cons ⟨_,rfl⟩ (.cons ⟨_,rfl⟩ .nil),?_⟩
 exact⟨_,ZA s.heap rfl,rfl,0,rfl⟩
noncomputable def dDm(fs:DA):DE:=λρ=>(fs ρ).bind λr=>match r.ds with
 | [.int i,.int j]=>if QbK j=true then some ⟨.tup [.int (QdD i j),.int (QaX i j)],true,[]⟩else none
 | _=>none
theorem Qzs{x:Str}{p:Pos}(hg:Gl X "divmod")(hm:X.mg "divmod" =none)(ha:SA X (e::es) fs)(he:starEach (e::es) X.env=(false,eval e X.env)::starEach es X.env)(hpl:(backTo pos (starEach es X.env)).any (·.1)=false):
  SE X (.Call (.Name "divmod" p) (e::es) [] pos) (dDm fs):=λH0 A0=>
 (QjL Qnw hg hm PyProof.Rows.boot_divmod (ha H0 A0) (by decide) (by decide) he hpl).mono λσ H Q ⟨ρ,hs,F,r',rel,e,q⟩=>by
  obtain⟨ra,e1,e⟩:=bind1 e
  refine⟨ρ,hs,F,ra,rel,e1,λvs H1 G p1=>?_⟩
  split at e
  ·rename_i i j hds
   split at e
   ·rename_i hc
    cases e
    have rp:=p1.rp
    rw[hds]at rp
    obtain⟨v,w,F1,F2,rfl,r1,r2⟩:=rp.two
    refine⟨i,j,by rw[r1.int_inv,r2.int_inv],hc,λp hp=>q _ _ [] (.flat (p1.same.trans (Qa1 hp)) (Rp.Qfu Qaj ?_) rfl)⟩
    simp only[Rps]
    exact⟨_,_,[],[],rfl,rfl,.int_mk,_,_,[],[],rfl,rfl,.int_mk,rfl,rfl⟩
   ·cases e
  ·cases e
end
end HS
namespace HS
open PySem PySem.Spec L2 PyProof.Rows
theorem Qi3:∀{vs:List V}{us:List Value},us.length=vs.length->(∀(k:Nat) (v:V),vs[k]? =some v->∃u,us[k]? =some u/\RelV v u)->QC vs us
 | [],[],_,_=> .nil
 | [],_::_,h,_=>by simp at h
 | _::_,[],h,_=>by simp at h
 | v::vs,u::us,h,g=>by
  obtain⟨u',e,r⟩:=g 0 v rfl
  cases e
  exact .cons r (Qi3 (by simpa using h) λk v hk=>g (k+1) v hk)
section
variable {X:Cx}{a b c e tg:Expr}{es:List Expr}{fa fb fc:DE}{fs:DA}{pos p2:Pos}
theorem QsC{pins:List (Addr×Obj)}{σ:L2.St}{H:Hp}{s:Shared}{Q:VK}{E:Value->Shared->Prop}{j:Int}{t u v:Tok}{tk:Nat}(I:Inv X pins σ H s)(hc:X.calm=true)(h0:0<=j)(h1:j<=1000000)
  (q:∀l,H l=none->Q (.ref l) (upd H l (.lst ((List.range j.toNat).map λ(k:Nat)=>V.int (k:Int))))):
  wpAny (model X.prog X.w) X.A (call (.type "list") [.ref s.heap.objs.size]) (EP X pins σ Q) E {s with heap:=s.heap.push {cls:= .type "range",data:= .fields #[.int 0 t,.int j u,.int 1 v]},toks:=tk}:=by
 have I2:Inv X pins σ H {s with heap:=s.heap.push {cls:= .type "range",data:= .fields #[.int 0 t,.int j u,.int 1 v]},toks:=tk}:=I.kept λb o e=>Zb _ e
 refine call_list_range (n:=j.toNat) (I.ok.hd hc) (IsRange.new ..) (small_one (by omega) (by omega) (by omega) (by omega)) (by rw[rangeSize_one];split<;>omega) (by omega) λh' tk' acc' c' hk hS hacc=>?_
 have hv:QC ((List.range j.toNat).map λ(k:Nat)=>V.int (k:Int)) acc'.toList:=by
  have hl:=hacc.1
  refine Qi3 (by simp[hl]) λk v hk=>?_
  rw[Zl]at hk
  have hkl:k<j.toNat:=by
   by_cases z:k<j.toNat
   ·exact z
   ·rw[Zm (by simp;omega)]at hk;cases hk
  rw[Zy hkl]at hk
  cases hk
  obtain⟨w,hw⟩:∃w,acc'[k]? =some w:=⟨acc'[k]'(by omega),by rw[Array.getElem?_eq_getElem (by omega)]⟩
  obtain⟨t',rfl⟩:=hacc.2 k w hw
  exact⟨_,by rw[Array.getElem?_toList];exact hw,⟨t',by simp⟩⟩
 refine⟨.ref _,_,I2.laid hk (Zi _) (show QcG X.prog X.w _ h' _ (.lst _)from⟨by simp[QgL];omega,acc'.toList,c',hv,by simpa using hS⟩),rfl,q _ (I2.hok.fresh (Zi _))⟩
theorem Qrb{p p' pos':Pos}{ta:TA}(hg:Gl X "list")(hm:X.mg "list" =none)(hg':Gl X "range")(hm':X.mg "range" =none)(hc:X.calm=true)(ha:PA X [a] ta)(hs:starEach [a] X.env=[(false,eval a X.env)]):
  PE X (.Call (.Name "list" p) [.Call (.Name "range" p') [a] [] pos'] [] pos) (λσ H Q=>ta σ H λvs H1=>∃j:Int,vs=[.int j]/\0<=j/\j<=1000000/\∀l,H1 l=none->Q (.ref l) (upd H1 l (.lst ((List.range j.toNat).map λ(k:Nat)=>V.int (k:Int))))):=by
 intro pins s σ H Q I h
 refine wpAny_Call_Name_kw (Qdg I hg hm boot_list ?_ (by decide) (by decide))
 refine ZN (Calls.spliced_cons ?_) rfl rfl
 refine Call_ (Qdg I hg' hm' boot_range (ZN (thn (ha pos' pins s σ H _ I h) λus s1 ⟨vs,H1,I1,r1,q1⟩=>?_) hs rfl))
 obtain⟨j,e,q1,q2,q⟩:=q1
 subst e
 cases r1 with
 | cons r rr=>
  cases rr
  obtain⟨t,rfl⟩:=r
  exact call_range_1 (Calls.spliced_nil (QsC I1 hc q1 q2 q))
noncomputable def QmM(fa:DE):DE:=λρ=>(fa ρ).bind λr=>match r.d with
 | .int j=>if 0<=j/\j<=1000000 then some ⟨.lst ((List.range j.toNat).map λ(k:Nat)=> .int (k:Int)),true,[]⟩else none
 | _=>none
theorem Rps.ofInts{K:PySem.W.Frag}{H:Hp}:∀ns:List Int,Rps K H (ns.map .int) (ns.map .int) []
 | []=>by simp[Rps]
 | n::ns=>by simp only[ZM,Rps];exact⟨_,_,[],[],rfl,rfl,.int_mk,Rps.ofInts ns⟩
theorem Qsr:∀ns:List Int,QQ (ns.map .int)=true
 | []=>rfl
 | n::ns=>by simp[QQ,D.flat,Qsr ns]
theorem Qwz{p p' pos':Pos}(hg:Gl X "list")(hm:X.mg "list" =none)(hg':Gl X "range")(hm':X.mg "range" =none)(hc:X.calm=true)(ha:SE X a fa)(hs:starEach [a] X.env=[(false,eval a X.env)]):
  SE X (.Call (.Name "list" p) [.Call (.Name "range" p') [a] [] pos'] [] pos) (QmM fa):=λH0 A0=>
 (Qrb hg hm hg' hm' hc (Q9 (ha H0 A0) QbZ hs) hs).mono λσ H Q ⟨ρ,hs,F,r',rel,e,q⟩=>by
  obtain⟨ra,e1,e⟩:=bind1 e
  refine⟨ρ,hs,F,ra,rel,e1,λv H1 G p1=>?_⟩
  cases hd:ra.d with
  | int j=>
   rw[hd]at e
   dsimp only at e
   split at e
   ·rename_i hj
    cases e
    have rp:=p1.rp
    rw[hd]at rp
    refine⟨j,by rw[rp.int_inv],hj.1,hj.2,λl hl=>?_⟩
    have e2:((List.range j.toNat).map λ(k:Nat)=>D.int (k:Int))=((List.range j.toNat).map λ(k:Nat)=>(k:Int)).map D.int:=by rw[Zag];rfl
    have e3:((List.range j.toNat).map λ(k:Nat)=>V.int (k:Int))=((List.range j.toNat).map λ(k:Nat)=>(k:Int)).map V.int:=by rw[Zag];rfl
    have:=Qaa.QaO (M:=[]) (ρ:=ρ) (F:=F) p1.same hl (Rps.ofInts (K:=X.K) (H:=H1) ((List.range j.toNat).map λ(k:Nat)=>(k:Int))) (by simp[QgL];omega) Src.nil Qbp.nil
    rw[← e2,← e3]at this
    unfold QaO at this
    rw[if_pos (by rw[e2];exact Qsr _)]at this
    exact q _ _ _ this
   ·cases e
  | _=>rw[hd]at e;cases e
noncomputable def Itd(hi:Int)(n:Nat):It:=⟨λi _=>i<n,λi H x H'=>H'=H/\x= .int (hi-i),λi _=>n<=i⟩
theorem Qo6{P:Program}{w:World}{K:PySem.W.Frag}{tg:Expr}(it:Addr)(lo:Int)(n:Nat):Turn P w K tg (Itd lo n) [it] it (λi h=>IsRangeIter h it (lo+(i:Nat)*(-1)) ((n:Int)-(i:Nat)) (-1)) where
 mem:=by simp
 obj:=λi h st b hb=>by
  have e:b=it:=by simpa using hb
  subst e
  exact⟨_,st,λv z=>by
   have z':Data.fields _=Data.cell v:=z
   cases z'⟩
 keep:=λi h h' st k=>k it (by simp) _ st
 item:=by
  intro X hP hw hK hc i pins s σ H E I hf st hg
  subst hP hw hK
  obtain⟨f0,f1,f2,f3,f4,f5⟩:=hf it (by simp)
  have W:=Walks.range (prog:=X.prog) (w:=X.w) (I.ok.hd hc) it lo (-1) n
  refine W.item i s _ _ hg st λv h' tk hv st' kk=>?_
  obtain⟨t,rfl⟩:=hv
  have I1:Inv X pins σ H {s with heap:=h',toks:=tk}:=I.turned (λb o hb e=>kk b o (by simpa using hb) e) f0 f1 f3 f4 f5
  refine⟨_,rfl,QmQ (s:={s with heap:=h',toks:=tk}) (n:= "range_iterator") st' rfl rfl (by decide) ⟨.int (lo-i),H,I1,⟨t,?_⟩,⟨rfl,rfl⟩,st',λb hb=>(hf b hb).1⟩⟩
  rw[show lo+(i:Int)* -1=lo-i by omega]
 done:=by
  intro X hP hw hK hc i pins s σ H E I hf st hg
  subst hP hw hK
  obtain⟨f0,f1,f2,f3,f4,f5⟩:=hf it (by simp)
  exact wpAny_pyNext_range_end (I.ok.hd hc) st (by have:n<=i:=hg;omega) λh' eb=>⟨rfl,I.turned (t':=s.toks) (λb o hb e=>eb b o hb e) f0 f1 f3 f4 f5⟩
 self:=λ_ _ _ _ _ st h=>wpAny_pyIter_rangeiter st h
theorem Ql3(lo hi:Int):Builtin.Range.rangeSize lo hi (-1)=if lo>hi then lo-hi else 0:=by
 unfold Builtin.Range.rangeSize
 rw[if_neg (by decide)]
 split
 ·rw[show(- -1:Int)=1 by decide,Int.ediv_one];omega
 ·rfl
theorem small_down{lo hi:Int}(h1: -(2^62)<=lo)(h2:lo<2^62)(h3: -(2^62)<=hi)(h4:hi<2^62):Builtin.Range.small lo hi (-1)=true:=by
 unfold Builtin.Range.small
 rw[Ql3]
 simp only[Builtin.Range.rangeFitsLong,Zh,Zck,decide_eq_true_eq,beq_iff_eq,show ¬((-1:Int)>0) by decide,if_false]
 split<;>omega
theorem QrJ{pins:List (Addr×Obj)}{σ:L2.St}{H:Hp}{s:Shared}{R:It->Hp->Prop}{E:Value->Shared->Prop}{lo hi:Int}{t u v:Tok}{tk:Nat}(I:Inv X pins σ H s)(h1: -(2^62)<=lo)(h2:lo<2^62)(h3: -(2^62)<=hi)(h4:hi<2^62)
  (q:R (Itd lo (lo-hi).toNat) H):wpAny (model X.prog X.w) X.A (pyIter (.ref s.heap.objs.size)) (PIE X pins σ tg R) E {s with heap:=s.heap.push {cls:= .type "range",data:= .fields #[.int lo t,.int hi u,.int (-1) v]},toks:=tk}:=by
 refine wpAny_pyIter_range (IsRange.new ..) (small_down h1 h2 h3 h4) ?_
 have I1:Inv X pins σ H {s with heap:=s.heap.push {cls:= .type "range",data:= .fields #[.int lo t,.int hi u,.int (-1) v]},toks:=tk}:=I.kept λb o e=>Zb _ e
 refine⟨(s.heap.push {cls:= .type "range",data:= .fields #[.int lo t,.int hi u,.int (-1) v]}).objs.size,[(s.heap.push {cls:= .type "range",data:= .fields #[.int lo t,.int hi u,.int (-1) v]}).objs.size],_,_,H,rfl,
  I1.kept (t':=tk) λb o e=>Zb _ e,Qo6 _ lo (lo-hi).toNat,?_,λb hb=>?_,q⟩
 ·have e1:lo+((0:Nat):Int)*(-1)=lo:=by simp
  have e2:(((lo-hi).toNat:Nat):Int)-((0:Nat):Int)=Builtin.Range.rangeSize lo hi (-1):=by rw[Ql3];split<;>omega
  show IsRangeIter _ _ (lo+((0:Nat):Int)*(-1)) ((((lo-hi).toNat:Nat):Int)-((0:Nat):Int)) (-1)
  rw[e1,e2]
  exact ZA _ rfl
 ·have e:b=(s.heap.push {cls:= .type "range",data:= .fields #[.int lo t,.int hi u,.int (-1) v]}).objs.size:=by simpa using hb
  subst e
  exact I1.Qjt (Zi _) (I1.hok.fresh (Zi _))
noncomputable def Qzr(ta:TA):TI:=λσ H R=>ta σ H λvs H1=>∃i j:Int,vs=[.int i,.int j,.int (-1)]/\(-(2^62)<=i/\i<2^62/\ -(2^62)<=j/\j<2^62)/\R (Itd i (i-j).toNat) H1
theorem Qsp{ta:TA}{p pos:Pos}(hg:Gl X "range")(hm:X.mg "range" =none)(ha:PA X [a,b,c] ta)(hs:starEach [a,b,c] X.env=(false,eval a X.env)::starEach [b,c] X.env)(hs2:(backTo pos (starEach [b,c] X.env)).any (·.1)=false):
  PI X tg (.Call (.Name "range" p) [a,b,c] [] pos) (Qzr ta):=by
 intro pins s σ H R I h
 refine Call_ (Qdg I hg hm boot_range (ZN (thn (ha pos pins s σ H _ I h) λus s1 ⟨vs,H1,I1,r1,q1⟩=>?_) hs hs2))
 obtain⟨i,j,e,⟨q1,q2,q3,q4⟩,q⟩:=q1
 subst e
 cases r1 with
 | cons r rr=>
  cases rr with
  | cons r' rr=>
   cases rr with
   | cons r'' rr=>
    cases rr
    obtain⟨t,rfl⟩:=r
    obtain⟨t',rfl⟩:=r'
    obtain⟨t'',rfl⟩:=r''
    exact call_range_3 (by decide) (QrJ I1 q1 q2 q3 q4 q) (.inl (Zbg (by decide+kernel)))
noncomputable def Qk1(hi:Int)(n:Nat):List D:=(List.range n).map λ(k:Nat)=> .int (hi-(k:Int))
theorem QuW{lo:Int}{n i:Nat}{d:D}(h:(Qk1 lo n)[i]? =some d):i<n/\d= .int (lo-i):=by
 unfold Qk1 at h
 rw[Zl]at h
 by_cases hi:i<n
 ·rw[Zy hi]at h;cases h;exact⟨hi,rfl⟩
 ·rw[Zm (by simp;omega)]at h;cases h
noncomputable def QgO(fa fb fc:DE):DI:=λρ=>(fa ρ).bind λr=>(fb ρ).bind λr'=>(fc ρ).bind λr''=>match r.d,r'.d,r''.d with
 | .int i,.int j,.int (-1)=>if i-j<=16777216/\ -(2^62)<=i/\i<2^62/\ -(2^62)<=j/\j<2^62 then some ⟨Qk1 i (i-j).toNat,[]⟩else none
 | _,_,_=>none
theorem Qjj{lo:Int}{n:Nat}:(Qk1 lo n).length=n:=by simp[Qk1]
theorem Qpo{K:PySem.W.Frag}{lo:Int}{n:Nat}:Walk K (Itd lo n) [] (Qk1 lo n) where
 stop:=λH _=>by rw[Qjj];exact Zi _
 go:=λi H hi _=>by rw[Qjj]at hi;exact hi
 yld:=λi d H x H' e _ y=>by
  obtain⟨h1,rfl⟩:=QuW e
  obtain⟨rfl,rfl⟩:=y
  exact⟨QP.refl _,[],.int_mk,λz hz=>by simp at hz⟩
theorem QrB{p:Pos}(hg:Gl X "range")(hm:X.mg "range" =none)(ha:SE X a fa)(hb:SE X b fb)(hc:SE X c fc)(h1:starEach [a,b,c] X.env=(false,eval a X.env)::starEach [b,c] X.env)(h2:starEach [b,c] X.env=(false,eval b X.env)::starEach [c] X.env)(h3:starEach [c] X.env=(false,eval c X.env)::starEach [] X.env):
  SI X tg (.Call (.Name "range" p) [a,b,c] [] pos) (QgO fa fb fc):=λH0 A0=>
 (Qsp hg hm (Q9 (ha H0 A0) (Q9 (hb H0 A0) (Q9 (hc H0 A0) QbZ h3) h2) h1) h1 (by rw[h2,h3];rfl)).mono λσ H Rr ⟨ρ,hs,F,ir,rel,e,q⟩=>by
  obtain⟨r,e1,e⟩:=bind1 e
  obtain⟨r',e2,e⟩:=bind1 e
  obtain⟨r'',e3,e⟩:=bind1 e
  refine⟨ρ,hs,F,r,rel,e1,λv H1 G pp=>⟨ρ,hs,F,r',rel.ext pp.same,e2,λv' H2 G' pp'=>⟨ρ,hs,F,r'',(rel.ext pp.same).ext pp'.same,e3,λv'' H3 G'' pp''=>?_⟩⟩⟩
  split at e
  ·rename_i i j hr hr' hr''
   split at e
   ·rename_i hz
    cases e
    have rp:=(pp.rp.same pp'.same).same pp''.same
    have rp':=pp'.rp.same pp''.same
    have rp'':=pp''.rp
    rw[hr]at rp
    rw[hr']at rp'
    rw[hr'']at rp''
    rw[rp.int_inv,rp'.int_inv,rp''.int_inv]
    refine⟨i,j,rfl,hz.2,q _ H3 [] ((pp.same.trans pp'.same).trans pp''.same) Qpo (λt ht=>by simp at ht) Qbp.nil ?_⟩
    rw[Qjj,QgL];omega
   ·cases e
  ·cases e
noncomputable def Qq3(fs:DA):DE:=λρ=>(fs ρ).bind λr=>match r.ds with
 | [.lst xs]=>if QQ xs=true then some ⟨.tup xs,true,[]⟩else none
 | _=>none
theorem Qwk{p:Pos}(hg:Gl X "tuple")(hm:X.mg "tuple" =none)(ha:SA X (e::es) fs)(he:starEach (e::es) X.env=(false,eval e X.env)::starEach es X.env)(hpl:(backTo pos (starEach es X.env)).any (·.1)=false):
  SE X (.Call (.Name "tuple" p) (e::es) [] pos) (Qq3 fs):=λH0 A0=>
 (Qie QmC hg hm ZbX (ha H0 A0) (by decide) (by decide) he hpl).mono λσ H Q ⟨ρ,hs,F,r',rel,e,q⟩=>by
  obtain⟨ra,e1,e⟩:=bind1 e
  refine⟨ρ,hs,F,ra,rel,e1,λvs H1 G p1=>?_⟩
  split at e
  ·rename_i xs hds
   split at e
   ·rename_i hf
    cases e
    have rp:=p1.rp
    rw[hds]at rp
    obtain⟨v,rfl,rq⟩:=rp.one
    obtain⟨l,ws,L,rfl,hl,rl,zl,el⟩:=rq.lst_inv
    have:=rl.Qbm hf
    subst this
    refine⟨l,ws,rfl,.inl ⟨Q5 hl,λc hc=>q _ _ [] (.flat (p1.same.trans (Qa1 hc)) (Rp.Qfu Qaj (rl.same (Qa1 hc))) (by simp only[D.flat];exact hf))⟩⟩
   ·cases e
  ·cases e
end
end HS
namespace HS
open PySem PySem.Spec PyProof.Rows L2
noncomputable def QfQ(g g':D->D->Option D)(fa fb fc:DE):DT:=λρ=>(fa ρ).bind λra=>(fb ρ).bind λrb=>(g ra.d rb.d).bind λd=>match d with
 | .bl true=>(fc ρ).bind λrc=>(g' rb.d rc.d).bind λd'=>d'.tru
 | .bl false=>some false
 | _=>none
section
variable {X:Cx}{a b c:Expr}{fa fb fc:DE}{pos:Pos}
theorem QuT{op op':CmpOp}{g g':D->D->Option D}{r r':R2}(ho:OpR X (compareOp op) r)(hg:Qcm X.K g r)(hbl:∀a b d,g a b=some d->∃k,d= .bl k)(ho':OpR X (compareOp op') r')(hg':Qcm X.K g' r')(hbl':∀a b d,g' a b=some d->∃k,d= .bl k)(ha:SE X a fa)(hb:SE X b fb)(hc:SE X c fc)(hm:lastMarks [op,op'] [b,c]=false):ST X (.Compare a [op,op'] [b,c] pos) (QfQ g g' fa fb fc):=λH0 A0=>
 (Qt8 ho ho' (ha H0 A0) (hb H0 A0) (hc H0 A0) hm).mono λσ H Q ⟨ρ,hs,F,k,rel,e,q⟩=>by
  obtain⟨ra,ea,e⟩:=bind1 e
  obtain⟨rb,eb,e⟩:=bind1 e
  obtain⟨d,eg,e⟩:=bind1 e
  obtain⟨k1,rfl⟩:=hbl _ _ _ eg
  refine two rel ea eb λx y H1 H2 G1 G2 p1 p2=>(hg _ _ _ eg).2 H2 x y G1 G2 _ (p1.rp.same p2.same) p2.rp λv hv=>⟨k1,(hv H2).QfH,?_⟩
  cases k1 with
  | false=>
   cases e
   rw[if_neg (by decide)]
   exact⟨_,rfl,q H2 (p1.same.trans p2.same)⟩
  | true=>
   obtain⟨rc,ec,e⟩:=bind1 e
   obtain⟨d',eg',e⟩:=bind1 e
   obtain⟨k2,rfl⟩:=hbl' _ _ _ eg'
   cases e
   rw[if_pos rfl]
   exact⟨ρ,hs,F,rc,rel.ext (p1.same.trans p2.same),ec,λw H3 G3 p3=>(hg' _ _ _ eg').2 H3 y w G2 G3 _ (p2.rp.same p3.same) p3.rp λv' hv'=>⟨_,(hv' H3).QfH,q H3 ((p1.same.trans p2.same).trans p3.same)⟩⟩
end
end HS
namespace HS
open PySem PySem.Spec L2
structure FnR where
 n:Nat
 dfl:List D
 den:Den
structure Th where
 N:List Str
 sc:List (Str×NameKind)
 Γ:List (Str×FnR)
 cs:List (Str×Int)
 tr:Stmt->Option DS:=λ_=>none
noncomputable def posOf(x:Str):List Str->Option Nat
 | []=>none
 | y::ys=>if x=y then some 0 else(posOf x ys).map (· +1)
theorem Qgf:∀{x:Str}{ys:List Str}{i:Nat},posOf x ys=some i->ys[i]? =some x
 | x,[],i,h=>by cases h
 | x,y::ys,i,h=>by
  unfold posOf at h
  split at h
  ·rename_i e;cases h;subst e;rfl
  ·obtain⟨j,hj,rfl⟩:=Zg.mp h
   simpa using Qgf hj
noncomputable def look{α:Type}(x:Str):List (Str×α)->Option α
 | []=>none
 | (y,a)::r=>if x=y then some a else look x r
theorem QbR{α:Type}:∀{x:Str}{l:List (Str×α)},look x l=l.lookup x
 | x,[]=>rfl
 | x,(y,a)::r=>by
  unfold look
  rw[Zv]
  by_cases h:x=y
  ·subst h;simp
  ·rw[if_neg h,QbR]
   have:(x == y)=false:=by simpa using h
   rw[this]
noncomputable def Qu5:NameKind->Bool
 | .local =>true | .cell=>true | .free=>true | _=>false
noncomputable def Qve:NameKind->Bool
 | .local =>true | .cell=>true | _=>false
noncomputable def QAe:NameKind->Bool
 | .globalImplicit=>true | _=>false
noncomputable def isFree:NameKind->Bool
 | .free=>true | _=>false
noncomputable def odd(x:Str):Bool:=decide (x= "__debug__") || decide (x= "__classdict__") || decide (x= "__name__")
noncomputable def Th.slot(Θ:Th)(x:Str):Option Nat:=if((look x Θ.sc).map Qu5).getD false && !odd x then posOf x Θ.N else none
noncomputable def Th.QdA(Θ:Th)(x:Str):Option Nat:=if((look x Θ.sc).map Qve).getD false && !odd x then posOf x Θ.N else none
noncomputable def Th.gl(Θ:Th)(x:Str):Bool:=((look x Θ.sc).map QAe).getD false && !odd x
def Qwf(X:Cx)(x:Str)(r:FnR):Prop:=∃k f fd ps,QdE X.prog X.w X.K X.mg X.base CX0 k f fd ps (spV X.K r.n r.den)/\QbH k X.A/\X.mg x=some (.ref f)/\PySem.W.keepIn X.K (.ref f)=true∧
 ∀m,m<=r.dfl.length->∃ds dvs,Binds X.K fd ps ds/\QC dvs ds/\∀H,Rps X.K H (r.dfl.drop (r.dfl.length-m)) dvs []
noncomputable def QnA:List Str:=["range","enumerate","zip","len","list","min","max","sum","abs","isinstance","int","bool","tuple","str","divmod","sorted","any","all"]
structure CtxB (X:Cx) (Θ:Th):Prop where
 N:X.N=Θ.N
 nd:Θ.N.Nodup
 lc:∀x,look x Θ.sc=some .local ->X.env.scope.names.lookup x=some .local
 ce:∀x,look x Θ.sc=some .cell->X.env.scope.names.lookup x=some .cell/\X.fn x=true
 fe:∀x,look x Θ.sc=some .free->X.env.scope.names.lookup x=some .cell∨X.env.scope.names.lookup x=some .free
 gl:∀x,look x Θ.sc=some .globalImplicit->X.env.scope.names.lookup x=some .globalImplicit
 units:X.A.units+64<cLine
 mg:∀x∈QnA,X.mg x=none
 cs:∀x i,look x Θ.cs=some i->∃t,X.mg x=some (.int i t)
structure QaH (X:Cx) (Θ:Th):Prop extends CtxB X Θ where
 calm:X.calm=true
 pass:PassesOwn (model X.prog X.w) X.A X.env X.xe
 fns:∀x r,look x Θ.Γ=some r->Qwf X x r
 tr:∀st f,Θ.tr st=some f->S1 X st f
section
variable {X:Cx}{Θ:Th}
theorem QpZ{x:Str}(h:odd x=false):(x == ("__debug__" :Str))=false/\(x == ("__classdict__" :Str))=false/\x≠ "__name__" :=by
 unfold odd at h
 simp only[Bool.or_eq_false_iff,decide_eq_false_iff_not]at h
 exact⟨by simpa using h.1.1,by simpa using h.1.2,h.2⟩
theorem Qap(ok:CtxB X Θ){x:Str}{i:Nat}{pos:Pos}(h:Θ.slot x=some i):PE X (.Name x pos) (Qgq i):=by
 unfold Th.slot at h
 split at h
 ·rename_i hc
  simp only[Zh,ZaC]at hc
  obtain⟨h1,h2,_⟩:=QpZ hc.2
  refine QxN (by rw[ok.N];exact Qgf h) ?_ h1 h2
  cases q:look x Θ.sc with
  | none=>rw[q]at hc;cases hc.1
  | some k=>
   rw[q]at hc
   cases k with
   | «local» =>exact .inl (ok.lc x q)
   | cell=>exact .inr (.inl (ok.ce x q).1)
   | free=>exact .inr (ok.fe x q)
   | _=>cases hc.1
 ·cases h
theorem Qer(ok:CtxB X Θ){x:Str}{i:Nat}(h:Θ.QdA x=some i):X.N[i]? =some x/\Loc X.env.scope x/\(X.fn x=true∨X.env.scope.names.lookup x=some .local):=by
 unfold Th.QdA at h
 split at h
 ·rename_i hc
  simp only[Zh,ZaC]at hc
  refine⟨by rw[ok.N];exact Qgf h,?_⟩
  cases q:look x Θ.sc with
  | none=>rw[q]at hc;cases hc.1
  | some k=>
   rw[q]at hc
   cases k with
   | «local» =>exact⟨.inl (ok.lc x q),.inr (ok.lc x q)⟩
   | cell=>exact⟨.inr (ok.ce x q).1,.inl (ok.ce x q).2⟩
   | _=>cases hc.1
 ·cases h
theorem Qhi(ok:CtxB X Θ){x:Str}(h:Θ.gl x=true):Gl X x/\(x == ("__debug__" :Str))=false/\x≠ "__name__" :=by
 unfold Th.gl at h
 simp only[Zh,ZaC]at h
 obtain⟨h1,h2,h3⟩:=QpZ h.2
 refine⟨?_,h1,h3⟩
 cases q:look x Θ.sc with
 | none=>rw[q]at h;cases h.1
 | some k=>
  rw[q]at h
  cases k with
  | globalImplicit=>exact ok.gl x q
  | _=>cases h.1
end
noncomputable def isTup:Expr->Bool
 | .Tuple .. =>true
 | _=>false
noncomputable def QrC:Expr->Option Str
 | .Name x _=>some x
 | _=>none
noncomputable def Qgp(Θ:Th):Expr->Option Tg
 | .Name x _=>(Θ.QdA x).map .nm
 | .Tuple es _ _=>((es.mapM QrC).bind λxs=>xs.mapM Θ.QdA).map .tp
 | _=>none
noncomputable def Qia:CmpOp->Option (D->D->Option D)
 | .Eq=>some gEq | .NotEq=>some gNe | .Lt=>some gLt | .LtE=>some gLe | .Gt=>some gGt | .GtE=>some gGe
 | .Is=>none | .IsNot=>none
 | .In=>some (gIn false) | .NotIn=>some (gIn true)
noncomputable def Qua(x:Str):Option String:=
 if x= "int" then some "int" else if x= "bool" then some "bool" else if x= "list" then some "list" else if x= "tuple" then some "tuple" else if x= "str" then some "str" else none
noncomputable def inner(Θ:Th)(scope:Scope):Th:={N:=(scope.names.filter λy=>Qu5 y.2).map (·.1),sc:=scope.names,Γ:=Θ.Γ,cs:=Θ.cs}
noncomputable def Qit(Θ:Th)(scope:Scope):List (Option Nat):=(inner Θ scope).N.map λx=>if((look x scope.names).map isFree).getD false then posOf x Θ.N else none
noncomputable def Qku(Θ:Th)(scope:Scope)(t:Tg):Bool:=(scope.kind == .function) && decide (inner Θ scope).N.Nodup &&
 (scope.names.all λy=>match y.2 with
  | .cell=>decide (look y.1 scope.names=some .cell)
  | .local =>decide (look y.1 scope.names=some .local)
  | .free=>match look y.1 Θ.sc with
   | some .cell=>true
   | some .free=>true
   | _=>false
  | _=>true) &&
 t.slots.all λj=>match (Qit Θ scope)[j]? with
  | some (some _)=>false
  | _=>true
noncomputable def Qje(Θ:Th)(x:Str)(a:Expr):Option Expr:=match a with
 | .Call (.Name y _) [b] [] _=>if x= "list" /\y= "range" /\Θ.gl y=true/\(look y Θ.Γ).isNone=true then some b else none
 | _=>none
noncomputable def Qzx:List Expr->Bool
 | []=>true | [_]=>true | _=>false
noncomputable def bf1(x:Str)(fa:DE):Option DE:=
 if x= "len" then some (dBf Qav (Qc fa Qf))else
 if x= "list" then some (dList (Qc fa Qf))else
 if x= "abs" then some (dBf QnH (Qc fa Qf))else
 if x= "sum" then some (dBf QiJ (Qc fa Qf))else
 if x= "tuple" then some (Qq3 (Qc fa Qf))else
 none
noncomputable def bf2(x:Str)(fa fb:DE):Option DE:=
 if x= "min" then some (dBf Qkb (Qc fa (Qc fb Qf)))else
 if x= "max" then some (dBf QkN (Qc fa (Qc fb Qf)))else
 if x= "divmod" then some (dDm (Qc fa (Qc fb Qf)))else
 none
mutual
noncomputable def Qp(n:Nat)(Θ:Th)(e:Expr):Option DE:=match n with
 | 0=>none
 | n+1=>match e with
  | .Name x _=>match Θ.slot x with
   | some i=>some (Qa i)
   | none=>if Θ.gl x then(look x Θ.cs).map λi=>dC (.int i)else none
  | .Constant (.int i) _ _=>some (dC (.int i))
  | .Constant (.bool b) _ _=>some (dC (.bl b))
  | .Constant .none _ _=>some (dC .non)
  | .Constant (.str x) _ _=>some (dC (.str x))
  | .BinOp a op b _=>(Qp n Θ a).bind λfa=>(Qp n Θ b).bind λfb=>match op with
   | .Add=>some (QJ fa fb)
   | .Mult=>some (Qam fa fb)
   | .Sub=>some (dOp QaJ fa fb)
   | .FloorDiv=>some (dOp Qez fa fb)
   | .Mod=>some (dOp QaV fa fb)
   | .Pow=>some (dOp Qfv fa fb)
   | _=>none
  | .UnaryOp .USub a _=>(Qp n Θ a).map Qq2
  | .UnaryOp .Not a _=>(Qp n Θ a).map Qui
  | .BoolOp .And [a] _=>Qp n Θ a
  | .BoolOp .And (a::b::r) p=>(Qp n Θ a).bind λfa=>(Qp n Θ (.BoolOp .And (b::r) p)).map λfb=>QhM fa fb
  | .BoolOp .Or [a] _=>Qp n Θ a
  | .BoolOp .Or (a::b::r) p=>(Qp n Θ a).bind λfa=>(Qp n Θ (.BoolOp .Or (b::r) p)).map λfb=>dOr fa fb
  | .Compare a [op] [b] _=>(Qp n Θ a).bind λfa=>(Qp n Θ b).bind λfb=>(Qia op).map λg=>dOp g fa fb
  | .IfExp c a b _=>(Qa5 n Θ c).bind λg=>(Qp n Θ a).bind λfa=>(Qp n Θ b).map λfb=>dIf g fa fb
  | .Tuple es _ _=>(Qb1 n Θ es).map Qbb
  | .List es _=>(Qb1 n Θ es).map Qae
  | .Subscript a (.Slice lo hi none _) _=>(Qp n Θ a).bind λfa=>(Qiz n Θ lo).bind λfl=>(Qiz n Θ hi).map λfh=>Qax fa fl fh
  | .Subscript a b _=>(Qp n Θ a).bind λfa=>(Qp n Θ b).map λfb=>Qq fa fb
  | .Call (.Name x _) args [] _=>if Θ.gl x then(match look x Θ.Γ with
    | some r=>if r.n<=args.length+r.dfl.length/\args.length<=r.n then(Qb1 n Θ args).map λfs=>Qn r.n r.den (r.dfl.drop (r.dfl.length-(r.n-args.length))) fs else none
    | none=>Qkr n Θ x args)else none
  | .ListComp elt [⟨tg,iter,ifs,0⟩] scope _=>(Qgp (inner Θ scope) tg).bind λt=>if Qku Θ scope t && Qzx ifs then
    (Qgh n Θ tg iter).bind λfi=>(QfJ n (inner Θ scope) ifs).bind λft=>(Qp n (inner Θ scope) elt).map λfe=>QI fi t (Qit Θ scope) ft fe else none
  | _=>none
noncomputable def Qkr(n:Nat)(Θ:Th)(x:Str)(args:List Expr):Option DE:=match n with
  | 0=>none
  | n+1=>match args with
    | [a]=>match Qje Θ x a with
     | some b=>(Qp n Θ b).map QmM
     | none=>(Qp n Θ a).bind λfa=>bf1 x fa
    | [a,b]=>if x= "isinstance" then(Qp n Θ a).bind λfa=>match b with
        | .Name y _=>if Θ.gl y then(Qua y).map λT=>Qjb T fa else none
        | _=>none
      else(Qp n Θ a).bind λfa=>(Qp n Θ b).bind λfb=>bf2 x fa fb
    | _=>none
noncomputable def Qa5(n:Nat)(Θ:Th)(e:Expr):Option DT:=match n with
 | 0=>none
 | n+1=>match e with
  | .UnaryOp .Not a _=>(Qa5 n Θ a).map Qcy
  | .BoolOp .And [a] _=>Qa5 n Θ a
  | .BoolOp .And (a::b::r) p=>(Qa5 n Θ a).bind λfa=>(Qa5 n Θ (.BoolOp .And (b::r) p)).map λfb=>Qhh fa fb
  | .BoolOp .Or [a] _=>Qa5 n Θ a
  | .BoolOp .Or (a::b::r) p=>(Qa5 n Θ a).bind λfa=>(Qa5 n Θ (.BoolOp .Or (b::r) p)).map λfb=>bOr fa fb
  | .Compare a [op] [b] _=>(Qp n Θ a).bind λfa=>(Qp n Θ b).bind λfb=>(Qia op).map λg=>QN (dOp g fa fb)
  | .Compare a [op,op'] [b,c] _=>(Qp n Θ a).bind λfa=>(Qp n Θ b).bind λfb=>(Qp n Θ c).bind λfc=>(Qia op).bind λg=>(Qia op').map λg'=>QfQ g g' fa fb fc
  | .BoolOp _ _ _=>none
  | .IfExp _ _ _ _=>none
  | .Compare _ _ _ _=>none
  | e=>(Qp n Θ e).map QN
noncomputable def QfJ(n:Nat)(Θ:Th)(es:List Expr):Option DT:=match n with
 | 0=>none
 | n+1=>match es with
  | []=>some QR
  | [c]=>Qa5 n Θ c
  | _=>none
noncomputable def Qb1(n:Nat)(Θ:Th)(es:List Expr):Option DA:=match n with
 | 0=>none
 | n+1=>match es with
  | []=>some Qf
  | e::es=>(Qp n Θ e).bind λfa=>(Qb1 n Θ es).map λfs=>Qc fa fs
noncomputable def Qiz(n:Nat)(Θ:Th)(e:Option Expr):Option DO:=match n with
 | 0=>none
 | n+1=>match e with
  | none=>some Qas
  | some e=>(Qp n Θ e).map QY
noncomputable def Qgh(n:Nat)(Θ:Th)(tg e:Expr):Option DI:=match n with
 | 0=>none
 | n+1=>match e with
  | .Call (.Name x _) args [] _=>if Θ.gl x && (look x Θ.Γ).isNone then(match args with
    | [a]=>if x= "range" then(Qp n Θ a).map Qay else
     if x= "enumerate" then(if isTup tg then(Qp n Θ a).map QgJ else none)else
     (Qp n Θ e).map Q3
    | [a,b,c]=>
     if x= "range" then(Qp n Θ a).bind λfa=>(Qp n Θ b).bind λfb=>(Qp n Θ c).map λfc=>QgO fa fb fc else
     if x= "zip" then(if isTup tg then(Qp n Θ a).bind λfa=>(Qp n Θ b).bind λfb=>(Qp n Θ c).map λfc=>QgE fa fb fc else none)else
     (Qp n Θ e).map Q3
    | [a,b]=>
     if x= "range" then(Qp n Θ a).bind λfa=>(Qp n Θ b).map λfb=>Qeq fa fb else
     if x= "zip" then(if isTup tg then(Qp n Θ a).bind λfa=>(Qp n Θ b).map λfb=>QcD fa fb else none)else
     (Qp n Θ e).map Q3
    | _=>(Qp n Θ e).map Q3)else(Qp n Θ e).map Q3
  | e=>(Qp n Θ e).map Q3
end
end HS
namespace HS
open PySem PySem.Spec L2
theorem Qac{α β γ:Type}{x:Option α}{y:α->Option β}{k:α->β->γ}{r:γ}(e:(x.bind λa=>(y a).map λb=>k a b)=some r):∃a b,x=some a/\y a=some b/\k a b=r:=by
 obtain⟨a,h1,e⟩:=bind1 e
 obtain⟨b,h2,e⟩:=Zg.mp e
 exact⟨a,b,h1,h2,e⟩
theorem Qaw{n:Nat}{Θ:Th}{e:Expr}{f:DE}(h:Qp n Θ e=some f)(es:List Expr)(env:Env):starEach (e::es) env=(false,eval e env)::starEach es env:=by
 cases n with
 | zero=>exact nomatch (show(none:Option DE)=some _ from h)
 | succ n=>cases e<;>first | rfl | (exact nomatch (show(none:Option DE)=some _ from h))
theorem Qpw:∀{n:Nat}{Θ:Th}{es:List Expr}{f:DA},Qb1 n Θ es=some f->∀(pos:Pos) (env:Env),(backTo pos (starEach es env)).any (·.1)=false
 | 0,_,_,_,h,_,_=>by simp[Qb1]at h
 | n+1,_,[],_,h,_,_=>rfl
 | n+1,_,e::es,_,h,pos,env=>by
  simp only[Qb1]at h
  obtain⟨fa,fs,h1,h2,_⟩:=Qac h
  rw[Qaw h1]
  have:=Qpw h2 pos env
  simpa[backTo]using this
theorem QpU{n:Nat}{Θ:Th}{b:Expr}{f:DE}(h:Qp n Θ b=some f):Qiu b:=by
 cases n with
 | zero=>exact nomatch (show(none:Option DE)=some _ from h)
 | succ n=>cases b<;>first | (intro o i;rfl) | (exact nomatch (show(none:Option DE)=some _ from h))
theorem QyD{n:Nat}{Θ:Th}{e:Expr}{f:DE}(h:Qp n Θ e=some f)(env:Env):∀x,foldedSetIterable e env x=pure x:=by
 cases n with
 | zero=>exact nomatch (show(none:Option DE)=some _ from h)
 | succ n=>cases e<;>first | (intro x;rfl) | (exact nomatch (show(none:Option DE)=some _ from h))
theorem Qna{n:Nat}{Θ:Th}{e:Expr}{f:DE}(h:Qp n Θ e=some f)(op:CmpOp):behindInMarks op e=false:=by
 cases n with
 | zero=>exact nomatch (show(none:Option DE)=some _ from h)
 | succ n=>cases e<;>first | rfl | (exact nomatch (show(none:Option DE)=some _ from h))
theorem Qel{env:Env}:∀{names:List (Str×NameKind)}{x:Str},names.lookup x=some .cell→
  (names.map λ(n,k)=>if(k == NameKind.free && env.scope.kind == .function && env.kindOf n == some .cell)then(n,NameKind.cell)else(n,k)).lookup x=some .cell
 | [],_,h=>by simp at h
 | (n,k)::r,x,h=>by
  have ih:= @Qel env r x
  rw[ZM]
  cases hx:x == n with
  | true=>
   simp only[Zv,hx]at h
   cases h
   dsimp only
   split<;>simp[Zv,hx]
  | false=>
   simp only[Zv,hx]at h
   dsimp only
   split<;>(simp only[Zv,hx];exact ih h)
theorem Qof{X:Cx}{Θ:Th}{scope:Scope}{t:Tg}(ok:QaH X Θ)(h:Qku Θ scope t=true):QeS X (inner Θ scope).N scope/\QmN X (inner Θ scope).N scope (Qit Θ scope) t.slots/\∀cl C fp s3 H3,QaH (cxc X (inner Θ scope).N scope cl C fp s3 H3) (inner Θ scope):=by
 unfold Qku at h
 simp only[Zh,decide_eq_true_eq]at h
 obtain⟨⟨⟨h1,h2⟩,h3⟩,h4⟩:=h
 have hk:scope.kind= .function:=by simpa using h1
 have each:∀y∈scope.names,(y.2= .cell->scope.names.lookup y.1=some .cell)/\(y.2= .local ->scope.names.lookup y.1=some .local)/\(y.2= .free->X.env.kindOf y.1=some .cell∨X.env.kindOf y.1=some .free):=λy hy=>by
  have:=Zaq.mp h3 y hy
  obtain⟨y,k⟩:=y
  cases k with
  | cell=>exact⟨λ_=>(by rw[← QbR];simpa using this),λz=>(by cases z),λz=>(by cases z)⟩
  | «local» =>exact⟨λz=>(by cases z),λ_=>by rw[← QbR];simpa using this,λz=>by cases z⟩
  | free=>
   refine⟨λz=>(by cases z),λz=>(by cases z),λ_=>?_⟩
   dsimp only at this
   split at this
   ·rename_i q;exact .inl (ok.ce _ q).1
   ·rename_i q;exact ok.fe _ q
   ·cases this
  | _=>exact⟨λz=>(by cases z),λz=>(by cases z),λz=>(by cases z)⟩
 have S:QeS X (inner Θ scope).N scope:=⟨hk,λy hy=>(each y hy).1,λy hy=>(each y hy).2.1,λy hy=>(each y hy).2.2⟩
 refine⟨S,⟨by unfold Qit;simp,λj i e=>?_,λj i e hj=>?_⟩,λcl C fp s3 H3=>⟨⟨rfl,h2,λx e=>?_,λx e=>?_,λx e=>?_,λx e=>?_,ok.units,ok.mg,ok.cs⟩,ok.calm,PassesOwn.never,ok.fns,λ_ _ e=>nomatch e⟩⟩
 ·unfold Qit at e
  rw[Zl]at e
  cases q:(inner Θ scope).N[j]? with
  | none=>rw[q]at e;cases e
  | some x=>
   rw[q]at e
   simp only[Zab,Option.some.injEq]at e
   split at e
   ·rename_i hf
    cases hl:look x scope.names with
    | none=>rw[hl]at hf;cases hf
    | some k=>
     rw[hl]at hf
     cases k with
     | free=>
      rw[QbR]at hl
      exact⟨x,rfl,hl,by rw[ok.N];exact Qgf e,(each (x,.free) (Zae hl)).2.2 rfl⟩
     | _=>cases hf
   ·cases e
 ·have:=Zaq.mp h4 j hj
  rw[e]at this
  cases this
 ·have e':scope.names.lookup x=some .local :=by rw[← QbR];exact e
  exact lookup_relabel_local e'
 ·have e':scope.names.lookup x=some .cell:=by rw[← QbR];exact e
  exact⟨Qel e',decide_eq_true e'⟩
 ·have e':scope.names.lookup x=some .free:=by rw[← QbR];exact e
  exact Qc8 e'
 ·have e':scope.names.lookup x=some .globalImplicit:=by rw[← QbR];exact e
  show(relabel scope X.env).names.lookup x=some .globalImplicit
  unfold relabel
  have gen:∀{names:List (Str×NameKind)},names.lookup x=some .globalImplicit→
    (names.map λ(n,k)=>if(k == NameKind.free && X.env.scope.kind == .function && X.env.kindOf n == some .cell)then(n,NameKind.cell)else(n,k)).lookup x=some .globalImplicit:=by
   intro names
   induction names with
   | nil=>intro z;simp at z
   | cons y r ih=>
    intro z
    obtain⟨n,k⟩:=y
    rw[ZM]
    cases hx:x == n with
    | true=>
     simp only[Zv,hx]at z
     cases z
     simp[Zv,hx]
    | false=>
     simp only[Zv,hx]at z
     dsimp only
     split<;>(simp only[Zv,hx];exact ih z)
  exact gen e'
theorem QmS{X:Cx}{Θ:Th}(ok:QaH X Θ){tg:Expr}{t:Tg}(h:Qgp Θ tg=some t):SG X tg t:=by
 have hN:X.N.Nodup:=by rw[ok.N];exact ok.nd
 cases tg with
 | Name x pos=>
  simp only[Qgp]at h
  obtain⟨i,hi,rfl⟩:=Zg.mp h
  obtain⟨h1,h2,h3⟩:=Qer ok.toCtxB hi
  exact QwL (QpK hN h1 h2 h3)
 | Tuple es k pos=>
  simp only[Qgp]at h
  obtain⟨is,hi,rfl⟩:=Zg.mp h
  obtain⟨xs,h1,h2⟩:=bind1 hi
  have key:∀(es:List Expr) (xs:List Str) (is:List Nat),es.mapM QrC=some xs->xs.mapM Θ.QdA=some is->PGs X es (QkB is)/\(assignEach es X.env).length=is.length/\(assignEach es X.env).findIdx? (·.1)=none:=by
   intro es
   induction es with
   | nil=>
    intro xs is h1 h2
    cases h1
    cases h2
    exact⟨Qvk,rfl,rfl⟩
   | cons e es ih=>
    intro xs is h1 h2
    rw[List.mapM_cons]at h1
    obtain⟨x,hx,h1⟩:=bind1 h1
    obtain⟨ys,hy,h1⟩:=bind1 h1
    cases h1
    rw[List.mapM_cons]at h2
    obtain⟨i,hi,h2⟩:=bind1 h2
    obtain⟨js,hj,h2⟩:=bind1 h2
    cases h2
    obtain⟨a1,a2,a3⟩:=ih ys js hy hj
    cases e with
    | Name y p=>
     cases hx
     obtain⟨g1,g2,g3⟩:=Qer ok.toCtxB hi
     refine⟨QuB (QpK hN g1 g2 g3) a1 rfl,?_,?_⟩
     ·show(assignEach es X.env).length+1=_
      rw[a2];rfl
     ·show List.findIdx? (·.1) ((false,assign (.Name x p) X.env)::assignEach es X.env)=none
      rw[List.findIdx?_cons]
      simp only[a3];rfl
    | _=>cases hx
  obtain⟨a1,a2,a3⟩:=key es xs is h1 h2
  exact Qyo ok.calm a1 a2 a3
 | _=>simp only[Qgp]at h;cases h
theorem Qqx{f:Int->Int->Bool}:∀a b d,gI (λi j=>some (.bl (f i j))) a b=some d->∃k,d= .bl k:=λa b d h=>by
 obtain⟨i,j,_,_,e⟩:=QsG h
 cases e
 exact⟨_,rfl⟩
theorem QkA{X:Cx}{Θ:Th}(ok:QaH X Θ){op:CmpOp}{g:D->D->Option D}(h:Qia op=some g):∃r,OpR X (compareOp op) r/\Qcm X.K g r/\∀a b d,g a b=some d->∃k,d= .bl k:=by
 cases op<;>cases h
 ·exact⟨_,QyB ok.units,Qzv,λa b d h=>by unfold gEq at h;split at h<;>cases h;exact⟨_,rfl⟩⟩
 ·exact⟨_,QxS ok.units,Qzy,λa b d h=>by unfold gNe at h;split at h<;>cases h;exact⟨_,rfl⟩⟩
 ·exact⟨_,Qzt,QzH,Qqx⟩
 ·exact⟨_,QyQ,Qze,Qqx⟩
 ·exact⟨_,QyW,Qy2,Qqx⟩
 ·exact⟨_,Qzl,Qzg,Qqx⟩
 ·exact⟨_,Qys ok.units,Qu7,λa b d h=>by unfold gIn at h;split at h<;>first | (split at h<;>cases h;exact⟨_,rfl⟩) | cases h⟩
 ·exact⟨_,Qr3 ok.units,Qu7,λa b d h=>by unfold gIn at h;split at h<;>first | (split at h<;>cases h;exact⟨_,rfl⟩) | cases h⟩
structure Qkk (n:Nat):Prop where
 E:∀X Θ e f,QaH X Θ->Qp n Θ e=some f->SE X e f
 B:∀X Θ x args f p pos,QaH X Θ->Θ.gl x=true->Qkr n Θ x args=some f->SE X (.Call (.Name x p) args [] pos) f
 T:∀X Θ e f,QaH X Θ->Qa5 n Θ e=some f->ST X e f
 Ts:∀X Θ e f,QaH X Θ->QfJ n Θ e=some f->Qn7 X e f
 A:∀X Θ e f,QaH X Θ->Qb1 n Θ e=some f->SA X e f
 O:∀X Θ e f,QaH X Θ->Qiz n Θ e=some f->SO X e f
 I:∀X Θ tg e f,QaH X Θ->Qgh n Θ tg e=some f->SI X tg e f/\∀x,foldedSetIterable e X.env x=pure x
theorem callArgs{X:Cx}{n:Nat}{Θ:Th}{es:List Expr}{fs:DA}(h:Qb1 n Θ es=some fs){e:Expr}{es':List Expr}(he:es=e::es')(pos:Pos):starEach (e::es') X.env=(false,eval e X.env)::starEach es' X.env/\(backTo pos (starEach es' X.env)).any (·.1)=false:=by
 subst he
 cases n with
 | zero=>simp[Qb1]at h
 | succ n=>
  simp only[Qb1]at h
  obtain⟨fa,fs',h1,h2,_⟩:=Qac h
  exact⟨Qaw h1 es' X.env,Qpw h2 pos X.env⟩
theorem Qzh{n:Nat}(ih:Qkk n):∀X Θ e f,QaH X Θ->Qp (n+1) Θ e=some f->SE X e f:=by
  intro X Θ e f ok h
  cases e with
  | Name x pos=>
    (conv at h=>lhs;whnf)
    cases q:Θ.slot x with
    | some i=>rw[q]at h;cases h;exact Qd9 (Qap ok.toCtxB q)
    | none=>
      rw[q]at h
      dsimp only at h
      split at h
      · rename_i hg
        obtain⟨i,hi,rfl⟩:=Zg.mp h
        obtain⟨g1,g2,g3⟩:=Qhi ok.toCtxB hg
        obtain⟨t,hm⟩:=ok.cs x i hi
        exact Qod (v:= .int i) (QwE g1 hm ⟨t,rfl⟩ g2) (λ_ _=> .int_mk) rfl
      · cases h
  | Constant c k pos=>
    cases c with
    | int i=>(conv at h=>lhs;whnf);cases h;exact Qod Qyi (λ_ _=> .int_mk) rfl
    | bool b=>(conv at h=>lhs;whnf);cases h;exact Qod QzJ (λ_ _=> .Qei) rfl
    | none=>(conv at h=>lhs;whnf);cases h;exact Qod Qw3 (λ_ _=> .Qkf) rfl
    | str x=>(conv at h=>lhs;whnf);cases h;exact Qod Qxs (λ_ _=> .str_mk) rfl
    | _=>exact nomatch (show(none:Option DE)=some _ from h)
  | BinOp a op b pos=>
    (conv at h=>lhs;whnf)
    obtain⟨fa,h1,h⟩:=bind1 h
    obtain⟨fb,h2,h⟩:=bind1 h
    have ha:=ih.E X Θ a fa ok h1
    have hb:=ih.E X Θ b fb ok h2
    cases op with
    | Add=>cases h;exact QyG ha hb
    | Mult=>cases h;exact Qyp ha hb
    | Sub=>cases h;exact QmJ Qyv QsF ha hb
    | FloorDiv=>cases h;exact QmJ Qwb Qx0 ha hb
    | Mod=>cases h;exact QmJ Qwj Qyg ha hb
    | Pow=>cases h;exact QmJ QvL QxP ha hb
    | _=>cases h
  | UnaryOp op a pos=>
    cases op with
    | USub=>
      (conv at h=>lhs;whnf)
      obtain⟨fa,h1,rfl⟩:=Zg.mp h
      exact QxE (ih.E X Θ a fa ok h1)
    | Not=>
      (conv at h=>lhs;whnf)
      obtain⟨fa,h1,rfl⟩:=Zg.mp h
      exact Qyc (ih.E X Θ a fa ok h1)
    | _=>exact nomatch (show(none:Option DE)=some _ from h)
  | BoolOp op es pos=>
    cases op with
    | And=>
      match es,h with
      | [],h=>exact nomatch (show(none:Option DE)=some _ from h)
      | [a],h=>(conv at h=>lhs;whnf);exact QsI (ih.E X Θ a f ok h)
      | a::b::r,h=>
        (conv at h=>lhs;whnf)
        obtain⟨fa,fb,h1,h2,rfl⟩:=Qac h
        exact QyI (ih.E X Θ a fa ok h1) (ih.E X Θ _ fb ok h2)
    | Or=>
      match es,h with
      | [],h=>exact nomatch (show(none:Option DE)=some _ from h)
      | [a],h=>(conv at h=>lhs;whnf);exact QsI (ih.E X Θ a f ok h)
      | a::b::r,h=>
        (conv at h=>lhs;whnf)
        obtain⟨fa,fb,h1,h2,rfl⟩:=Qac h
        exact Qzd (ih.E X Θ a fa ok h1) (ih.E X Θ _ fb ok h2)
  | Compare a ops bs pos=>
    match ops,bs,h with
    | [op],[b],h=>
      (conv at h=>lhs;whnf)
      obtain⟨fa,h1,h⟩:=bind1 h
      obtain⟨fb,g,h2,h3,rfl⟩:=Qac h
      obtain⟨r,o1,o2,_⟩:=QkA ok h3
      exact Qxr o1 o2 (ih.E X Θ a fa ok h1) (ih.E X Θ b fb ok h2) (Qna h2 op)
    | [],_,h=>exact nomatch (show(none:Option DE)=some _ from h)
    | [_],[],h=>exact nomatch (show(none:Option DE)=some _ from h)
    | [_],_::_::_,h=>exact nomatch (show(none:Option DE)=some _ from h)
    | _::_::_,_,h=>exact nomatch (show(none:Option DE)=some _ from h)
  | IfExp c a b pos=>
    (conv at h=>lhs;whnf)
    obtain⟨g,h1,h⟩:=bind1 h
    obtain⟨fa,fb,h2,h3,rfl⟩:=Qac h
    exact Qy5 (ih.T X Θ c g ok h1) (ih.E X Θ a fa ok h2) (ih.E X Θ b fb ok h3)
  | Tuple es k pos=>
    (conv at h=>lhs;whnf)
    obtain⟨fs,h1,rfl⟩:=Zg.mp h
    exact Qw7 (ih.A X Θ es fs ok h1)
  | List es pos=>
    (conv at h=>lhs;whnf)
    obtain⟨fs,h1,rfl⟩:=Zg.mp h
    exact Qxk (ih.A X Θ es fs ok h1)
  | Subscript a b pos=>
    by_cases hb:∃lo hi p2,b= .Slice lo hi none p2
    · obtain⟨lo,hi,p2,rfl⟩:=hb
      (conv at h=>lhs;whnf)
      obtain⟨fa,h1,h⟩:=bind1 h
      obtain⟨fl,fh,h2,h3,rfl⟩:=Qac h
      exact QxC (ih.E X Θ a fa ok h1) (ih.O X Θ lo fl ok h2) (ih.O X Θ hi fh ok h3)
    · have h':((Qp n Θ a).bind λfa=>(Qp n Θ b).map λfb=>Qq fa fb)=some f:=by
        cases b<;>first
          | (exact h)
          | (rename_i lo hi st p2;cases lo<;>cases hi<;>cases st<;>first | (exact absurd ⟨_,_,_,rfl⟩ hb) | (exact h))
      obtain⟨fa,fb,h1,h2,rfl⟩:=Qac h'
      exact Qyh (ih.E X Θ a fa ok h1) (ih.E X Θ b fb ok h2) (QpU h2)
  | Call fn args kws pos=>
    cases fn with
    | Name x p=>
     cases kws with
     | cons k ks=>exact nomatch (show(none:Option DE)=some _ from h)
     | nil=>
      have h:(if Θ.gl x then(match look x Θ.Γ with | some r=>if r.n<=args.length+r.dfl.length/\args.length<=r.n then(Qb1 n Θ args).map λfs=>Qn r.n r.den (r.dfl.drop (r.dfl.length-(r.n-args.length))) fs else none | none=>Qkr n Θ x args)else none)=some f:=h
      split at h
      · rename_i hg
        obtain⟨g1,g2,g3⟩:=Qhi ok.toCtxB hg
        split at h
        · rename_i r hr
          split at h
          · rename_i hn
            obtain⟨fs,h1,rfl⟩:=Zg.mp h
            obtain⟨k,fa,fd,ps,F1,F2,F3,F4,F5⟩:=ok.fns x r hr
            obtain⟨ds,dvs,b1,b2,b3⟩:=F5 (r.n-args.length) (by omega)
            cases args with
            | nil=>
              cases n with
              | zero=>simp[Qb1]at h1
              | succ n=>
                simp only[Qb1]at h1
                cases h1
                exact QuV F1 F2 g1 F3 F4 b1 b2 b3 g2
            | cons e es=>
              obtain⟨s1,s2⟩:=callArgs (X:=X) h1 rfl pos
              exact Qv2 F1 F2 g1 F3 F4 b1 b2 b3 (ih.A X Θ _ fs ok h1) g2 s1 s2
          · cases h
        · exact ih.B X Θ x args f p pos ok hg h
      · cases h
    | _=>exact nomatch (show(none:Option DE)=some _ from h)
  | ListComp elt gens scope pos=>
    match gens,h with
    | [⟨tg,iter,ifs,k⟩],h=>
      by_cases hk:k=0
      · subst hk
        (conv at h=>lhs;whnf)
        obtain⟨t,ht,h⟩:=bind1 h
        split at h
        · rename_i hc
          simp only[Zh]at hc
          obtain⟨fi,h1,h⟩:=bind1 h
          obtain⟨ft,fe,h2,h3,rfl⟩:=Qac h
          obtain⟨S,cap,inn⟩:=Qof ok hc.1
          obtain⟨i1,i2⟩:=ih.I X Θ tg iter fi ok h1
          exact QvR ok.calm S i1 cap (λcl C fp s3 H3=>⟨QmS (inn cl C fp s3 H3) ht,ih.Ts _ _ ifs ft (inn cl C fp s3 H3) h2,ih.E _ _ elt fe (inn cl C fp s3 H3) h3⟩) i2
        · cases h
      · exfalso
        cases k with
        | ofNat k=>
          cases k with
          | zero=>exact hk rfl
          | succ k=>exact nomatch (show(none:Option DE)=some _ from h)
        | negSucc k=>exact nomatch (show(none:Option DE)=some _ from h)
    | [],h=>exact nomatch (show(none:Option DE)=some _ from h)
    | ⟨_,_,_,.ofNat 0⟩::_::_,h=>exact nomatch (show(none:Option DE)=some _ from h)
    | ⟨_,_,_,.ofNat (k+1)⟩::_::_,h=>exact nomatch (show(none:Option DE)=some _ from h)
    | ⟨_,_,_,.negSucc k⟩::_::_,h=>exact nomatch (show(none:Option DE)=some _ from h)
  | _=>exact nomatch (show(none:Option DE)=some _ from h)
theorem Qyx{X:Cx}{Θ:Th}{x:Str}{a:Expr}{fa f:DE}{p pos:Pos}(ok:QaH X Θ)(g1:Gl X x)(sa:SA X [a] (Qc fa Qf))(st:starEach [a] X.env=(false,eval a X.env)::starEach [] X.env)(h:bf1 x fa=some f):SE X (.Call (.Name x p) [a] [] pos) f:=by
 unfold bf1 at h
 by_cases e:x= "len"
 ·rw[if_pos e]at h;cases h;subst e;have hm:=ok.mg "len" (by decide+kernel)
  exact QjZ Qno Qxb g1 hm PySem.boot_len sa (by decide) (by decide) st rfl
 rw[if_neg e]at h;clear e
 by_cases e:x= "list"
 ·rw[if_pos e]at h;cases h;subst e;have hm:=ok.mg "list" (by decide+kernel)
  exact QwI g1 hm sa st rfl
 rw[if_neg e]at h;clear e
 by_cases e:x= "abs"
 ·rw[if_pos e]at h;cases h;subst e;have hm:=ok.mg "abs" (by decide+kernel)
  exact QjZ Qtd Qx8 g1 hm PyProof.Rows.boot_abs sa (by decide) (by decide) st rfl
 rw[if_neg e]at h;clear e
 by_cases e:x= "sum"
 ·rw[if_pos e]at h;cases h;subst e;have hm:=ok.mg "sum" (by decide+kernel)
  exact QjZ (QrN ok.calm) Qvw g1 hm PyProof.Rows.boot_sum sa (by decide) (by decide) st rfl
 rw[if_neg e]at h;clear e
 by_cases e:x= "tuple"
 ·rw[if_pos e]at h;cases h;subst e;have hm:=ok.mg "tuple" (by decide+kernel)
  exact Qwk g1 hm sa st rfl
 rw[if_neg e]at h;clear e
 cases h
theorem Qxp{X:Cx}{Θ:Th}{x:Str}{a b:Expr}{fa fb f:DE}{p pos:Pos}(ok:QaH X Θ)(g1:Gl X x)(sa:SA X [a,b] (Qc fa (Qc fb Qf)))(st:starEach [a,b] X.env=(false,eval a X.env)::starEach [b] X.env)(pl:(backTo pos (starEach [b] X.env)).any (·.1)=false)(h:bf2 x fa fb=some f):SE X (.Call (.Name x p) [a,b] [] pos) f:=by
 unfold bf2 at h
 by_cases e:x= "min"
 ·rw[if_pos e]at h;cases h;subst e;have hm:=ok.mg "min" (by decide+kernel)
  exact QjZ (Qrp ok.calm) QwG g1 hm PyProof.Rows.boot_min sa (by decide) (by decide) st pl
 rw[if_neg e]at h;clear e
 by_cases e:x= "max"
 ·rw[if_pos e]at h;cases h;subst e;have hm:=ok.mg "max" (by decide+kernel)
  exact QjZ (QsO ok.calm) QvX g1 hm PyProof.Rows.boot_max sa (by decide) (by decide) st pl
 rw[if_neg e]at h;clear e
 by_cases e:x= "divmod"
 ·rw[if_pos e]at h;cases h;subst e;have hm:=ok.mg "divmod" (by decide+kernel)
  exact Qzs (x:= "divmod") g1 hm sa st pl
 rw[if_neg e]at h;clear e
 cases h
theorem QzK{n:Nat}(ih:Qkk n):∀X Θ x args f p pos,QaH X Θ->Θ.gl x=true->Qkr (n+1) Θ x args=some f->SE X (.Call (.Name x p) args [] pos) f:=by
 intro X Θ x args f p pos ok hg h
 obtain⟨g1,g2,g3⟩:=Qhi ok.toCtxB hg
 match args,h with
 | [],h=>exact nomatch (show(none:Option DE)=some _ from h)
 | [a],h=>
  change(match Qje Θ x a with | some b=>(Qp n Θ b).map QmM | none=>(Qp n Θ a).bind λfa=>bf1 x fa)=some f at h
  split at h
  ·rename_i b hr
   obtain⟨fb,h1,rfl⟩:=Zg.mp h
   unfold Qje at hr
   split at hr
   ·rename_i y p' b' pos'
    split at hr
    ·rename_i hc
     cases hr
     obtain⟨c1,c2,c3,_⟩:=hc
     subst c1
     subst c2
     obtain⟨y1,y2,y3⟩:=Qhi ok.toCtxB c3
     exact Qwz g1 (ok.mg _ (by decide+kernel)) y1 (ok.mg _ (by decide+kernel)) ok.calm (ih.E X Θ b fb ok h1) (Qaw h1 [] X.env)
    ·cases hr
   ·cases hr
  obtain⟨fa,h1,h⟩:=bind1 h
  have ha:=ih.E X Θ a fa ok h1
  have st:=Qaw h1 [] X.env
  exact Qyx ok g1 (QgU ha Qkq st) st h
 | [a,b],h=>
  change(if x= "isinstance" then(Qp n Θ a).bind λfa=>(match b with | .Name y _=>if Θ.gl y then(Qua y).map λT=>Qjb T fa else none | _=>none)else(Qp n Θ a).bind λfa=>(Qp n Θ b).bind λfb=>bf2 x fa fb)=some f at h
  split at h
  ·rename_i e
   obtain⟨fa,h1,h⟩:=bind1 h
   have ha:=ih.E X Θ a fa ok h1
   split at h
   ·rename_i y p2
    split at h
    ·rename_i hy
     obtain⟨T,hT,rfl⟩:=Zg.mp h
     obtain⟨y1,y2,y3⟩:=Qhi ok.toCtxB hy
     clear h
     subst e
     refine QxD g1 (ok.mg _ (by decide+kernel)) ha ?_ (Qaw h1 _ X.env)
     unfold Qua at hT
     split at hT
     ·rename_i e;cases hT;subst e
      exact QgF y1 (ok.mg _ (by decide+kernel)) PyProof.Rows.boot_int rfl
     ·split at hT
      ·rename_i e;cases hT;subst e
       exact QgF y1 (ok.mg _ (by decide+kernel)) PyProof.Rows.boot_bool rfl
      ·split at hT
       ·rename_i e;cases hT;subst e
        exact QgF y1 (ok.mg _ (by decide+kernel)) Zbo rfl
       ·split at hT
        ·rename_i e;cases hT;subst e
         exact QgF y1 (ok.mg _ (by decide+kernel)) ZbX rfl
        ·split at hT
         ·rename_i e;cases hT;subst e
          exact QgF y1 (ok.mg _ (by decide+kernel)) PyProof.Rows.boot_str rfl
         ·cases hT
    ·cases h
   ·cases h
  ·obtain⟨fa,h1,h⟩:=bind1 h
   obtain⟨fb,h2,h⟩:=bind1 h
   have ha:=ih.E X Θ a fa ok h1
   have hb:=ih.E X Θ b fb ok h2
   have sb:SA X [b] (Qc fb Qf):=QgU hb Qkq (Qaw h2 [] X.env)
   have sa:SA X [a,b] (Qc fa (Qc fb Qf)):=QgU ha sb (Qaw h1 [b] X.env)
   have pl:(backTo pos (starEach [b] X.env)).any (·.1)=false:=by rw[Qaw h2 [] X.env];rfl
   exact Qxp ok g1 sa (Qaw h1 [b] X.env) pl h
 | _::_::_::_,h=>exact nomatch (show(none:Option DE)=some _ from h)
theorem Qzo{n:Nat}(ih:Qkk n):∀X Θ e f,QaH X Θ->Qa5 (n+1) Θ e=some f->ST X e f:=by
 intro X Θ e f ok h
 have dflt:(Qp n Θ e).map QN=some f->(∀whole,isTrue e X.env whole=(do let v ← whole;standAt e.pos;holding [v] (truthy v)))->ST X e f:=λh he=>by
  obtain⟨fa,h1,rfl⟩:=Zg.mp h
  exact Qxj (ih.E X Θ e fa ok h1) he
 cases e with
 | UnaryOp op a pos=>
  cases op with
  | Not=>
   change(Qa5 n Θ a).map Qcy=some f at h
   obtain⟨fa,h1,rfl⟩:=Zg.mp h
   exact Qyt (ih.T X Θ a fa ok h1)
  | _=>exact dflt h λ_=>rfl
 | BoolOp op es pos=>
  cases op with
  | And=>
   match es,h with
   | [],h=>exact nomatch (show(none:Option DT)=some _ from h)
   | [a],h=>exact(QwM (ih.T X Θ a f ok h)).st
   | a::b::r,h=>
    change((Qa5 n Θ a).bind λfa=>(Qa5 n Θ (.BoolOp .And (b::r) pos)).map λfb=>Qhh fa fb)=some f at h
    obtain⟨fa,fb,h1,h2,rfl⟩:=Qac h
    have hb:=ih.T X Θ _ fb ok h2
    exact(Qx1 (ih.T X Θ a fa ok h1) (λH0 A0 wh pins s σ H Q I q=>by have:=hb H0 A0 pins s σ H Q I q;exact this)).st
  | Or=>
   match es,h with
   | [],h=>exact nomatch (show(none:Option DT)=some _ from h)
   | [a],h=>exact(Qyd (ih.T X Θ a f ok h)).st
   | a::b::r,h=>
    change((Qa5 n Θ a).bind λfa=>(Qa5 n Θ (.BoolOp .Or (b::r) pos)).map λfb=>bOr fa fb)=some f at h
    obtain⟨fa,fb,h1,h2,rfl⟩:=Qac h
    have hb:=ih.T X Θ _ fb ok h2
    exact(QzD (ih.T X Θ a fa ok h1) (λH0 A0 wh pins s σ H Q I q=>by have:=hb H0 A0 pins s σ H Q I q;exact this)).st
 | Compare a ops bs pos=>
  match ops,bs,h with
  | [op],[b],h=>
   change((Qp n Θ a).bind λfa=>(Qp n Θ b).bind λfb=>(Qia op).map λg=>QN (dOp g fa fb))=some f at h
   obtain⟨fa,h1,h⟩:=bind1 h
   obtain⟨fb,g,h2,h3,rfl⟩:=Qac h
   obtain⟨r,o1,o2,o3⟩:=QkA ok h3
   exact QxT o1 o2 o3 (ih.E X Θ a fa ok h1) (ih.E X Θ b fb ok h2) (Qna h2 op)
  | [],_,h=>exact nomatch (show(none:Option DT)=some _ from h)
  | [_],[],h=>exact nomatch (show(none:Option DT)=some _ from h)
  | [_],_::_::_,h=>exact nomatch (show(none:Option DT)=some _ from h)
  | [op,op'],[b,c],h=>
   change((Qp n Θ a).bind λfa=>(Qp n Θ b).bind λfb=>(Qp n Θ c).bind λfc=>(Qia op).bind λg=>(Qia op').map λg'=>QfQ g g' fa fb fc)=some f at h
   obtain⟨fa,h1,h⟩:=bind1 h
   obtain⟨fb,h2,h⟩:=bind1 h
   obtain⟨fc,h3,h⟩:=bind1 h
   obtain⟨g,g',h4,h5,rfl⟩:=Qac h
   obtain⟨r,o1,o2,o3⟩:=QkA ok h4
   obtain⟨r',o1',o2',o3'⟩:=QkA ok h5
   exact QuT o1 o2 o3 o1' o2' o3' (ih.E X Θ a fa ok h1) (ih.E X Θ b fb ok h2) (ih.E X Θ c fc ok h3) (Qna h3 op')
  | [_,_],[],h=>exact nomatch (show(none:Option DT)=some _ from h)
  | [_,_],[_],h=>exact nomatch (show(none:Option DT)=some _ from h)
  | [_,_],_::_::_::_,h=>exact nomatch (show(none:Option DT)=some _ from h)
  | _::_::_::_,_,h=>exact nomatch (show(none:Option DT)=some _ from h)
 | IfExp c a b pos=>exact nomatch (show(none:Option DT)=some _ from h)
 | _=>exact dflt h λ_=>rfl
theorem QyZ{n:Nat}(ih:Qkk n):∀X Θ tg e f,QaH X Θ->Qgh (n+1) Θ tg e=some f->SI X tg e f/\∀x,foldedSetIterable e X.env x=pure x:=by
 intro X Θ tg e f ok h
 have dflt:(Qp n Θ e).map Q3=some f->SI X tg e f/\∀x,foldedSetIterable e X.env x=pure x:=λh=>by
  obtain⟨fa,h1,rfl⟩:=Zg.mp h
  exact⟨Qw6 (ih.E X Θ e fa ok h1),QyD h1 X.env⟩
 cases e with
 | Call fn args kws pos=>
  cases fn with
  | Name x p=>
   cases kws with
   | cons k ks=>exact dflt h
   | nil=>
    simp only[Qgh]at h
    split at h
    ·rename_i hg
     simp only[Zh]at hg
     obtain⟨g1,g2,g3⟩:=Qhi ok.toCtxB hg.1
     match args,h with
     | [],h=>exact dflt h
     | [a],h=>
      dsimp only at h
      by_cases er:x= "range"
      ·rw[if_pos er]at h
       obtain⟨fa,h1,rfl⟩:=Zg.mp h
       subst er
       exact⟨Qr2 g1 (ok.mg _ (by decide+kernel)) (ih.E X Θ a fa ok h1) (Qaw h1 [] X.env),λ_=>rfl⟩
      rw[if_neg er]at h
      by_cases ez:x= "enumerate"
      ·rw[if_pos ez]at h
       split at h
       ·rename_i ht
        obtain⟨fa,h1,rfl⟩:=Zg.mp h
        subst ez
        cases tg with
        | Tuple es k tp=>exact⟨QvV g1 (ok.mg _ (by decide+kernel)) (ih.E X Θ a fa ok h1) (Qaw h1 [] X.env),λ_=>rfl⟩
        | _=>exact nomatch (show false=true from ht)
       ·cases h
      rw[if_neg ez]at h
      exact dflt h
     | [a,b],h=>
      dsimp only at h
      by_cases er:x= "range"
      ·rw[if_pos er]at h
       obtain⟨fa,fb,h1,h2,rfl⟩:=Qac h
       subst er
       exact⟨Qry g1 (ok.mg _ (by decide+kernel)) (ih.E X Θ a fa ok h1) (ih.E X Θ b fb ok h2) (by rw[Qaw h1 [b] X.env,Qaw h2 [] X.env];rfl) (Qaw h2 [] X.env),λ_=>rfl⟩
      rw[if_neg er]at h
      by_cases ez:x= "zip"
      ·rw[if_pos ez]at h
       split at h
       ·rename_i ht
        obtain⟨fa,fb,h1,h2,rfl⟩:=Qac h
        subst ez
        cases tg with
        | Tuple es k tp=>exact⟨Qyf g1 (ok.mg _ (by decide+kernel)) (ih.E X Θ a fa ok h1) (ih.E X Θ b fb ok h2) (by rw[Qaw h1 [b] X.env,Qaw h2 [] X.env];rfl) (Qaw h2 [] X.env),λ_=>rfl⟩
        | _=>exact nomatch (show false=true from ht)
       ·cases h
      rw[if_neg ez]at h
      exact dflt h
     | [a,b,c],h=>
      dsimp only at h
      by_cases er:x= "range"
      ·rw[if_pos er]at h
       obtain⟨fa,h1,h⟩:=bind1 h
       obtain⟨fb,fc,h2,h3,rfl⟩:=Qac h
       subst er
       exact⟨QrB g1 (ok.mg _ (by decide+kernel)) (ih.E X Θ a fa ok h1) (ih.E X Θ b fb ok h2) (ih.E X Θ c fc ok h3) (Qaw h1 [b,c] X.env) (Qaw h2 [c] X.env) (Qaw h3 [] X.env),λ_=>rfl⟩
      rw[if_neg er]at h
      by_cases ez:x= "zip"
      ·rw[if_pos ez]at h
       split at h
       ·rename_i ht
        obtain⟨fa,h1,h⟩:=bind1 h
        obtain⟨fb,fc,h2,h3,rfl⟩:=Qac h
        subst ez
        cases tg with
        | Tuple es k tp=>exact⟨Qwa g1 (ok.mg _ (by decide+kernel)) (ih.E X Θ a fa ok h1) (ih.E X Θ b fb ok h2) (ih.E X Θ c fc ok h3) (Qaw h1 [b,c] X.env) (Qaw h2 [c] X.env) (Qaw h3 [] X.env),λ_=>rfl⟩
        | _=>exact nomatch (show false=true from ht)
       ·cases h
      rw[if_neg ez]at h
      exact dflt h
     | _::_::_::_::_,h=>exact dflt h
    ·exact dflt h
  | _=>exact dflt h
 | _=>exact dflt h
theorem Qb6:∀n,Qkk n
 | 0=>⟨λ_ _ _ _ _ h=>(nomatch (show(none:Option DE)=some _ from h)),λ_ _ _ _ _ _ _ _ _ h=>by simp[Qkr]at h,λ_ _ _ _ _ h=>by simp[Qa5]at h,λ_ _ _ _ _ h=>by simp[QfJ]at h,λ_ _ _ _ _ h=>by simp[Qb1]at h,λ_ _ _ _ _ h=>by simp[Qiz]at h,λ_ _ _ _ _ _ h=>by simp[Qgh]at h⟩
 | n+1=>by
  have ih:=Qb6 n
  refine⟨Qzh ih,QzK ih,Qzo ih,λX Θ e f ok h=>?_,λX Θ e f ok h=>?_,λX Θ e f ok h=>?_,QyZ ih⟩
  ·match e,h with
   | [],h=>simp only[QfJ]at h;cases h;exact QtG
   | [c],h=>simp only[QfJ]at h;exact QuH (ih.T X Θ c f ok h)
   | _::_::_,h=>simp only[QfJ]at h;cases h
  ·match e,h with
   | [],h=>simp only[Qb1]at h;cases h;exact Qkq
   | e::es,h=>
    simp only[Qb1]at h
    obtain⟨fa,fs,h1,h2,rfl⟩:=Qac h
    exact QgU (ih.E X Θ e fa ok h1) (ih.A X Θ es fs ok h2) (Qaw h1 es X.env)
  ·match e,h with
   | none,h=>simp only[Qiz]at h;cases h;exact Qwp
   | some e,h=>
    simp only[Qiz]at h
    obtain⟨fa,h1,rfl⟩:=Zg.mp h
    exact Qvy (ih.E X Θ e fa ok h1)
section
variable {X:Cx}{st:Stmt}{sts:List Stmt}{e:Expr}{fa:DE}{f g:DS}{gc:DT}{pos:Pos}
noncomputable def QA:DS:=λ_=>none
theorem QuG:S1 X st QA:=λH0 A0=>Qs6.mono λE σ H ⟨ρ,hs,F,o,rel,e,q⟩=>by cases e
theorem Qg6{g:DT}{fb:DS}:∀{n:Nat}{ρ:En}{o:Out},Qa7 g fb n ρ=some o->Qa7 g fb (n+1) ρ=some o
 | 0,_,_,h=>by cases h
 | n+1,ρ,o,h=>by
  unfold Qa7 at h ⊢
  obtain⟨b,hb,h⟩:=bind1 h
  rw[hb]
  cases b with
  | false=>exact h
  | true=>
   rw[if_pos rfl]at h
   obtain⟨o1,ho,h⟩:=bind1 h
   rw[Za,if_pos rfl,ho]
   cases o1 with
   | nx ρ2=>exact Qg6 h
   | ct ρ2=>exact Qg6 h
   | bk ρ2=>exact h
   | rt d fr=>exact h
theorem Qnc{g:DT}{fb:DS}{ρ:En}{o:Out}{n m:Nat}(h:Qa7 g fb n ρ=some o)(hm:n<=m):Qa7 g fb m ρ=some o:=by
 induction hm with
 | refl=>exact h
 | step _ ih=>exact Qg6 ih
open Classical in
noncomputable def QcK(g:DT)(fb:DS):DS:=λρ=>if h:∃n,(Qa7 g fb n ρ).isSome=true then Qa7 g fb h.choose ρ else none
theorem Qdv{g:DT}{fb:DS}{ρ:En}{o:Out}:QcK g fb ρ=some o↔∃n,Qa7 g fb n ρ=some o:=by
 unfold QcK
 constructor
 ·intro h
  split at h
  ·exact⟨_,h⟩
  ·cases h
 ·rintro⟨n,h⟩
  have hx:∃n,(Qa7 g fb n ρ).isSome=true:=⟨n,by rw[h];rfl⟩
  rw[dif_pos hx]
  obtain⟨o',ho'⟩:=ZbO.mp hx.choose_spec
  have h1:=Qnc h (Nat.le_max_left n hx.choose)
  have h2:=Qnc ho' (Nat.le_max_right n hx.choose)
  rw[h1]at h2
  rw[ho',← h2]
theorem Qrd{c:Expr}{body:List Stmt}(hp:PassesOwn (model X.prog X.w) X.A X.env X.xe)(hc:ST X c gc)(hb:SS X body f):S1 X (.While c body [] pos) (QcK gc f):=λH0 A0 pins s σ H D I h=>by
 obtain⟨ρ,hs,F,o,rel,e,q⟩:=h
 obtain⟨n,hn⟩:=Qdv.mp e
 exact QtA (n:=n) hp hc hb H0 A0 pins s σ H D I ⟨ρ,hs,F,o,rel,hn,q⟩
theorem QrX(g:DT)(fb:DS)(ρ:En):QcK g fb ρ=(g ρ).bind λb=>if b=true then(fb ρ).bind λo=>match o with
  | .nx ρ2=>QcK g fb ρ2
  | .ct ρ2=>QcK g fb ρ2
  | .bk ρ2=>some (.nx ρ2)
  | .rt d fr=>some (.rt d fr)
  else some (.nx ρ):=by
 apply Option.ext
 intro o
 rw[Qdv]
 constructor
 ·rintro⟨n,h⟩
  cases n with
  | zero=>cases h
  | succ n=>
   unfold Qa7 at h
   obtain⟨b,hb,h⟩:=bind1 h
   rw[hb]
   cases b with
   | false=>exact h
   | true=>
    rw[if_pos rfl]at h
    obtain⟨o1,ho,h⟩:=bind1 h
    rw[Za,if_pos rfl,ho]
    cases o1 with
    | nx ρ2=>exact Qdv.mpr ⟨n,h⟩
    | ct ρ2=>exact Qdv.mpr ⟨n,h⟩
    | bk ρ2=>exact h
    | rt d fr=>exact h
 ·intro h
  obtain⟨b,hb,h⟩:=bind1 h
  cases b with
  | false=>exact⟨1,by unfold Qa7;rw[hb];exact h⟩
  | true=>
   rw[if_pos rfl]at h
   obtain⟨o1,ho,h⟩:=bind1 h
   cases o1 with
   | nx ρ2=>
    obtain⟨n,hn⟩:=Qdv.mp h
    exact⟨n+1,by unfold Qa7;rw[hb];rw[Za,if_pos rfl,ho];exact hn⟩
   | ct ρ2=>
    obtain⟨n,hn⟩:=Qdv.mp h
    exact⟨n+1,by unfold Qa7;rw[hb];rw[Za,if_pos rfl,ho];exact hn⟩
   | bk ρ2=>exact⟨1,by unfold Qa7;rw[hb];rw[Za,if_pos rfl,ho];exact h⟩
   | rt d fr=>exact⟨1,by unfold Qa7;rw[hb];rw[Za,if_pos rfl,ho];exact h⟩
noncomputable def Qds(t:Tg)(fa:DE):DS:=λρ=>(fa ρ).bind λr=>(Qcd t r.d (QaT r.norm.M ρ)).map .nx
theorem Qv3{tg:Expr}{t:Tg}(he:SE X e fa)(hg:SG X tg t)(hs:swapsWithSole [tg] e pos.line X.env=pure false)(hw:swappedStores [tg] e X.env=pure none)(h1:(assignEach [tg] X.env).map (·.2)=[assign tg X.env]):
  S1 X (.Assign [tg] e pos) (Qds t fa):=λH0 A0=>(QeR (he H0 A0) (hg H0 A0) hs hw h1).mono λE σ H ⟨ρ,hs,F,o,rel,e,q⟩=>by
 obtain⟨r,e1,e⟩:=bind1 e
 obtain⟨ρ',e2,rfl⟩:=Zg.mp e
 refine⟨ρ,hs,F,r,rel,e1,λv H' G p=>?_⟩
 have p':=p.norm
 have rp:=p'.rp
 rw[r.QcL]at rp
 exact⟨QaT r.norm.M ρ,hs,F,r.d,G,ρ',(rel.ext p'.same).weak (Qa3 _ _),rp,Shr.of rel p'.src,e2,λσ' F' rel' _ _=>q _ _ F' rel'⟩
theorem Qws{tg iter elt:Expr}{ifs:List Expr}{scope:Scope}{N':List Str}{fi:DI}{t:Tg}{cap:List (Option Nat)}{ft:DT}{fe:DE}{i:Nat}{x:Str}{pos' spos:Pos}(hN:X.N.Nodup)(hx1:X.N[i]? =some x)(hx:Loc X.env.scope x)(hf:X.fn x=true∨X.env.scope.names.lookup x=some .local)
  (hcalm:X.calm=true) (S:QeS X N' scope) (hi:SI X tg iter fi) (hcap:QmN X N' scope cap t.slots)
  (hin:∀cl C fp s3 H3,SG (cxc X N' scope cl C fp s3 H3) tg t/\Qn7 (cxc X N' scope cl C fp s3 H3) ifs ft/\SE (cxc X N' scope cl C fp s3 H3) elt fe) (hs:∀x,foldedSetIterable iter X.env x=pure x):
  S1 X (.Assign [.Name x pos'] (.ListComp elt [⟨tg,iter,ifs,0⟩] scope pos) spos) (Qs i (QI fi t cap ft fe)):=
 QoG λH0 A0=>(QvF hN hx1 hx hf hcalm S (hi H0 A0) (λcl C fp s3 H3=>⟨(hin cl C fp s3 H3).1 _ _,(hin cl C fp s3 H3).2.1 _ _,(hin cl C fp s3 H3).2.2 _ _⟩) hs).mono λE σ H h=>Ql4 hcap h
end
end HS
namespace HS
open PySem PySem.Spec L2 PyProof.Rows
section
variable {X:Cx}{a b e:Expr}{fa fb:DE}{pf:DP}{x:Nat}{pos apos:Pos}
theorem QiL{X:Cx}{H:Hp}{ds:List D}{w:V}{Gm:List Addr}(h:Rp X.K H (.lst ds) w Gm):tyV X.K "list" w H:=by
 obtain⟨l,ws,L,rfl,hl,_⟩:=h.lst_inv
 exact .inl ⟨rfl,ws,Q5 hl⟩
theorem Qaa.unit{K:PySem.W.Frag}{ρ:En}{F:Nat->List Addr}{H:Hp}:Qaa K ρ F H H ⟨.non,true,[]⟩ .non []:= .flat (QP.refl _) .Qkf
noncomputable def Quq(x:Nat)(pf:DP):DS:=λρ=>match ρ[x]? with
 | some (some (d,true))=>(pf ρ).bind λis=>match QaS d is with
  | some (.lst _)=>some (.nx (ρ.set x (some (QaR is d (.lst []),true))))
  | _=>none
 | _=>none
theorem Qub{H0:Hp}{A0:List Addr}{E:Ends}{σ:L2.St}{H:Hp}:tS X.K H0 A0 (Quq x pf) E σ H->QiC (QyK X.K "list" QsN (tP X.K H0 A0 x pf)) E σ H:=λ⟨ρ,hs,F,o,rel,e,q⟩=>by
 unfold Quq at e
 split at e
 ·rename_i d hx
  obtain⟨is,e2,e⟩:=bind1 e
  split at e
  ·rename_i ds hp
   cases e
   refine⟨ρ,hs,F,d,true,is,.lst ds,rel,hx,e2,hp,λv0 w H2 Gm s2 hv0 fo=>⟨QiL fo.rp,?_⟩⟩
   obtain⟨l,vsm,Gp,rfl,g1,g2,g3,g4,g5,g6,g7⟩:=(rel.ext s2).write .unit rfl Zan hx (by simp) hv0 fo
   refine⟨l,vsm,rfl,rfl,g1,?_⟩
   obtain⟨F',rel'⟩:=g7 [] [] [] (by simp[Rps]) (ZX _) rfl (λa=>by simp)
   exact q _ _ F' rel'
  ·cases e
 ·cases e
noncomputable def QaN(xs:List α)(k:Nat)(y:α):List α:=xs.take k++y::xs.drop k
noncomputable def QxJ:V->List V->Hp->VK->Prop:=λx vs H Q=>∃l xs i y,x= .ref l/\vs=[.int i,y]/\H l=some (.lst xs)/\0<=i/\i<2^62/\xs.length<sizeLine/\Q .non (upd H l (.lst (QaN xs (min i.toNat xs.length) y)))
theorem QxZ:MtM X "list.insert" QxJ:=by
 intro pins s σ H x vs v us Q I rx rv h
 obtain⟨l,xs,i,y,rfl,rfl,hH,h0,h1,hz,q⟩:=h
 cases rx
 obtain⟨u,w',rfl,⟨t,rfl⟩,rw'⟩:=vals2 rv
 obtain⟨z,its,n,r,hl,e⟩:=I.QnG hH
 have hfit:¬(!Builtin.List.listFitsIndex i)=true:=by
  unfold Builtin.List.listFitsIndex
  simp only[ZaC,Bool.and_eq_false_iff,decide_eq_false_iff_not]
  omega
 refine call_meets F.slot_list_insert ⟨_,e,rfl⟩ F.entry_list_insert (F.args_list_insert_3 _ _ _) (AutoSeq1.list_insert_list_int_val_1 l its.toArray n i t w' hfit (by rw[Zt];omega)) ⟨e,?_⟩
 refine⟨.non,_,I.Qqd (its':=QaN its (min i.toNat its.length) w') hH e ?_ ?_ ?_,rfl,q⟩
 ·dsimp only
  rw[if_neg (by omega)]
  apply Array.ext'
  simp[QaN]
  rw[Zaa (by simp)]
 ·rw[hl]
  unfold QaN
  exact(r.take _).append (.cons rw' (r.drop _))
 ·unfold QaN
  rw[Zr,ZE,Zad,ZaH]
  omega
theorem Rps.Qw5{K:PySem.W.Frag}{H:Hp}{d:D}{v:V}(hd:Rp K H d v []):∀{ds:List D}{vs:List V}{F:List Addr}(k:Nat),Rps K H ds vs F->Rps K H (QaN ds k d) (QaN vs k v) F
 | ds,vs,F,0,h=>by
  simp only[QaN,List.take_zero,Zbq,ZaT,Rps]
  exact⟨v,vs,[],F,rfl,rfl,hd,h⟩
 | [],vs,F,k+1,h=>by
  simp only[Rps]at h
  obtain⟨rfl,rfl⟩:=h
  simp only[QaN,List.take_nil,List.drop_nil,ZaT,Rps]
  exact⟨v,[],[],[],rfl,rfl,hd,rfl,rfl⟩
 | d'::ds,vs,F,k+1,h=>by
  simp only[Rps]at h
  obtain⟨w,ws,F1,F2,rfl,rfl,r,q⟩:=h
  have ih:=Rps.Qw5 hd k q
  simp only[QaN,ZbG,List.drop_succ_cons,Zbx,Rps]at ih ⊢
  exact⟨w,_,F1,F2,rfl,rfl,r,ih⟩
theorem QvN{d:D}(hd:d.flat=true)(ds:List D)(k:Nat):nls (QaN ds k d)=nls ds:=by
 unfold QaN
 rw[Qb7]
 simp only[nls,Qdr d hd]
 have:=congrArg nls (Zay k ds)
 rw[Qb7]at this
 omega
noncomputable def QjE(x:Nat)(pf:DP)(fi fa:DE):DS:=λρ=>match ρ[x]? with
 | some (some (d,true))=>(pf ρ).bind λis=>(fi ρ).bind λri=>(fa ρ).bind λr0=>match QaS d is,ri.d with
  | some (.lst ds),.int i=>if r0.d.flat=true/\0<=i/\i<2^62/\ds.length<sizeLine then some (.nx (ρ.set x (some (QaR is d (.lst (QaN ds (min i.toNat ds.length) r0.d)),true))))else none
  | _,_=>none
 | _=>none
theorem Qt3{fi:DE}{H0:Hp}{A0:List Addr}{E:Ends}{σ:L2.St}{H:Hp}:tS X.K H0 A0 (QjE x pf fi fa) E σ H->QiC (tBM X.K "list" QxJ (tP X.K H0 A0 x pf) (QcH (tV X.K H0 A0 fi) (QcH (tV X.K H0 A0 fa) QfF))) E σ H:=λ⟨ρ,hs,F,o,rel,e,q⟩=>by
 unfold QjE at e
 split at e
 ·rename_i d hx
  obtain⟨is,e2,e⟩:=bind1 e
  obtain⟨ri,e3,e⟩:=bind1 e
  obtain⟨r0,e1,e⟩:=bind1 e
  split at e
  ·rename_i ds i hp hr
   split at e
   ·rename_i hc
    cases e
    refine⟨ρ,hs,F,d,true,is,.lst ds,rel,hx,e2,hp,λv0 w H2 Gm s2 hv0 fo=>⟨QiL fo.rp,ρ,hs,F,ri,rel.ext s2,e3,λvi H3 Gi pi=>⟨ρ,hs,F,r0,(rel.ext s2).ext pi.same,e1,λvn H4 Gn p=>?_⟩⟩⟩
    have rel4:=((rel.ext s2).ext pi.same).ext p.same
    obtain⟨l,vsm,Gp,rfl,g1,g2,g3,g4,g5,g6,g7⟩:=rel4.write .unit rfl Zan hx (by simp) hv0 ((fo.same pi.same).same p.same)
    have ri':=pi.rp
    rw[hr]at ri'
    have rn:=p.rp
    have z:=rn.Qbm hc.1
    subst z
    have n1:=g2.length
    rw[ri'.int_inv]
    refine⟨l,vsm,i,vn,rfl,rfl,g1,hc.2.1,hc.2.2.1,by omega,?_⟩
    obtain⟨F',rel'⟩:=g7 (QaN ds (min i.toNat ds.length) r0.d) (QaN vsm (min i.toNat vsm.length) vn) Gp (by rw[← n1];exact Rps.Qw5 (rn.upd g1 (by simp)) _ (g2.upd g1 g4)) (by unfold QaN;rw[Zr,ZE,Zad,ZaH];omega) (by rw[QvN hc.1,g3]) (λa=>by omega)
    exact q _ _ F' rel'
   ·cases e
  ·cases e
 ·cases e
theorem Rps.erase{K:PySem.W.Frag}{H:Hp}:∀{ds:List D}{vs:List V}{F:List Addr}(k:Nat),QQ ds=true->Rps K H ds vs F->Rps K H (ds.eraseIdx k) (vs.eraseIdx k) []
 | [],vs,F,k,_,h=>by
  simp only[Rps]at h
  obtain⟨rfl,rfl⟩:=h
  simp[Rps]
 | d::ds,vs,F,0,hf,h=>by
  have hF:=h.Qbm hf
  subst hF
  simp only[Rps]at h
  obtain⟨w,ws,F1,F2,rfl,eF,r,q⟩:=h
  have:F2=[]:=(Zce.mp eF.symm).2
  subst this
  simpa using q
 | d::ds,vs,F,k+1,hf,h=>by
  have hF:=h.Qbm hf
  subst hF
  simp only[Rps]at h
  obtain⟨w,ws,F1,F2,rfl,eF,r,q⟩:=h
  obtain⟨rfl,rfl⟩:=Zce.mp eF.symm
  simp only[QQ,Zh]at hf
  have ih:=Rps.erase k hf.2 q
  simp only[ZaR,Rps]
  exact⟨w,_,[],[],rfl,rfl,r,ih⟩
theorem Qi5:∀(ds:List D) (k:Nat),QQ ds=true->QQ (ds.eraseIdx k)=true
 | [],_,_=>rfl
 | d::ds,0,h=>by simp only[QQ,Zh]at h;exact h.2
 | d::ds,k+1,h=>by
  simp only[QQ,Zh]at h
  simp only[ZaR,QQ,Zh]
  exact⟨h.1,Qi5 ds k h.2⟩
noncomputable def Qfl(x y:Nat)(fi:DE):DS:=λρ=>match ρ[x]?,ρ[y]? with
 | some (some (.lst xs,true)),some (some (.lst ys,true))=>(fi ρ).bind λri=>match ri.d with
  | .int i=>if x≠y/\QQ ys=true/\0<=i/\i<2^62/\xs.length<sizeLine then(ys[i.toNat]?).map λd=> .nx ((ρ.set y (some (.lst (ys.eraseIdx i.toNat),true))).set x (some (.lst (xs++[d]),true)))else none
  | _=>none
 | _,_=>none
theorem QoL{y:Nat}{fi:DE}{H0:Hp}{A0:List Addr}{E:Ends}{σ:L2.St}{H:Hp}:tS X.K H0 A0 (Qfl x y fi) E σ H->QiC (tBM X.K "list" Qlo (tP X.K H0 A0 x Q7) (QcH (tBM X.K "list" Qn3 (tP X.K H0 A0 y Q7) (QcH (tV X.K H0 A0 fi) QfF)) QfF)) E σ H:=λ⟨ρ,hs,F,o,rel,e,q⟩=>by
 unfold Qfl at e
 split at e
 ·rename_i xs ys hx hy
  obtain⟨ri,e3,e⟩:=bind1 e
  split at e
  ·rename_i i hr
   split at e
   ·rename_i hc
    obtain⟨hxy,hfl,h0,h1,hz⟩:=hc
    obtain⟨d,hd,rfl⟩:=Zg.mp e
    refine⟨ρ,hs,F,.lst xs,true,[],.lst xs,rel,hx,rfl,rfl,λv0 w H2 Gm s2 hv0 fo=>⟨QiL fo.rp,ρ,hs,F,.lst ys,true,[],.lst ys,rel.ext s2,hy,rfl,rfl,λv1 w1 H3 Gm1 s3 hv1 fo1=>⟨QiL fo1.rp,ρ,hs,F,ri,(rel.ext s2).ext s3,e3,λvi H4 Gi pi=>?_⟩⟩⟩
    have rel4:=((rel.ext s2).ext s3).ext pi.same
    obtain⟨l,vsm,Gp,rfl,g1,g2,g3,g4,g5,g6,g7⟩:=rel4.write .unit rfl Zan hy (by simp) hv1 (fo1.same pi.same)
    have ri':=pi.rp
    rw[hr]at ri'
    rw[ri'.int_inv]
    have n1:=g2.length
    have hil:i.toNat<ys.length:=(Zf.mp hd).1
    obtain⟨yv,Gy,hyv,ryv,_⟩:=g2.nth hd
    have gz:=ryv.Qbm (by
     have gen:∀(l:List D) (k:Nat) (d:D),QQ l=true->l[k]? =some d->d.flat=true:=by
      intro l
      induction l with
      | nil=>intro k d _ h;simp at h
      | cons a l ih=>
       intro k d hf h
       simp only[QQ,Zh]at hf
       cases k with
       | zero=>simp at h;rw[← h];exact hf.1
       | succ k=>exact ih k d hf.2 (by simpa using h)
     exact gen ys _ _ hfl hd)
    subst gz
    refine⟨l,vsm,i,i.toNat,yv,rfl,rfl,g1,by omega,by omega,?_,hyv,?_⟩
    ·unfold seqIndex?
     simp only[if_neg (by omega:¬i<0)]
     rw[if_pos (by simp;omega)]
    obtain⟨F',rel'⟩:=g7 (ys.eraseIdx i.toNat) (vsm.eraseIdx i.toNat) [] (Rps.erase i.toNat hfl (g2.upd g1 g4)) (by rw[List.length_eraseIdx];split<;>omega) (by rw[Qhd _ (Qi5 ys _ hfl)];rfl) (λa=>by simp)
    simp only[QaR,kill]at rel'
    have hx':(ρ.set y (some (.lst (ys.eraseIdx i.toNat),true)))[x]? =some (some (.lst xs,true)):=by rw[Zd (Ne.symm hxy)];exact hx
    obtain⟨v0',hv0',rp0⟩:=rel'.val x _ _ hx'
    rw[hv0]at hv0'
    cases hv0'
    have hw:w=v0:=fo.2.1
    subst hw
    obtain⟨l2,vs2,Gp2,el2,k1,k2,k3,k4,k5,k6,k7⟩:=rel'.write .unit rfl Zan hx' (by simp) hv0 (is:=[]) ⟨rfl,rfl,rfl,rp0⟩
    cases el2
    refine⟨l2,vs2,yv,rfl,rfl,k1,by rw[← k2.length];exact hz,?_⟩
    have ryv':Rps X.K (upd (upd H4 l (.lst (vsm.eraseIdx i.toNat))) l2 (.lst (vs2++[yv]))) [d] [yv] []:=by
     simp only[Rps]
     exact⟨yv,[],[],[],rfl,rfl,(ryv.upd g1 (by simp)).upd k1 (by simp),rfl,rfl⟩
    have hfd:d.flat=true:=by
     have gen:∀(l:List D) (k:Nat) (d:D),QQ l=true->l[k]? =some d->d.flat=true:=by
      intro l
      induction l with
      | nil=>intro k d _ h;simp at h
      | cons a l ih=>
       intro k d hf h
       simp only[QQ,Zh]at hf
       cases k with
       | zero=>simp at h;rw[← h];exact hf.1
       | succ k=>exact ih k d hf.2 (by simpa using h)
     exact gen ys _ _ hfl hd
    obtain⟨F'',rel''⟩:=k7 (xs++[d]) (vs2++[yv]) (Gp2++[]) ((k2.upd k1 k4).append ryv') (by rw[Zr,ZaX];omega) (by rw[ZaS,Qb7,k3];simp[nls,Qdr d hfd]) (λa=>by rw[ZaS];omega)
    exact q _ _ F'' rel''
   ·cases e
  ·cases e
 ·cases e
end
noncomputable def QgR:Expr->Bool
 | .ListComp .. =>false
 | .SetComp .. =>false
 | .DictComp .. =>false
 | _=>true
theorem QeU{e:Expr}{t:Option Expr}{l:Nat}{env:Env}(h:QgR e=true):swapsWith e t l env=pure false:=by
 cases e<;>first | rfl | cases h
noncomputable def QsV:Expr->Bool
 | .Tuple .. =>true
 | _=>false
noncomputable def Qce(n:Nat)(Θ:Th)(e:Expr):Option (Nat×DP):=match n with
 | 0=>none
 | n+1=>match e with
  | .Name x _=>(Θ.slot x).map λi=>(i,Q7)
  | .Subscript a b _=>(Qce n Θ a).bind λq=>(Qp n Θ b).map λfb=>(q.1,Qbs q.2 fb)
  | _=>none
theorem Qhr:∀(n:Nat) (X:Cx) (Θ:Th) (e:Expr) (q:Nat×DP),QaH X Θ->Qce n Θ e=some q->SPa X e q.1 q.2/\attributeBase e=λ_ env w=>w
 | 0,_,_,_,_,_,h=>by simp[Qce]at h
 | n+1,X,Θ,e,q,ok,h=>by
  cases e with
  | Name x pos=>
   simp only[Qce]at h
   obtain⟨i,hi,rfl⟩:=Zg.mp h
   exact⟨QdL (Qap ok.toCtxB hi),by funext a b c;rfl⟩
  | Subscript a b pos=>
   simp only[Qce]at h
   obtain⟨q',fb,h1,h2,rfl⟩:=Qac h
   exact⟨QgA (Qhr n X Θ a q' ok h1).1 ((Qb6 n).E X Θ b fb ok h2) (QpU h2),by funext a b c;rfl⟩
  | _=>simp[Qce]at h
noncomputable def Qlk:Expr->Bool
 | .Name .. =>true
 | .Subscript _ (.Slice ..) _=>false
 | .Subscript (.Call ..) _ _=>false
 | .Subscript .. =>true
 | _=>false
noncomputable def Quu:Operator->Option (D->D->Option D)
 | .Add=>some (gI λi j=>some (.int (i+j)))
 | .Sub=>some QaJ
 | _=>none
theorem Qxf{X:Cx}{op:Operator}{g:D->D->Option D}(h:Quu op=some g):∃r,OpR X (inplaceOp op) r/\Qcm X.K g r:=by
 cases op<;>cases h
 ·exact⟨_,Qvx,Qhs (λi j d e=>by cases e;rfl) λi j d e H Q q=>by cases e;exact⟨i,j,rfl,rfl,q _ λ_=> .int_mk⟩⟩
 ·exact⟨_,Qwv,QsF⟩
noncomputable def QvK:Expr->Bool
 | .Slice .. =>true
 | _=>false
noncomputable def Qj4(n:Nat)(Θ:Th)(o:Expr)(m:Str)(args:List Expr):Option DS:=match args with
  | []=>(Qce n Θ o).bind λq=>if m= "clear" then some (Quq q.1 q.2)else
    none
  | [e]=>if m= "append" then
     (match o,e with
      | .Name x _,.Call (.Attribute (.Name y _) pm apos) [i] [] cpos=>if pm= "pop" /\(apos.endLine == cpos.line)=true then(Θ.slot x).bind λsx=>(Θ.slot y).bind λsy=>(Qp n Θ i).map λfi=>Qfl sx sy fi else none
      | o,e=>(Qce n Θ o).bind λq=>(Qp n Θ e).map λfa=>QfG q.1 q.2 fa)
    else
    none
  | [i,e]=>if m= "insert" then(Qce n Θ o).bind λq=>(Qp n Θ i).bind λfi=>(Qp n Θ e).map λfa=>QjE q.1 q.2 fi fa else none
  | _=>none
theorem QtR{n:Nat}{X:Cx}{Θ:Th}{o:Expr}{m:Str}{args:List Expr}{f:DS}{apos cpos pos:Pos}(ok:QaH X Θ)(h:Qj4 n Θ o m args=some f)(hl:(apos.endLine == cpos.line)=true):
  S1 X (.Expr (.Call (.Attribute o m apos) args [] cpos) pos) f:=by
 have base:∀{q:Nat×DP},Qce n Θ o=some q->SPa X o q.1 q.2/\attributeBase o m X.env (eval o X.env)=eval o X.env:=λ{q} h1=>by
  obtain⟨sp,ab⟩:=Qhr n X Θ o _ ok h1
  exact⟨sp,by rw[ab]⟩
 have app:∀{e:Expr}{f:DS},m= "append" ->((Qce n Θ o).bind λq=>(Qp n Θ e).map λfa=>QfG q.1 q.2 fa)=some f->S1 X (.Expr (.Call (.Attribute o m apos) [e] [] cpos) pos) f:=λ{e f} em h=>by
  obtain⟨q,fa,h1,h2,rfl⟩:=Qac h
  obtain⟨sp,hb⟩:=base h1
  subst em
  have he:=(Qb6 n).E X Θ e fa ok h2
  have st:=Qaw h2 [] X.env
  have sa:∀H0 A0,PA X [e] (QcH (tV X.K H0 A0 fa) QfF):=λH0 A0=>Q9 (he H0 A0) QbZ st
  exact λH0 A0=>(Qg1 (QmI ZaD ZbP ZbQ Qin (sp H0 A0) (sa H0 A0) hb (by rw[st];rfl) hl st rfl) rfl).mono λE σ H q=>Qtr q
 match args,h with
 | [],h=>
  unfold Qj4 at h
  dsimp only at h
  obtain⟨⟨x,pf⟩,h1,h⟩:=bind1 h
  obtain⟨sp,hb⟩:=base h1
  by_cases e:m= "clear"
  ·rw[if_pos e]at h;cases h;subst e
   exact λH0 A0=>(Qg1 (Qya ZaD PySem.F.slot_list_clear PySem.F.type_list_clear Qt1 (sp H0 A0) hb hl) rfl).mono λE σ H q=>Qub q
  rw[if_neg e]at h
  cases h
 | [e],h=>
  unfold Qj4 at h
  dsimp only at h
  by_cases em:m= "append"
  ·rw[if_pos em]at h
   split at h
   ·rename_i x p y p' pm apos' i cpos' hz
    split at h
    ·rename_i hc
     obtain⟨sx,h1,h⟩:=bind1 h
     obtain⟨sy,fi,h2,h3,rfl⟩:=Qac h
     obtain⟨rfl,hl2⟩:=hc
     subst em
     have spx:=QdL (Qap ok.toCtxB h1 (pos:=p))
     have spy:=QdL (Qap ok.toCtxB h2 (pos:=p'))
     have hi:=(Qb6 n).E X Θ i fi ok h3
     have st:=Qaw h3 [] X.env
     have sa:∀H0 A0,PA X [i] (QcH (tV X.K H0 A0 fi) QfF):=λH0 A0=>Q9 (hi H0 A0) QbZ st
     have pop:∀H0 A0,PE X (.Call (.Attribute (.Name y p') "pop" apos') [i] [] cpos') (tBM X.K "list" Qn3 (tP X.K H0 A0 sy Q7) (QcH (tV X.K H0 A0 fi) QfF)):=λH0 A0=>
      QmI ZaD PySem.F.slot_list_pop PySem.F.type_list_pop Qta (spy H0 A0) (sa H0 A0) rfl (by rw[st];rfl) hl2 st rfl
     exact λH0 A0=>(Qg1 (QmI ZaD ZbP ZbQ Qin (spx H0 A0) (Q9 (pop H0 A0) QbZ rfl) rfl rfl hl rfl rfl) rfl).mono λE σ H q=>QoL q
    ·cases h
   ·exact app em h
  rw[if_neg em]at h
  clear em
  clear app
  cases h
 | [i,e],h=>
  change(if m= "insert" then(Qce n Θ o).bind λq=>(Qp n Θ i).bind λfi=>(Qp n Θ e).map λfa=>QjE q.1 q.2 fi fa else none)=some f at h
  split at h
  ·rename_i em
   obtain⟨q,h1,h⟩:=bind1 h
   obtain⟨fi,fa,h2,h3,rfl⟩:=Qac h
   obtain⟨sp,hb⟩:=base h1
   subst em
   have hi:=(Qb6 n).E X Θ i fi ok h2
   have he:=(Qb6 n).E X Θ e fa ok h3
   have st2:=Qaw h3 [] X.env
   have st:=Qaw h2 [e] X.env
   have sa:∀H0 A0,PA X [i,e] (QcH (tV X.K H0 A0 fi) (QcH (tV X.K H0 A0 fa) QfF)):=λH0 A0=>Q9 (hi H0 A0) (Q9 (he H0 A0) QbZ st2) st
   exact λH0 A0=>(Qg1 (QmI ZaD PySem.F.slot_list_insert PySem.F.type_list_insert QxZ (sp H0 A0) (sa H0 A0) hb (by rw[st,st2];rfl) hl st (by rw[st2];rfl)) rfl).mono λE σ H q=>Qt3 q
  ·cases h
 | _::_::_::_,h=>exact nomatch (show(none:Option DS)=some _ from h)
end HS
namespace HS
open PySem PySem.Spec L2 PyProof.Rows
noncomputable def QqC(x:Nat)(fy f1 g1 f2 g2:DE)(ρ:En):Option Out:=if x<ρ.length then(fy ρ).bind λry=>match ry.d with
 | .lst ds=>(g1 ρ).bind λr1=>(f1 ρ).bind λk1=>(g2 ρ).bind λr2=>(f2 ρ).bind λk2=>match k1.d,k2.d with
  | .int i1,.int i2=>(ixN ds.length i1).bind λj1=>(ixN ds.length i2).bind λj2=>some (.nx ((QaT (ry.M++(r1.M++r2.M)) ρ).set x (some (.lst ((ds.set j1 r1.d).set j2 r2.d),false))))
  | _,_=>none
 | _=>none else none
noncomputable def Qjn(x:Nat)(fy f1 g1 f2 g2:DE):DS:=λρ=>QqC x fy f1 g1 f2 g2 (ρ.set x none)
section
variable {K:PySem.W.Frag}{H0 H H':Hp}{A0:List Addr}{hs:List (V×D×List Addr)}{ρ:En}{F:Nat->List Addr}{σ:L2.St}
theorem Rel.Qiv(rel:Rel K H0 A0 hs ρ F σ H){a:Addr}{zs ys:List V}(ha:H a=some (.lst zs))(h0:H0 a=none)(hn:∀(i:Nat) d b,ρ[i]? =some (some (d,b))->a∉F i)(hh:∀t∈hs,a∉t.2.2):Rel K H0 A0 hs ρ F σ (upd H a (.lst ys)) where
 len:=rel.len
 val:=λi d b e=>by
  obtain⟨v,h1,h2⟩:=rel.val i d b e
  exact⟨v,h1,h2.upd ha (hn i d b e)⟩
 own:=rel.own
 src:=rel.src
 held:=λt ht=>⟨(rel.held t ht).1.upd ha (hh t ht),(rel.held t ht).2⟩
 same:=λb o hb=>by
  have:b≠a:=λz=>by rw[z,h0]at hb;cases hb
  rw[QS this]
  exact rel.same b o hb
theorem Rel.put(rel:Rel K H0 A0 hs ρ F σ H){i:Nat}{v:V}(hi:∀d b,ρ[i]? ≠some (some (d,b))):Rel K H0 A0 hs ρ F (σ.set i (some v)) H:=
 ⟨by simpa using rel.len,λj d b e=>by
  obtain⟨w,h1,h2⟩:=rel.val j d b e
  have hj:i≠j:=λz=>hi d b (z▸e)
  exact⟨w,by rw[Zd hj];exact h1,h2⟩,rel.own,rel.src,rel.held,rel.same⟩
theorem Src.more{M M':List Nat}{G:List Addr}(s:Src ρ F H M G)(h:∀i∈M,i∈M'):Src ρ F H M' G:=λa ha=>by
 rcases s a ha with z | ⟨i,d,b,e,m,w⟩
 ·exact .inl z
 ·exact .inr ⟨i,d,b,e,m,λhb=>h i (w hb)⟩
end
section
variable {X:Cx}{st1 st2 st3:Stmt}{sts:List Stmt}{x:Nat}{fy f1 g1 f2 g2:DE}{g:DS}
theorem Qxd(p1:∀H0 A0,PS X st1 (QeA (λσ H Q=>tVA X.K H0 A0 (Qc fy Qf) σ H λxs H1=>∃p ys,xs=[.ref p]/\(SqL X.K H1 p ys∨SqT X.K H1 p ys)/\∀l,H1 l=none->Q (.ref l) (upd H1 l (.lst ys))) (Qf5 x)))
  (p2:∀H0 A0,PS X st2 (QeA (tV X.K H0 A0 g1) (L2.QaJ (Qgq x) (tV X.K H0 A0 f1) Qf4))) (p3:∀H0 A0,PS X st3 (QeA (tV X.K H0 A0 g2) (L2.QaJ (Qgq x) (tV X.K H0 A0 f2) Qf4))) (h:SS X sts g):
  SS X (st1::st2::st3::sts) (Qe (Qjn x fy f1 g1 f2 g2) g):=λH0 A0=>
 (QcF (p1 H0 A0) (QcF (p2 H0 A0) (QcF (p3 H0 A0) (h H0 A0)))).mono λE σ H ⟨ρ,hs,F,o,rel,e,q⟩=>by
 obtain⟨o1,e1,e⟩:=bind1 e
 unfold Qjn QqC at e1
 split at e1
 case isFalse=>cases e1
 rename_i hx
 have hr0:∀d b,(ρ.set x none)[x]? ≠some (some (d,b)):=λd b z=>by
  rw[Zn (by simpa using hx)]at z
  cases z
 have rel0:=rel.weak (Qd3 (ρ:=ρ) x)
 generalize ρ.set x none=ρ0 at *
 obtain⟨ry,ey,e1⟩:=bind1 e1
 split at e1
 case h_2=>cases e1
 rename_i ds hds
 obtain⟨r1,eg1,e1⟩:=bind1 e1
 obtain⟨k1,ef1,e1⟩:=bind1 e1
 obtain⟨r2,eg2,e1⟩:=bind1 e1
 obtain⟨k2,ef2,e1⟩:=bind1 e1
 split at e1
 case h_2=>cases e1
 rename_i i1 i2 hk1 hk2
 obtain⟨j1,ej1,e1⟩:=bind1 e1
 obtain⟨j2,ej2,e1⟩:=bind1 e1
 cases e1
 refine⟨ρ0,hs,F,⟨[ry.d],ry.fr && true,ry.M++[]⟩,rel0,by simp[Qc,Qf,ey],λvs H1 G q1=>?_⟩
 have rp:=q1.rp
 dsimp only at rp
 rw[hds]at rp
 obtain⟨v,rfl,rq⟩:=rp.one
 obtain⟨l,ws,L,rfl,hl,rl,zl,el⟩:=rq.lst_inv
 have memL:∀a∈L,a∈G:=λa ha=>by
  rcases el with rfl | rfl
  ·exact Ze _ ha
  ·exact ha
 refine⟨l,ws,rfl,.inl (Q5 hl),λc hc=>?_⟩
 have relx:=rel0.ext q1.same
 have nfr:∀(i:Nat) d b,ρ0[i]? =some (some (d,b))->c∉F i:=λi d b ei hci=>by
  obtain⟨zs,z⟩:=relx.mem ei hci
  rw[hc]at z;cases z
 have nhs:∀t∈hs,c∉t.2.2:=λt ht hct=>by
  obtain⟨zs,z⟩:=(relx.held t ht).1.mem c hct
  rw[hc]at z;cases z
 have h0c:H0 c=none:=relx.same.free hc
 have nL:c∉L:=λz=>by
  obtain⟨zs,y⟩:=rl.mem c z
  rw[hc]at y;cases y
 have sU:QP H1 (upd H1 c (.lst ws)):=λb o eb=>by
  have:b≠c:=λz=>by rw[z,hc]at eb;cases eb
  rw[QS this];exact eb
 have relA:=(relx.ext sU).put (i:=x) (v:= .ref c) hr0
 have hσ:(σ.set x (some (.ref c)))[x]? =some (some (.ref c)):=Zn (by rw[← rel0.len];exact hx)
 generalize hσ':σ.set x (some (V.ref c))=σ1 at relA hσ
 show QtD _ _ E (σ.set x (some (.ref c))) _
 rw[hσ']
 have hc2:upd H1 c (.lst ws) c=some (.lst ws):=Qaj
 have rl2:=rl.same sU
 generalize upd H1 c (.lst ws)=H2 at relA hc2 rl2
 refine⟨ρ0,hs,F,r1,relA,eg1,λv1 H3 G1 q2=>⟨.ref c,hσ,ρ0,hs,F,k1,relA.ext q2.same,ef1,λu1 H4 Gi q3=>?_⟩⟩
 have hc4:=q3.same _ _ (q2.same _ _ hc2)
 have ru:=q3.rp
 rw[hk1]at ru
 refine⟨c,ws,i1,j1,rfl,ru.int_inv,hc4,by rw[← rl.length];exact ej1,?_⟩
 have nG1:c∉G1:=λz=>by
  rcases q2.src c z with y | ⟨i,d,b,ei,m,_⟩
  ·rw[hc2]at y;cases y
  ·exact nfr i d b ei m
 have hj1:=(Qcs ej1).2.1
 obtain⟨G',m1,m2⟩:=Qld hc4 ((rl2.same q2.same).same q3.same) nL nG1 (q2.rp.same q3.same) hj1
 have relB:=((relA.ext q2.same).ext q3.same).Qiv (ys:=ws.set j1 v1) hc4 h0c nfr nhs
 have hc5:upd H4 c (.lst (ws.set j1 v1)) c=some (.lst (ws.set j1 v1)):=Qaj
 generalize upd H4 c (.lst (ws.set j1 v1))=H5 at relB hc5 m1
 refine⟨ρ0,hs,F,r2,relB,eg2,λv2 H6 G2 q4=>⟨.ref c,hσ,ρ0,hs,F,k2,relB.ext q4.same,ef2,λu2 H7 Gj q5=>?_⟩⟩
 have hc7:=q5.same _ _ (q4.same _ _ hc5)
 have rw2:=q5.rp
 rw[hk2]at rw2
 refine⟨c,ws.set j1 v1,i2,j2,rfl,rw2.int_inv,hc7,by rw[ZR,← rl.length];exact ej2,?_⟩
 have nG2:c∉G2:=λz=>by
  rcases q4.src c z with y | ⟨i,d,b,ei,m,_⟩
  ·rw[hc5]at y;cases y
  ·exact nfr i d b ei m
 have nG':c∉G':=λz=>(m2 c z).elim nL nG1
 have hj2:=(Qcs ej2).2.1
 obtain⟨G'',n1,n2⟩:=Qld hc7 ((m1.same q4.same).same q5.same) nG' nG2 (q4.rp.same q5.same) (by rw[ZR];exact hj2)
 have relC:=((relB.ext q4.same).ext q5.same).Qiv (ys:=(ws.set j1 v1).set j2 v2) hc7 h0c nfr nhs
 have hc8:upd H7 c (.lst ((ws.set j1 v1).set j2 v2)) c=some (.lst ((ws.set j1 v1).set j2 v2)):=Qaj
 generalize upd H7 c (.lst ((ws.set j1 v1).set j2 v2))=H8 at relC hc8 n1
 have sh0:=Shr.of rel0 (q1.src.more (M':=ry.M++(r1.M++r2.M)) λi hi=>by
  have hi:i∈ry.M++[]:=hi
  rw[ZaS]at hi
  exact Zj _ hi)
 have sh1:=Shr.of relA (q2.src.more (M':=ry.M++(r1.M++r2.M)) λi hi=>Zc _ (Zj _ hi))
 have sh2:=Shr.of relB (q4.src.more (M':=ry.M++(r1.M++r2.M)) λi hi=>Zc _ (Zc _ hi))
 have sh:Shr H0 A0 (QaT (ry.M++(r1.M++r2.M)) ρ0) F (c::G''):=λa ha=>by
  rcases Zs.mp ha with rfl | ha
  ·refine⟨.inl h0c,λi d ei hm=>?_⟩
   obtain⟨b',e',_⟩:=(Qa3 _ ρ0).2 i d true ei
   exact nfr i d b' e' hm
  ·rcases n2 a ha with z | z
   ·rcases m2 a z with y | y
    ·exact sh0 a (memL a y)
    ·exact sh1 a y
   ·exact sh2 a z
 have relD:=(relC.weak (Qa3 (ry.M++(r1.M++r2.M)) ρ0)).Qnj (i:=x) (d:= .lst ((ds.set j1 r1.d).set j2 r2.d)) (v:= .ref c) (Rp.Qea hc8 n1 (by rw[ZR,ZR];exact zl)) sh
 have hs1:σ1.set x (some (.ref c))=σ1:=by rw[← hσ',List.set_set]
 rw[hs1]at relD
 exact⟨_,hs,_,o,relD,e,q⟩
end
structure Swp where
 x:Str
 y:Expr
 i1:Expr
 e1:Expr
 i2:Expr
 e2:Expr
 r:List Stmt
noncomputable def aName:Stmt->Option (Str×Expr)
 | .Assign [.Name x _] e _=>some (x,e)
 | _=>none
noncomputable def Qp4:Stmt->Option (Str×Expr×Expr)
 | .Assign [.Subscript (.Name x _) i _] e _=>some (x,i,e)
 | _=>none
noncomputable def Qqz:Expr->Option (Str×Expr)
 | .Call (.Name f _) [y] [] _=>some (f,y)
 | _=>none
theorem Qmd{st:Stmt}{x:Str}{e:Expr}(h:aName st=some (x,e)):∃p q,st= .Assign [.Name x p] e q:=by
 unfold aName at h
 split at h
 ·cases h;exact⟨_,_,rfl⟩
 ·cases h
theorem Qn5{st:Stmt}{x:Str}{i e:Expr}(h:Qp4 st=some (x,i,e)):∃a b c,st= .Assign [.Subscript (.Name x a) i b] e c:=by
 unfold Qp4 at h
 split at h
 ·cases h;exact⟨_,_,_,rfl⟩
 ·cases h
theorem Qrt{e:Expr}{f:Str}{y:Expr}(h:Qqz e=some (f,y)):∃p q,e= .Call (.Name f p) [y] [] q:=by
 unfold Qqz at h
 split at h
 ·cases h;exact⟨_,_,rfl⟩
 ·cases h
noncomputable def Qqa:List Stmt->Option Swp
 | a::b::c::r=>(aName a).bind λz=>(Qqz z.2).bind λy=>(Qp4 b).bind λu=>(Qp4 c).bind λv=>if y.1= "list" /\u.1=z.1/\v.1=z.1 then some ⟨z.1,y.2,u.2.1,u.2.2,v.2.1,v.2.2,r⟩else none
 | _=>none
theorem Quo{sts:List Stmt}{q:Swp}(h:Qqa sts=some q):∃p1 p2 p3 p4 a1 a2 a3 b1 b2 b3,sts= .Assign [.Name q.x p1] (.Call (.Name "list" p2) [q.y] [] p3) p4:: .Assign [.Subscript (.Name q.x a1) q.i1 a2] q.e1 a3:: .Assign [.Subscript (.Name q.x b1) q.i2 b2] q.e2 b3::q.r:=by
 refine(λh:∀G:Prop,(_->G)->G=>h _ id) λGG kk=>?_
 unfold Qqa at h
 split at h
 ·rename_i a b c r
  obtain⟨z,h1,h⟩:=bind1 h
  obtain⟨y,h2,h⟩:=bind1 h
  obtain⟨u,h3,h⟩:=bind1 h
  obtain⟨v,h4,h⟩:=bind1 h
  split at h
  ·rename_i hc
   obtain⟨g1,g2,g3⟩:=hc
   obtain⟨p1,p4,e1⟩:=Qmd h1
   obtain⟨p2,p3,e2⟩:=Qrt h2
   obtain⟨a1,a2,a3,e3⟩:=Qn5 h3
   obtain⟨b1,b2,b3,e4⟩:=Qn5 h4
   have h:=Option.some.inj h
   subst h
   exact kk ⟨p1,p2,p3,p4,a1,a2,a3,b1,b2,b3,by rw[e1,e2,e3,e4,g1,g2,g3]⟩
  ·cases h
 ·cases h
end HS
namespace HS
open PySem PySem.Spec L2 PyProof.Rows
noncomputable def QhS(r:R):Bool:=r.norm.fr && r.norm.M.isEmpty
noncomputable def QnX(t b ln:Nat)(ts bs:List D)(i k:Int)(j1 j2 l1 l2:Nat)(fi fk g1 g2 g3 g4:DE)(ρ ρ1:En):Option Out:=
 (fi ρ1).bind λri=>(fk ρ1).bind λrk=>(g1 ρ1).bind λr1=>(g2 ρ1).bind λr2=>(g3 ρ1).bind λr3=>(g4 ρ1).bind λr4=>match ri.d,rk.d with
  | .int i',.int k'=>if i'=i/\k'=k/\QhS r1=true/\QhS r2=true/\QhS r3=true/\QhS r4=true then
    some (.nx ((((ρ.set t none).set b none).set ln none).set t (some (.lst ((ts.set j1 r1.d).set j2 r2.d),true)) |>.set b (some (.lst ((bs.set l1 r3.d).set l2 r4.d),true))))else none
  | _,_=>none
noncomputable def Qjr(t b ln:Nat)(fi fk g1 g2 g3 g4:DE):DS:=λρ=>match ρ[t]?,ρ[b]? with
 | some (some (.lst ts,true)),some (some (.lst bs,true))=>if t≠b/\ln≠t/\ln≠b/\ln<ρ.length then
   (fi ρ).bind λri=>(fk ρ).bind λrk=>match ri.d,rk.d with
    | .int i,.int k=>(ixN ts.length i).bind λj1=>(ixN ts.length k).bind λj2=>(ixN bs.length i).bind λl1=>(ixN bs.length k).bind λl2=>
      (ts[j1]?).bind λt1=>(ts[j2]?).bind λt2=>(bs[l1]?).bind λb1=>(bs[l2]?).bind λb2=>
       QnX t b ln ts bs i k j1 j2 l1 l2 fi fk g1 g2 g3 g4 ρ ((((ρ.set t none).set b none).set ln none).set ln (some (.tup [t1,t2,b1,b2],(D.tup [t1,t2,b1,b2]).flat)))
    | _,_=>none
   else none
 | _,_=>none
theorem Qte{r:R}(h:QhS r=true):r.norm.fr=true/\r.norm.M=[]:=by
 unfold QhS at h
 simp only[Zh,List.isEmpty_iff]at h
 exact h
structure Spn (K:PySem.W.Frag) (H0 H:Hp) (hs:List (V×D×List Addr)) (ρ:En) (F:Nat->List Addr) (a:Addr) (ds:List D) (ws:List V) (G:List Addr):Prop where
 at':H a=some (.lst ws)
 rp:Rps K H ds ws G
 len:G.length=nls ds
 na:a∉G
 nd:G.Nodup
 h0:∀c,c=a∨c∈G->H0 c=none
 out:∀(i:Nat) d b,ρ[i]? =some (some (d,b))->∀c,c=a∨c∈G->c∉F i
 hld:∀t∈hs,∀c,c=a∨c∈G->c∉t.2.2
 sz:ds.length<=sizeLine
section
variable {K:PySem.W.Frag}{H0 H H':Hp}{A0:List Addr}{hs:List (V×D×List Addr)}{ρ:En}{F:Nat->List Addr}{σ:L2.St}{a:Addr}{ds:List D}{ws:List V}{G:List Addr}
theorem Spn.mem(s:Spn K H0 H hs ρ F a ds ws G){c:Addr}(h:c=a∨c∈G):∃vs,H c=some (.lst vs):=by
 rcases h with rfl | h
 ·exact⟨ws,s.at'⟩
 ·exact s.rp.mem c h
theorem Spn.same(s:Spn K H0 H hs ρ F a ds ws G)(e:QP H H'):Spn K H0 H' hs ρ F a ds ws G:=⟨e _ _ s.at',s.rp.same e,s.len,s.na,s.nd,s.h0,s.out,s.hld,s.sz⟩
theorem Spn.Qqh(s:Spn K H0 H hs ρ F a ds ws G){p:Addr}{zs ys:List V}(hp:H p=some (.lst zs))(hn:¬(p=a∨p∈G)):Spn K H0 (upd H p (.lst ys)) hs ρ F a ds ws G:=
 ⟨by rw[QS λz=>hn (.inl z.symm)];exact s.at',s.rp.upd hp λz=>hn (.inr z),s.len,s.na,s.nd,s.h0,s.out,s.hld,s.sz⟩
theorem Spn.put(s:Spn K H0 H hs ρ F a ds ws G){ρ1:En}{F1:Nat->List Addr}(rel0:Rel K H0 A0 hs ρ F σ H)(rel:Rel K H0 A0 hs ρ1 F1 σ H){r:R}{v:V}{Gn:List Addr}(p:Qaa K ρ1 F1 H H' r v Gn)(ho:QhS r=true){j:Nat}(hj:j<ds.length)(h1:∀(i:Nat) d b,ρ1[i]? =some (some (d,b))->a∉F1 i):
  ∃G',Spn K H0 (upd H' a (.lst (ws.set j v))) hs ρ F a (ds.set j r.d) (ws.set j v) G'/\Rel K H0 A0 hs ρ1 F1 σ (upd H' a (.lst (ws.set j v)))/\Rel K H0 A0 hs ρ F σ (upd H' a (.lst (ws.set j v)))/\∀c∈G',c∈G∨H c=none:=by
 have p':=p.norm
 obtain⟨f1,f2⟩:=Qte ho
 have cn:=p'.cnt f1
 rw[f2]at cn
 have hnl:=cn.2
 rw[r.QcL]at hnl
 have hrp:=p'.rp
 rw[r.QcL]at hrp
 have hcn:∀c,Gn.count c<=nw H c:=λc=>by have:=cn.1 c;simpa using this
 have gN:∀c∈Gn,H c=none:=λc hc=>by
  have h2:=hcn c
  have h3:0<Gn.count c:=ZZ.mpr hc
  cases q:H c with
  | none=>rfl
  | some o=>rw[Qdw q]at h2;omega
 have aN:a∉Gn:=λz=>by have:=gN a z;rw[s.at']at this;cases this
 obtain⟨G',m1,m2,m3⟩:=set_mk (p'.same _ _ s.at') (s.rp.same p'.same) s.len s.na aN hrp hnl hj
 have mem:∀c∈G',c∈G∨c∈Gn:=λc hc=>by
  have h2:=m3 c
  have h3:0<G'.count c:=ZZ.mpr hc
  by_cases z:c∈G
  ·exact .inl z
  ·rw[ZO.mpr z]at h2
   exact .inr (ZZ.mp (by omega))
 have relE:=rel.ext p'.same
 have relE0:=rel0.ext p'.same
 have a0:=s.h0 a (.inl rfl)
 have nfr:∀(i:Nat) d b,ρ[i]? =some (some (d,b))->a∉F i:=λi d b e=>s.out i d b e a (.inl rfl)
 refine⟨G',⟨Qaj,m1,m2,λz=>(mem a z).elim s.na aN,Zai.mpr λc=>?_,λc hc=>?_,λi d b e c hc=>?_,λt ht c hc=>?_,by rw[ZR];exact s.sz⟩,?_,?_,λc hc=>(mem c hc).imp_right (gN c)⟩
 ·have h2:=m3 c
  have h3:=Zai.mp s.nd c
  have h4:=hcn c
  by_cases z:c∈G
  ·obtain⟨vs,q⟩:=s.mem (.inr z)
   rw[Qdw q]at h4;omega
  ·rw[ZO.mpr z]at h2
   have:nw H c<=1:=by unfold nw;split<;>decide
   omega
 ·rcases hc with rfl | hc
  ·exact a0
  ·rcases mem c hc with z | z
   ·exact s.h0 c (.inr z)
   ·exact rel.same.free (gN c z)
 ·rcases hc with rfl | hc
  ·exact nfr i d b e
  ·rcases mem c hc with z | z
   ·exact s.out i d b e c (.inr z)
   ·intro hm
    obtain⟨vs,q⟩:=rel0.mem e hm
    rw[gN c z]at q;cases q
 ·rcases hc with rfl | hc
  ·exact s.hld t ht _ (.inl rfl)
  ·rcases mem c hc with z | z
   ·exact s.hld t ht c (.inr z)
   ·intro hm
    obtain⟨vs,q⟩:=(rel.held t ht).1.mem c hm
    rw[gN c z]at q;cases q
 ·exact relE.Qiv (p'.same _ _ s.at') a0 h1 λt ht=>s.hld t ht a (.inl rfl)
 ·exact relE0.Qiv (p'.same _ _ s.at') a0 nfr λt ht=>s.hld t ht a (.inl rfl)
theorem Spn.back(s:Spn K H0 H hs ρ F a ds ws G)(rel:Rel K H0 A0 hs ρ F σ H){x:Nat}(hx:σ[x]? =some (some (.ref a)))(hn:∀d b,ρ[x]? ≠some (some (d,b))):Rel K H0 A0 hs (ρ.set x (some (.lst ds,true))) (λj=>if j=x then a::G else F j) σ H:=by
 have lt:∀{z:Option (D×Bool)}{y:D×Bool},(ρ.set x z)[x]? =some (some y)->x<ρ.length:=λ{z y} e=>by
  by_cases hl:x<ρ.length
  ·exact hl
  ·rw[Zm (by simp;omega)]at e;cases e
 refine⟨by simp[rel.len],λj d b e=>?_,λj d e=>?_,λj d b e c hc=>?_,rel.held,rel.same⟩
 ·by_cases hj:j=x
  ·subst hj
   rw[Zn (lt e)]at e
   cases e
   exact⟨_,hx,by rw[if_pos rfl];exact Rp.Qea s.at' s.rp s.sz⟩
  ·rw[Zd (Ne.symm hj)]at e
   obtain⟨w,h1,h2⟩:=rel.val j d b e
   exact⟨w,h1,by rw[if_neg hj];exact h2⟩
 ·by_cases hj:j=x
  ·subst hj
   rw[Zn (lt e)]at e
   cases e
   rw[if_pos rfl]
   refine⟨by simp only[ZE,D.nl,s.len],Zau.mpr ⟨s.na,s.nd⟩,λc hc=>s.h0 c (Zs.mp hc),λk d' b hk ek c hc=>?_,λt ht c hc=>s.hld t ht c (Zs.mp hc)⟩
   rw[Zd (Ne.symm hk)]at ek
   rw[if_neg hk]
   exact s.out k d' b ek c (Zs.mp hc)
  ·rw[Zd (Ne.symm hj)]at e
   obtain⟨h1,h2,h3,h4,h5⟩:=rel.own j d e
   rw[if_neg hj]
   refine⟨h1,h2,h3,λk d' b hk ek c hc=>?_,h5⟩
   by_cases hkx:k=x
   ·subst hkx
    rw[if_pos rfl]
    exact λhm=>s.out j d true e c (Zs.mp hm) hc
   ·rw[Zd (Ne.symm hkx)]at ek
    rw[if_neg hkx]
    exact h4 k d' b hk ek c hc
 ·by_cases hj:j=x
  ·subst hj
   rw[if_pos rfl]at hc
   exact .inl (s.h0 c (Zs.mp hc))
  ·rw[Zd (Ne.symm hj)]at e
   rw[if_neg hj]at hc
   exact rel.src j d b e c hc
theorem Spn.weak(s:Spn K H0 H hs ρ F a ds ws G){ρ':En}{F':Nat->List Addr}(h:∀(i:Nat) d b,ρ'[i]? =some (some (d,b))->∀c,c=a∨c∈G->c∉F' i):Spn K H0 H hs ρ' F' a ds ws G:=⟨s.at',s.rp,s.len,s.na,s.nd,s.h0,h,s.hld,s.sz⟩
theorem Spn.of(rel:Rel K H0 A0 hs ρ F σ H){x:Nat}(hx:ρ[x]? =some (some (.lst ds,true))):∃a ws G,σ[x]? =some (some (.ref a))/\F x=a::G/\Spn K H0 H hs (ρ.set x none) F a ds ws G:=by
 obtain⟨v,h1,h2⟩:=rel.val x _ _ hx
 obtain⟨ol,on,o0,oap,oh⟩:=rel.own x _ hx
 simp only[Rp]at h2
 obtain⟨hz,a,vs,rfl,⟨G,eF,q,r⟩ | ⟨q,r⟩⟩:=h2
 ·rw[eF]at ol on o0 oap oh
  obtain⟨n1,n2⟩:=Zau.mp on
  refine⟨a,vs,G,h1,eF,q,r,by simp only[ZE,D.nl]at ol;omega,n1,n2,λc hc=>o0 c (Zs.mpr hc),λi d b e c hc=>?_,λt ht c hc=>oh t ht c (Zs.mpr hc),hz⟩
  obtain⟨b',e',_⟩:=(Qd3 (ρ:=ρ) x).2 i d b e
  have hi:i≠x:=λz=>by
   subst z
   by_cases hl:i<ρ.length
   ·rw[Zn hl]at e;cases e
   ·rw[Zm (by simp;omega)]at e;cases e
  exact oap i d b' hi e' c (Zs.mpr hc)
 ·have:=r.QaB
  simp only[D.nl]at ol
  omega
theorem Qe7{i:Int}{d':D}{v':V}{Gm:List Addr}(f:Focus K H [i] (.lst ds) (.ref a) (a::G) d' v' Gm)(hl:G.length=nls ds):(∀c∈Gm,c∈G)/\Rp K H d' v' Gm:=by
 obtain⟨es,a',vs,j',F1,G',F2,d2,v2,e1,h2,h3,h4,h5,h6,h7,h8,h9⟩:=f
 cases e1
 obtain⟨rfl,rfl,rfl,h9⟩:=h9
 refine⟨λc hc=>?_,h9⟩
 rcases h3 with⟨e,z,⟨eF,q⟩ | ⟨eF,q⟩⟩ | ⟨e,_⟩
 ·obtain⟨_,rfl⟩:=List.cons.inj eF
  exact Zc _ (Zj _ hc)
 ·exfalso
  have l1:=h4.QaB
  have l2:=h9.QaB
  have l3:=h5.QaB
  have ex:=congrArg List.length eF
  have e2:=congrArg nls (Zay j' es)
  have hj:j'<es.length:=(Zf.mp h6).1
  have hd:es[j']=d':=(Zf.mp h6).2
  rw[Qb7,Zak hj,hd]at e2
  simp only[nls]at e2
  cases e
  simp only[ZE,Zr]at ex
  omega
 ·cases e
end
theorem Qgi{K:PySem.W.Frag}{H0 H:Hp}{A0:List Addr}{f:DE}{σ:L2.St}{Q:V->Hp->Prop}{ρ:En}{hs:List (V×D×List Addr)}{F:Nat->List Addr}{r:R}(rel:Rel K H0 A0 hs ρ F σ H)(e:f ρ=some r)(q:∀v H' G,Qaa K ρ F H H' r v G->Q v H'):tV K H0 A0 f σ H Q:=⟨ρ,hs,F,r,rel,e,q⟩
theorem QmU{K:PySem.W.Frag}{H0 H:Hp}{A0:List Addr}{x:Nat}{pf:DP}{σ:L2.St}{Q:V->Hp->Prop}{ρ:En}{hs:List (V×D×List Addr)}{F:Nat->List Addr}{d:D}{b:Bool}{is:List Int}{dm:D}(rel:Rel K H0 A0 hs ρ F σ H)(hx:ρ[x]? =some (some (d,b)))(hp:pf ρ=some is)(hd:QaS d is=some dm)(q:∀v0 v H' Gm,QP H H'->σ[x]? =some (some v0)->Focus K H' is d v0 (F x) dm v Gm->Q v H'):tP K H0 A0 x pf σ H Q:=⟨ρ,hs,F,d,b,is,dm,rel,hx,hp,hd,q⟩
section
variable {X:Cx}{st0 st1 st2 st3 st4:Stmt}{sts:List Stmt}{t b ln:Nat}{fi fk g1 g2 g3 g4:DE}{g:DS}
theorem Qxe(p0:∀H0 A0,PS X st0 (QeA (Qw2 (QcH (tP X.K H0 A0 t (Qbs Q7 fi)) (QcH (tP X.K H0 A0 t (Qbs Q7 fk)) (QcH (tP X.K H0 A0 b (Qbs Q7 fi)) (QcH (tP X.K H0 A0 b (Qbs Q7 fk)) QfF))))) (Qf5 ln)))
  (p1:∀H0 A0,PS X st1 (QeA (tV X.K H0 A0 g1) (L2.QaJ (Qgq t) (tV X.K H0 A0 fi) Qf4))) (p2:∀H0 A0,PS X st2 (QeA (tV X.K H0 A0 g2) (L2.QaJ (Qgq t) (tV X.K H0 A0 fk) Qf4)))
  (p3:∀H0 A0,PS X st3 (QeA (tV X.K H0 A0 g3) (L2.QaJ (Qgq b) (tV X.K H0 A0 fi) Qf4))) (p4:∀H0 A0,PS X st4 (QeA (tV X.K H0 A0 g4) (L2.QaJ (Qgq b) (tV X.K H0 A0 fk) Qf4))) (h:SS X sts g):
  SS X (st0::st1::st2::st3::st4::sts) (Qe (Qjr t b ln fi fk g1 g2 g3 g4) g):=λH0 A0=>
 (QcF (p0 H0 A0) (QcF (p1 H0 A0) (QcF (p2 H0 A0) (QcF (p3 H0 A0) (QcF (p4 H0 A0) (h H0 A0)))))).mono λE σ H ⟨ρ,hs,F,o,rel,e,q⟩=>by
 refine(λh:∀G:Prop,(_->G)->G=>h _ id) λGG kk=>?_
 obtain⟨o1,e1,e⟩:=bind1 e
 unfold Qjr at e1
 split at e1
 case h_2=>cases e1
 rename_i ts bs ht hb
 split at e1
 case isFalse=>cases e1
 rename_i hc
 obtain⟨htb,hlt,hlb,hll⟩:=hc
 obtain⟨ri,ei,e1⟩:=bind1 e1
 obtain⟨rk,ek,e1⟩:=bind1 e1
 split at e1
 case h_2=>cases e1
 rename_i i k hi hk
 obtain⟨j1,x1,e1⟩:=bind1 e1
 obtain⟨j2,x2,e1⟩:=bind1 e1
 obtain⟨l1,x3,e1⟩:=bind1 e1
 obtain⟨l2,x4,e1⟩:=bind1 e1
 obtain⟨t1,y1,e1⟩:=bind1 e1
 obtain⟨t2,y2,e1⟩:=bind1 e1
 obtain⟨b1,y3,e1⟩:=bind1 e1
 obtain⟨b2,y4,e1⟩:=bind1 e1
 unfold QnX at e1
 obtain⟨ri',ei',e1⟩:=bind1 e1
 obtain⟨rk',ek',e1⟩:=bind1 e1
 obtain⟨q1,c1,e1⟩:=bind1 e1
 obtain⟨q2,c2,e1⟩:=bind1 e1
 obtain⟨q3,c3,e1⟩:=bind1 e1
 obtain⟨q4,c4,eE⟩:=bind1 e1
 clear e1
 split at eE
 case h_2=>cases eE
 rename_i i' k' hi' hk'
 split at eE
 case isFalse=>cases eE
 rename_i hcc
 obtain⟨rfl,rfl,w1',w2',w3',w4'⟩:=hcc
 have eE:=Option.some.inj eE
 subst eE
 obtain⟨a,ws,Gt,st,Ft,sp⟩:=Spn.of rel ht
 obtain⟨a',ws',Gb,sb,Fb,sp'⟩:=Spn.of rel hb
 have pf:∀{f:DE}{r:HS.R}{z:Int},f ρ=some r->r.d= .int z->Qbs Q7 f ρ=some [z]:=λ{f r z} h1 h2=>by
  unfold Qbs Q7
  rw[Za,h1,Za,h2];rfl
 have dp:∀{zs:List D}{z:Int}{j:Nat}{d:D},ixN zs.length z=some j->zs[j]? =some d->QaS (.lst zs) [z]=some d:=λ{zs z j d} h1 h2=>by
  unfold QaS
  simp only[D.items,Za]
  unfold atI
  rw[h1,Za,h2];rfl
 refine kk ?_
 refine QmU (rel) ht (pf ei hi) (dp x1 y1) λv0 v1 H1 M1 s1 hv0 f1=>?_
 rw[Option.some.inj (Option.some.inj (hv0.symm.trans st))]at f1
 refine QmU (rel.ext s1) ht (pf ek hk) (dp x2 y2) λv0 v2 H2 M2 s2 hv0 f2=>?_
 rw[Option.some.inj (Option.some.inj (hv0.symm.trans st))]at f2
 refine QmU ((rel.ext s1).ext s2) hb (pf ei hi) (dp x3 y3) λv0 v3 H3 M3 s3 hv0 f3=>?_
 rw[Option.some.inj (Option.some.inj (hv0.symm.trans sb))]at f3
 refine QmU (((rel.ext s1).ext s2).ext s3) hb (pf ek hk) (dp x4 y4) λv0 v4 H4 M4 s4 hv0 f4=>?_
 rw[Option.some.inj (Option.some.inj (hv0.symm.trans sb))]at f4
 refine⟨Qfc (by simp),λc hcn=>?_⟩
 have sU:QP H4 (upd H4 c (.tup [v1,v2,v3,v4])):=Qa1 hcn
 have hct:upd H4 c (.tup [v1,v2,v3,v4]) c=some (.tup [v1,v2,v3,v4]):=Qaj
 have s14:QP H H4:=((s1.trans s2).trans s3).trans s4
 have f1':=f1.same (((s2.trans s3).trans s4).trans sU)
 have f2':=f2.same ((s3.trans s4).trans sU)
 have f3':=f3.same (s4.trans sU)
 have f4':=f4.same sU
 have relx:=rel.ext (s14.trans sU)
 have sp:=sp.same (s14.trans sU)
 have sp':=sp'.same (s14.trans sU)
 generalize upd H4 c (.tup [v1,v2,v3,v4])=H5 at f1' f2' f3' f4' relx sp sp' hct
 rw[Ft]at f1' f2'
 rw[Fb]at f3' f4'
 refine(λh:∀G:Prop,(_->G)->G=>h _ id) λGG kk=>?_
 obtain⟨m1,r1⟩:=Qe7 f1' sp.len
 obtain⟨m2,r2⟩:=Qe7 f2' sp.len
 obtain⟨m3,r3⟩:=Qe7 f3' sp'.len
 obtain⟨m4,r4⟩:=Qe7 f4' sp'.len
 refine kk ?_
 have rT:Rp X.K H5 (.tup [t1,t2,b1,b2]) (.ref c) (M1++(M2++(M3++(M4++[])))):=by
  refine Rp.Qfu hct ?_
  simp only[Rps]
  exact⟨v1,_,M1,_,rfl,rfl,r1,v2,_,M2,_,rfl,rfl,r2,v3,_,M3,_,rfl,rfl,r3,v4,_,M4,_,rfl,rfl,r4,rfl,rfl⟩
 have hM:∀z∈M1++(M2++(M3++(M4++[]))),z∈Gt∨z∈Gb:=λz hz=>by
  simp only[ZC,ZbU,or_false]at hz
  rcases hz with h | h | h | h
  ·exact .inl (m1 z h)
  ·exact .inl (m2 z h)
  ·exact .inr (m3 z h)
  ·exact .inr (m4 z h)
 generalize M1++(M2++(M3++(M4++[])))=M at rT hM
 have w1:=Qd3 (ρ:=ρ) t
 have w2:=Qd3 (ρ:=ρ.set t none) b
 have w3:=Qd3 (ρ:=(ρ.set t none).set b none) ln
 have wA:=(w1.trans w2).trans w3
 have rel0:=relx.weak wA
 have apart:∀z,z=a∨z∈Gt->¬(z=a'∨z∈Gb):=λz hz hz'=>by
  have h1:=(rel.own t _ ht).2.2.2.1 b _ _ (λe=>htb e.symm) hb
  rw[Ft,Fb]at h1
  exact h1 z (Zs.mpr hz) (Zs.mpr hz')
 have not_in:∀{x:Nat}{d:D}{bb:Bool},(((ρ.set t none).set b none).set ln none)[x]? =some (some (d,bb))->x≠t/\x≠b/\x≠ln:=λ{x d bb} ex=>by
  refine⟨λz=>?_,λz=>?_,λz=>?_⟩
  ·subst z
   obtain⟨_,h1,_⟩:=(w2.trans w3).2 x d bb ex
   by_cases hl:x<ρ.length
   ·rw[Zn hl]at h1;cases h1
   ·rw[Zm (by simp;omega)]at h1;cases h1
  ·subst z
   obtain⟨_,h1,_⟩:=w3.2 x d bb ex
   by_cases hl:x<(ρ.set t none).length
   ·rw[Zn hl]at h1;cases h1
   ·rw[Zm (by rw[ZR];omega)]at h1;cases h1
  ·subst z
   by_cases hl:x<((ρ.set t none).set b none).length
   ·rw[Zn hl]at ex;cases ex
   ·rw[Zm (by rw[ZR];omega)]at ex;cases ex
 have sh:Shr H0 A0 (((ρ.set t none).set b none).set ln none) F M:=λz hz=>by
  rcases hM z hz with h | h
  ·refine⟨.inl (sp.h0 z (.inr h)),λx d ex=>?_⟩
   obtain⟨bb,h1,_⟩:=(w2.trans w3).2 x d true ex
   exact sp.out x d bb h1 z (.inr h)
  ·refine⟨.inl (sp'.h0 z (.inr h)),λx d ex=>?_⟩
   obtain⟨bb,h1,_⟩:=wA.2 x d true ex
   refine sp'.out x d bb ?_ z (.inr h)
   rw[Zd (Ne.symm (not_in ex).2.1)];exact h1
 have relL:=rel0.Qnj (i:=ln) rT sh
 have sp0:Spn X.K H0 H5 hs (((ρ.set t none).set b none).set ln none) F a ts ws Gt:=sp.weak λx d bb ex=>by
  obtain⟨b',h1,_⟩:=(w2.trans w3).2 x d bb ex
  exact sp.out x d b' h1
 have sp0':Spn X.K H0 H5 hs (((ρ.set t none).set b none).set ln none) F a' bs ws' Gb:=sp'.weak λx d bb ex=>by
  obtain⟨b',h1,_⟩:=wA.2 x d bb ex
  exact sp'.out x d b' (by rw[Zd (Ne.symm (not_in ex).2.1)];exact h1)
 have rel0:=rel0.put (i:=ln) (v:= .ref c) λd bb ex=>(not_in ex).2.2 rfl
 have st1':(σ.set ln (some (.ref c)))[t]? =some (some (.ref a)):=by rw[Zd hlt];exact st
 have sb1':(σ.set ln (some (.ref c)))[b]? =some (some (.ref a')):=by rw[Zd hlb];exact sb
 show QtD _ _ E (σ.set ln (some (.ref c))) _
 generalize hσ:σ.set ln (some (V.ref c))=σ1 at relL rel0 st1' sb1'
 generalize hρ0:((ρ.set t none).set b none).set ln none=ρ0 at *
 generalize hρ1:ρ0.set ln (some (D.tup [t1,t2,b1,b2],(D.tup [t1,t2,b1,b2]).flat))=ρ1 at relL ei' ek' c1 c2 c3 c4
 generalize hF1:(λj=>if j=ln then M else F j)=F1 at relL
 have out1:∀z,(z=a∨z=a')->∀(x:Nat) d bb,ρ1[x]? =some (some (d,bb))->z∉F1 x:=λz hz x d bb ex=>by
  subst hF1
  dsimp only
  by_cases hx:x=ln
  ·rw[if_pos hx]
   intro hm
   rcases hz with rfl | rfl
   ·rcases hM z hm with h | h
    ·exact sp.na h
    ·exact apart z (.inl rfl) (.inr h)
   ·rcases hM z hm with h | h
    ·exact apart z (.inr h) (.inl rfl)
    ·exact sp'.na h
  ·rw[if_neg hx]
   subst hρ1
   rw[Zd (Ne.symm hx)]at ex
   rcases hz with rfl | rfl
   ·exact sp0.out x d bb ex z (.inl rfl)
   ·exact sp0'.out x d bb ex z (.inl rfl)
 have jl1:=(Qcs x1).2.1
 have jl2:=(Qcs x2).2.1
 have ll1:=(Qcs x3).2.1
 have ll2:=(Qcs x4).2.1
 refine Qgi relL c1 λu1 H6 N1 z1=>⟨.ref a,st1',Qgi (relL.ext z1.same) ei' λy1' H7 N1' z1'=>?_⟩
 have ru:=z1'.rp
 rw[hi']at ru
 refine⟨a,ws,i',j1,rfl,ru.int_inv,z1'.same _ _ (z1.same _ _ sp0.at'),by rw[← sp0.rp.length];exact x1,?_⟩
 refine(λh:∀G:Prop,(_->G)->G=>h _ id) λGG kk=>?_
 obtain⟨G1,spA,relA,rel0A,mA⟩:=sp0.put rel0 relL (z1.Qge z1'.same) w1' jl1 λx d bb ex=>out1 a (.inl rfl) x d bb ex
 refine kk ?_
 have apA:¬(a=a'∨a∈Gb):=apart a (.inl rfl)
 have spA':Spn X.K H0 (upd H7 a (.lst (ws.set j1 u1))) hs ρ0 F a' bs ws' Gb:=(sp0'.same (z1.same.trans z1'.same)).Qqh (z1'.same _ _ (z1.same _ _ sp0.at')) apA
 generalize upd H7 a (.lst (ws.set j1 u1))=H8 at spA relA rel0A spA'
 have apartA:∀z,z∈G1->¬(z=a'∨z∈Gb):=λz hz hz'=>by
  rcases mA z hz with h | h
  ·exact apart z (.inr h) hz'
  ·obtain⟨vs,w⟩:=sp0'.mem hz'
   rw[h]at w;cases w
 refine Qgi relA c2 λu2 H9 N2 z2=>⟨.ref a,st1',Qgi (relA.ext z2.same) ek' λy2' H10 N2' z2'=>?_⟩
 have ru2:=z2'.rp
 rw[hk']at ru2
 refine⟨a,ws.set j1 u1,k',j2,rfl,ru2.int_inv,z2'.same _ _ (z2.same _ _ spA.at'),by rw[← spA.rp.length,ZR];exact x2,?_⟩
 refine(λh:∀G:Prop,(_->G)->G=>h _ id) λGG kk=>?_
 obtain⟨G2,spB,relB,rel0B,mB⟩:=spA.put rel0A relA (z2.Qge z2'.same) w2' (by rw[ZR];exact jl2) λx d bb ex=>out1 a (.inl rfl) x d bb ex
 refine kk ?_
 have spB':Spn X.K H0 (upd H10 a (.lst ((ws.set j1 u1).set j2 u2))) hs ρ0 F a' bs ws' Gb:=(spA'.same (z2.same.trans z2'.same)).Qqh (z2'.same _ _ (z2.same _ _ spA.at')) apA
 generalize upd H10 a (.lst ((ws.set j1 u1).set j2 u2))=H11 at spB relB rel0B spB'
 have apartB:∀z,z=a∨z∈G2->¬(z=a'∨z∈Gb):=λz hz hz'=>by
  rcases hz with rfl | hz
  ·exact apA hz'
  ·rcases mB z hz with h | h
   ·exact apartA z h hz'
   ·obtain⟨vs,w⟩:=spA'.mem hz'
    rw[h]at w;cases w
 refine Qgi relB c3 λu3 H12 N3 z3=>⟨.ref a',sb1',Qgi (relB.ext z3.same) ei' λy3' H13 N3' z3'=>?_⟩
 have ru3:=z3'.rp
 rw[hi']at ru3
 refine⟨a',ws',i',l1,rfl,ru3.int_inv,z3'.same _ _ (z3.same _ _ spB'.at'),by rw[← spB'.rp.length];exact x3,?_⟩
 refine(λh:∀G:Prop,(_->G)->G=>h _ id) λGG kk=>?_
 obtain⟨G3,spC',relC,rel0C,mC⟩:=spB'.put rel0B relB (z3.Qge z3'.same) w3' ll1 λx d bb ex=>out1 a' (.inr rfl) x d bb ex
 refine kk ?_
 have apB:¬(a'=a∨a'∈G2):=λh=>apartB a' h (.inl rfl)
 have spC:Spn X.K H0 (upd H13 a' (.lst (ws'.set l1 u3))) hs ρ0 F a _ _ G2:=(spB.same (z3.same.trans z3'.same)).Qqh (z3'.same _ _ (z3.same _ _ spB'.at')) apB
 generalize upd H13 a' (.lst (ws'.set l1 u3))=H14 at spC relC rel0C spC'
 have apartC:∀z,z∈G3->¬(z=a∨z∈G2):=λz hz hz'=>by
  rcases mC z hz with h | h
  ·exact apartB z hz' (.inr h)
  ·obtain⟨vs,w⟩:=spB.mem hz'
   rw[h]at w;cases w
 refine Qgi relC c4 λu4 H15 N4 z4=>⟨.ref a',sb1',Qgi (relC.ext z4.same) ek' λy4' H16 N4' z4'=>?_⟩
 have ru4:=z4'.rp
 rw[hk']at ru4
 refine⟨a',ws'.set l1 u3,k',l2,rfl,ru4.int_inv,z4'.same _ _ (z4.same _ _ spC'.at'),by rw[← spC'.rp.length,ZR];exact x4,?_⟩
 refine(λh:∀G:Prop,(_->G)->G=>h _ id) λGG kk=>?_
 obtain⟨G4,spD',relD,rel0D,mD⟩:=spC'.put rel0C relC (z4.Qge z4'.same) w4' (by rw[ZR];exact ll2) λx d bb ex=>out1 a' (.inr rfl) x d bb ex
 refine kk ?_
 have spD:Spn X.K H0 (upd H16 a' (.lst ((ws'.set l1 u3).set l2 u4))) hs ρ0 F a _ _ G2:=(spC.same (z4.same.trans z4'.same)).Qqh (z4'.same _ _ (z4.same _ _ spC'.at')) apB
 generalize upd H16 a' (.lst ((ws'.set l1 u3).set l2 u4))=H17 at spD relD rel0D spD'
 have apartD:∀z,z=a'∨z∈G4->¬(z=a∨z∈G2):=λz hz hz'=>by
  rcases hz with rfl | hz
  ·exact apB hz'
  ·rcases mD z hz with h | h
   ·exact apartC z h hz'
   ·obtain⟨vs,w⟩:=spC.mem hz'
    rw[h]at w;cases w
 have nt:∀d bb,ρ0[t]? ≠some (some (d,bb)):=λd bb ex=>(not_in ex).1 rfl
 have nb:∀d bb,ρ0[b]? ≠some (some (d,bb)):=λd bb ex=>(not_in ex).2.1 rfl
 have relE:=spD.back rel0D st1' nt
 have spE:=spD'.weak (ρ':=ρ0.set t (some (.lst ((ts.set j1 q1.d).set j2 q2.d),true))) (F':=λj=>if j=t then a::G2 else F j) λx d bb ex z hz=>by
  by_cases hx:x=t
  ·rw[if_pos hx]
   exact λhm=>apartD z hz (Zs.mp hm)
  ·rw[if_neg hx]
   rw[Zd (Ne.symm hx)]at ex
   exact spD'.out x d bb ex z hz
 have relF:=spE.back relE sb1' (by rw[Zd htb];exact nb)
 subst hρ0
 exact⟨_,hs,_,o,relF,e,q⟩
end
noncomputable def Qbo:Expr->Option (Str×Str)
 | .Subscript (.Name x _) (.Name y _) _=>some (x,y)
 | _=>none
theorem Qde{e:Expr}{x y:Str}(h:Qbo e=some (x,y)):∃p1 p2 p3,e= .Subscript (.Name x p1) (.Name y p2) p3:=by
 unfold Qbo at h
 split at h
 ·cases h;exact⟨_,_,_,rfl⟩
 ·cases h
noncomputable def QtU:Expr->Option (List Expr)
 | .Tuple l _ _=>some l
 | _=>none
theorem Qtk{e:Expr}{l:List Expr}(h:QtU e=some l):∃k p,e= .Tuple l k p:=by
 unfold QtU at h
 split at h
 ·cases h;exact⟨_,_,rfl⟩
 ·cases h
noncomputable def four(l:List Expr):Option ((Str×Str)×(Str×Str)×(Str×Str)×(Str×Str)):=match l with
 | [a,b,c,d]=>(Qbo a).bind λa=>(Qbo b).bind λb=>(Qbo c).bind λc=>(Qbo d).map λd=>(a,b,c,d)
 | _=>none
theorem Qty{l:List Expr}{a b c d:Str×Str}(h:four l=some (a,b,c,d)):∃ea eb ec ed,l=[ea,eb,ec,ed]/\Qbo ea=some a/\Qbo eb=some b/\Qbo ec=some c/\Qbo ed=some d:=by
 unfold four at h
 split at h
 ·obtain⟨a',h1,h⟩:=bind1 h
  obtain⟨b',h2,h⟩:=bind1 h
  obtain⟨c',d',h3,h4,h5⟩:=Qac h
  cases h5
  exact⟨_,_,_,_,rfl,h1,h2,h3,h4⟩
 ·cases h
noncomputable def QqR(st:Stmt):Option (Str×(Str×Str)×(Str×Str)×(Str×Str)×(Str×Str)):=(aName st).bind λz=>(QtU z.2).bind λl=>(four l).map λq=>(z.1,q)
theorem Qsd{st:Stmt}{x:Str}{a b c d:Str×Str}(h:QqR st=some (x,a,b,c,d)):∃p ea eb ec ed k p1 p2,st= .Assign [.Name x p] (.Tuple [ea,eb,ec,ed] k p1) p2/\Qbo ea=some a/\Qbo eb=some b/\Qbo ec=some c/\Qbo ed=some d:=by
 unfold QqR at h
 obtain⟨⟨x',e⟩,h1,h⟩:=bind1 h
 obtain⟨l,q,h2,h3,h⟩:=Qac h
 cases h
 obtain⟨p,p2,e1⟩:=Qmd h1
 obtain⟨k,p1,e2⟩:=Qtk h2
 have e2:e= .Tuple l k p1:=e2
 obtain⟨ea,eb,ec,ed,e3,n⟩:=Qty h3
 exact⟨p,ea,eb,ec,ed,k,p1,p2,by rw[e1,e2,e3],n⟩
noncomputable def QgI:Stmt->Option ((Str×Str)×Expr)
 | .Assign [t] e _=>(Qbo t).map λs=>(s,e)
 | _=>none
theorem Qe6{st:Stmt}{s:Str×Str}{e:Expr}(h:QgI st=some (s,e)):∃t p,st= .Assign [t] e p/\Qbo t=some s:=by
 unfold QgI at h
 split at h
 ·obtain⟨s',h1,h2⟩:=Zg.mp h
  cases h2
  exact⟨_,_,rfl,h1⟩
 ·cases h
structure Col where
 ln:Str
 t:Str
 b:Str
 i:Str
 k:Str
 e1:Expr
 e2:Expr
 e3:Expr
 e4:Expr
 r:List Stmt
noncomputable def Qqb:List Stmt->Option Col
 | s0::s1::s2::s3::s4::r=>(QqR s0).bind λz=>(QgI s1).bind λz1=>(QgI s2).bind λz2=>(QgI s3).bind λz3=>(QgI s4).bind λz4=>
  if z.2.2.1=(z.2.1.1,z.2.2.1.2)/\z.2.2.2.1=(z.2.2.2.1.1,z.2.1.2)/\z.2.2.2.2=(z.2.2.2.1.1,z.2.2.1.2)/\z1.1=z.2.1/\z2.1=z.2.2.1/\z3.1=z.2.2.2.1/\z4.1=z.2.2.2.2 then some ⟨z.1,z.2.1.1,z.2.2.2.1.1,z.2.1.2,z.2.2.1.2,z1.2,z2.2,z3.2,z4.2,r⟩else none
 | _=>none
theorem Qtt{sts:List Stmt}{q:Col}(h:Qqb sts=some q):∃p ea eb ec ed k p1 p2 t1 t2 t3 t4 p3 p4 p5 p6,sts= .Assign [.Name q.ln p] (.Tuple [ea,eb,ec,ed] k p1) p2:: .Assign [t1] q.e1 p3:: .Assign [t2] q.e2 p4:: .Assign [t3] q.e3 p5:: .Assign [t4] q.e4 p6::q.r∧
  Qbo ea=some (q.t,q.i)/\Qbo eb=some (q.t,q.k)/\Qbo ec=some (q.b,q.i)/\Qbo ed=some (q.b,q.k)/\Qbo t1=some (q.t,q.i)/\Qbo t2=some (q.t,q.k)/\Qbo t3=some (q.b,q.i)/\Qbo t4=some (q.b,q.k):=by
 refine(λh:∀G:Prop,(_->G)->G=>h _ id) λGG kk=>?_
 unfold Qqb at h
 split at h
 ·rename_i s0 s1 s2 s3 s4 r
  obtain⟨z,h0,h⟩:=bind1 h
  obtain⟨z1,h1,h⟩:=bind1 h
  obtain⟨z2,h2,h⟩:=bind1 h
  obtain⟨z3,h3,h⟩:=bind1 h
  obtain⟨z4,h4,h⟩:=bind1 h
  split at h
  ·rename_i hc
   obtain⟨g1,g2,g3,g4,g5,g6,g7⟩:=hc
   obtain⟨p,ea,eb,ec,ed,k,p1,p2,e0,n1,n2,n3,n4⟩:=Qsd h0
   obtain⟨t1,p3,e1,m1⟩:=Qe6 h1
   obtain⟨t2,p4,e2,m2⟩:=Qe6 h2
   obtain⟨t3,p5,e3,m3⟩:=Qe6 h3
   obtain⟨t4,p6,e4,m4⟩:=Qe6 h4
   have h:=Option.some.inj h
   subst h
   exact kk ⟨p,ea,eb,ec,ed,k,p1,p2,t1,t2,t3,t4,p3,p4,p5,p6,by rw[e0,e1,e2,e3,e4],n1,n2.trans (congrArg some g1),n3.trans (congrArg some g2),n4.trans (congrArg some g3),m1.trans (congrArg some g4),m2.trans (congrArg some (g5.trans g1)),m3.trans (congrArg some (g6.trans g2)),m4.trans (congrArg some (g7.trans g3))⟩
  ·cases h
 ·cases h
end HS
namespace HS
open PySem PySem.Spec L2 PyProof.Rows
mutual
noncomputable def QmV(n:Nat)(Θ:Th)(st:Stmt):Option DS:=match n with
 | 0=>none
 | n+1=>match st with
  | .Pass _=>some Qr
  | .Break _=>some Qqu
  | .Continue _=>some Qqg
  | .Raise _ _ _=>some QA
  | .Return none _=>some Qqq
  | .Return (some e) _=>(Qp n Θ e).map QM
  | .Expr (.Constant (.str _) _ _) _=>some Qr
  | .Expr (.Call (.Attribute o m apos) args [] cpos) _=>if(apos.endLine == cpos.line)=true then Qj4 n Θ o m args else none
  | .Expr (.Call (.Name x p) args [] cpos) _=>(Qp n Θ (.Call (.Name x p) args [] cpos)).map QiB
  | .Assign [.Name x _] e _=>(Θ.QdA x).bind λi=>(Qp n Θ e).map λfa=>Qs i (if Qlk e=true then Qao fa else fa)
  | .Assign [.Tuple es k p] e _=>if QgR e=true/\QsV e=false then(Qgp Θ (.Tuple es k p)).bind λt=>(Qp n Θ e).map λfa=>Qds t fa else none
  | .Assign [.Subscript a i _] e _=>(Qce n Θ a).bind λq=>(Qp n Θ i).bind λfi=>(Qp n Θ e).map λfa=>Qbr q.1 q.2 fi fa
  | .AugAssign (.Subscript a i _) op e _=>(Qce n Θ a).bind λq=>(Qp n Θ i).bind λfi=>(Quu op).bind λg=>(Qp n Θ e).map λfa=>Qf2 g q.1 q.2 fi fa
  | .If c a b _=>(Qa5 n Θ c).bind λg=>(QaW n Θ a).bind λf1=>(QaW n Θ b).map λf2=>sIf g f1 f2
  | .For tg iter body [] _=>(Qgp Θ tg).bind λt=>(Qgh n Θ tg iter).bind λfi=>(QaW n Θ body).map λfb=>Qbt fi t fb
  | .While c body [] _=>(Qa5 n Θ c).bind λg=>(QaW n Θ body).map λfb=>QcK g fb
  | .Try a b c d p=>Θ.tr (.Try a b c d p)
  | _=>none
noncomputable def QaW(n:Nat)(Θ:Th)(sts:List Stmt):Option DS:=match n with
  | 0=>none
  | n+1=>match sts with
    | []=>some Qr
    | st::r=>
     match Qqb (st::r)with
     | some q=>(Θ.QdA q.ln).bind λln=>(Θ.slot q.t).bind λt=>(Θ.slot q.b).bind λb=>(Θ.slot q.i).bind λi=>(Θ.slot q.k).bind λk=>(Qp n Θ q.e1).bind λg1=>(Qp n Θ q.e2).bind λg2=>(Qp n Θ q.e3).bind λg3=>(Qp n Θ q.e4).bind λg4=>(QaW n Θ q.r).map λg=>Qe (Qjr t b ln (Qa i) (Qa k) g1 g2 g3 g4) g
     | none=>
      match Qqa (st::r)with
      | some q=>if Θ.gl "list" =true then(Θ.QdA q.x).bind λx=>(Θ.slot q.x).bind λx'=>if x'=x then(Qp n Θ q.y).bind λfy=>(Qp n Θ q.i1).bind λf1=>(Qp n Θ q.e1).bind λg1=>(Qp n Θ q.i2).bind λf2=>(Qp n Θ q.e2).bind λg2=>(QaW n Θ q.r).map λg=>Qe (Qjn x fy f1 g1 f2 g2) g else none else none
      | none=>(QmV n Θ st).bind λf=>(QaW n Θ r).map λg=>Qe f g
end
theorem QiK{n:Nat}{Θ:Th}{e:Expr}{f:DE}(h:Qp n Θ e=some f):QvK e=false:=by
 cases n with
 | zero=>exact nomatch (show(none:Option DE)=some _ from h)
 | succ n=>cases e<;>first | rfl | (exact nomatch (show(none:Option DE)=some _ from h))
theorem QwF{n:Nat}{Θ:Th}{elt:Expr}{gens:List Comprehension}{scope:Scope}{pos:Pos}{f:DE}(h:Qp n Θ (.ListComp elt gens scope pos)=some f):∃m tg iter ifs t fi ft fe,n=m+1/\gens=[⟨tg,iter,ifs,0⟩]/\Qgp (inner Θ scope) tg=some t/\Qku Θ scope t=true∧
  Qgh m Θ tg iter=some fi/\QfJ m (inner Θ scope) ifs=some ft/\Qp m (inner Θ scope) elt=some fe/\f=QI fi t (Qit Θ scope) ft fe:=by
 cases n with
 | zero=>exact nomatch (show(none:Option DE)=some _ from h)
 | succ n=>
  match gens,h with
  | [⟨tg,iter,ifs,k⟩],h=>
   by_cases hk:k=0
   ·subst hk
    (conv at h=>lhs;whnf)
    obtain⟨t,ht,h⟩:=bind1 h
    split at h
    ·rename_i hc
     simp only[Zh]at hc
     obtain⟨fi,h1,h⟩:=bind1 h
     obtain⟨ft,fe,h2,h3,rfl⟩:=Qac h
     exact⟨n,tg,iter,ifs,t,fi,ft,fe,rfl,rfl,ht,hc.1,h1,h2,h3,rfl⟩
    ·cases h
   ·exfalso
    cases k with
    | ofNat k=>
     cases k with
     | zero=>exact hk rfl
     | succ k=>exact nomatch (show(none:Option DE)=some _ from h)
    | negSucc k=>exact nomatch (show(none:Option DE)=some _ from h)
  | [],h=>exact nomatch (show(none:Option DE)=some _ from h)
  | ⟨_,_,_,.ofNat 0⟩::_::_,h=>exact nomatch (show(none:Option DE)=some _ from h)
  | ⟨_,_,_,.ofNat (k+1)⟩::_::_,h=>exact nomatch (show(none:Option DE)=some _ from h)
  | ⟨_,_,_,.negSucc k⟩::_::_,h=>exact nomatch (show(none:Option DE)=some _ from h)
theorem QvD{n:Nat}{X:Cx}{Θ:Th}{x:Str}{p pos:Pos}{e:Expr}{fa:DE}{i:Nat}(ok:QaH X Θ)(hx:Θ.QdA x=some i)(h:Qp n Θ e=some fa):S1 X (.Assign [.Name x p] e pos) (Qs i fa):=by
 have hN:X.N.Nodup:=by rw[ok.N];exact ok.nd
 obtain⟨h1,h2,h3⟩:=Qer ok.toCtxB hx
 by_cases hc:QgR e=true
 ·have he:=(Qb6 n).E X Θ e fa ok h
  exact QoG λH0 A0=>Qif hN h1 h2 (he H0 A0) (QeU hc) h3
 ·cases e with
  | ListComp elt gens scope cpos=>
   obtain⟨m,tg,iter,ifs,t,fi,ft,fe,rfl,rfl,ht,hco,g1,g2,g3,rfl⟩:=QwF h
   obtain⟨S,cap,inn⟩:=Qof ok hco
   obtain⟨i1,i2⟩:=(Qb6 m).I X Θ tg iter fi ok g1
   exact Qws hN h1 h2 h3 ok.calm S i1 cap (λcl C fp s3 H3=>⟨QmS (inn cl C fp s3 H3) ht,(Qb6 m).Ts _ _ ifs ft (inn cl C fp s3 H3) g2,(Qb6 m).E _ _ elt fe (inn cl C fp s3 H3) g3⟩) i2
  | SetComp _ _ _ _=>cases n<;>exact nomatch (show(none:Option DE)=some _ from h)
  | DictComp _ _ _ _ _=>cases n<;>exact nomatch (show(none:Option DE)=some _ from h)
  | _=>exact absurd rfl hc
theorem Qup{X:Cx}{x:Str}{p pos:Pos}{e:Expr}{fa:DE}{i:Nat}{n:Nat}{Θ:Th}(ok:QaH X Θ)(hx:Θ.QdA x=some i)(h:Qp n Θ e=some fa)(ha:Qlk e=true):S1 X (.Assign [.Name x p] e pos) (Qs i (Qao fa)):=by
 have hN:X.N.Nodup:=by rw[ok.N];exact ok.nd
 obtain⟨h1,h2,h3⟩:=Qer ok.toCtxB hx
 have hc:QgR e=true:=by cases e<;>first | rfl | cases ha
 have he:=QtT ((Qb6 n).E X Θ e fa ok h)
 exact QoG λH0 A0=>Qif hN h1 h2 (he H0 A0) (QeU hc) h3
theorem Qdb{a i e:Expr}{p:Pos}{l:Nat}{env:Env}:swapsWithSole [.Subscript a i p] e l env=pure false:=by
 cases e<;>rfl
structure QxQ (n:Nat):Prop where
 S:∀X Θ st f,QaH X Θ->QmV n Θ st=some f->S1 X st f
 Ss:∀X Θ sts f,QaH X Θ->QaW n Θ sts=some f->SS X sts f
theorem Qxh{n:Nat}(ih:QxQ n):∀X Θ st f,QaH X Θ->QmV (n+1) Θ st=some f->S1 X st f:=by
 intro X Θ st f ok h
 have hN:X.N.Nodup:=by rw[ok.N];exact ok.nd
 have E:=Qb6 n
 cases st with
 | Pass pos=>change some Qr=some f at h;cases h;exact QwD
 | Break pos=>change some Qqu=some f at h;cases h;exact Qs1
 | Continue pos=>change some Qqg=some f at h;cases h;exact Qvi
 | Raise a b pos=>change some QA=some f at h;cases h;exact QuG
 | Return e pos=>
  cases e with
  | none=>change some Qqq=some f at h;cases h;exact Qv6
  | some e=>
   change(Qp n Θ e).map QM=some f at h
   obtain⟨fa,h1,rfl⟩:=Zg.mp h
   exact Qx3 (E.E X Θ e fa ok h1)
 | Expr e pos=>
  cases e with
  | Constant c k p=>
   cases c with
   | str x=>
    change some Qr=some f at h
    cases h
    exact λH0 A0=>QxK.mono λE σ H ⟨ρ,hs,F,o,rel,e,q⟩=>by cases e;exact q σ H F rel
   | _=>exact nomatch (show(none:Option DS)=some _ from h)
  | Call fn args kws cpos=>
   cases fn with
   | Attribute o m apos=>
    cases kws with
    | nil=>
     change(if(apos.endLine == cpos.line)=true then Qj4 n Θ o m args else none)=some f at h
     split at h
     ·rename_i hl
      exact QtR ok h hl
     ·cases h
    | cons _ _=>exact nomatch (show(none:Option DS)=some _ from h)
   | Name x p=>
    cases kws with
    | nil=>
     change(Qp n Θ (.Call (.Name x p) args [] cpos)).map QiB=some f at h
     obtain⟨fa,h1,rfl⟩:=Zg.mp h
     exact λH0 A0=>QvT (Qg1 (E.E X Θ _ fa ok h1 H0 A0) rfl)
    | cons _ _=>exact nomatch (show(none:Option DS)=some _ from h)
   | _=>exact nomatch (show(none:Option DS)=some _ from h)
  | _=>exact nomatch (show(none:Option DS)=some _ from h)
 | Assign ts e pos=>
  match ts,h with
  | [t],h=>
   cases t with
   | Name x p=>
    change((Θ.QdA x).bind λi=>(Qp n Θ e).map λfa=>Qs i (if Qlk e=true then Qao fa else fa))=some f at h
    obtain⟨i,fa,h1,h2,rfl⟩:=Qac h
    split
    ·rename_i ha;exact Qup ok h1 h2 ha
    ·exact QvD ok h1 h2
   | Tuple es k p=>
    change(if QgR e=true/\QsV e=false then(Qgp Θ (.Tuple es k p)).bind λt=>(Qp n Θ e).map λfa=>Qds t fa else none)=some f at h
    split at h
    ·rename_i hc
     obtain⟨t,fa,h1,h2,rfl⟩:=Qac h
     refine Qv3 (E.E X Θ e fa ok h2) (QmS ok h1) (by show swapsWith e (some (.Tuple es k p)) pos.line X.env=pure false;exact QeU hc.1) ?_ rfl
     cases e<;>first | rfl | (cases hc.2)
    ·cases h
   | Subscript a i p=>
    change((Qce n Θ a).bind λq=>(Qp n Θ i).bind λfi=>(Qp n Θ e).map λfa=>Qbr q.1 q.2 fi fa)=some f at h
    obtain⟨q,h1,h⟩:=bind1 h
    obtain⟨fi,fa,h2,h3,rfl⟩:=Qac h
    obtain⟨sp,_⟩:=Qhr n X Θ a q ok h1
    have ns:=QiK h2
    refine Qye (E.E X Θ e fa ok h3) sp (E.E X Θ i fi ok h2) λte to ti he ho hi=>QeR he (QfW ho hi set_list ?_) Qdb ?_ rfl
    ·intro v;cases i<;>first | rfl | (cases ns)
    ·cases e<;>rfl
   | _=>exact nomatch (show(none:Option DS)=some _ from h)
  | [],h=>exact nomatch (show(none:Option DS)=some _ from h)
  | t::_::_,h=>cases t<;>exact nomatch (show(none:Option DS)=some _ from h)
 | AugAssign t op e pos=>
  cases t with
  | Subscript a i p=>
   change((Qce n Θ a).bind λq=>(Qp n Θ i).bind λfi=>(Quu op).bind λg=>(Qp n Θ e).map λfa=>Qf2 g q.1 q.2 fi fa)=some f at h
   obtain⟨q,h1,h⟩:=bind1 h
   obtain⟨fi,h2,h⟩:=bind1 h
   obtain⟨g,fa,h3,h4,rfl⟩:=Qac h
   obtain⟨r,o1,o2⟩:=Qxf (X:=X) h3
   obtain⟨sp,_⟩:=Qhr n X Θ a q ok h1
   have ns:=QiK h2
   exact Qv9 o1 o2 (E.E X Θ e fa ok h4) sp (E.E X Θ i fi ok h2) λov iv new=>by cases i<;>first | rfl | (cases ns)
  | _=>exact nomatch (show(none:Option DS)=some _ from h)
 | If c a b pos=>
  change((Qa5 n Θ c).bind λg=>(QaW n Θ a).bind λf1=>(QaW n Θ b).map λf2=>sIf g f1 f2)=some f at h
  obtain⟨g,h1,h⟩:=bind1 h
  obtain⟨f1,f2,h2,h3,rfl⟩:=Qac h
  exact Qy6 (E.T X Θ c g ok h1) (ih.Ss X Θ a f1 ok h2) (ih.Ss X Θ b f2 ok h3)
 | For tg iter body els pos=>
  cases els with
  | nil=>
   change((Qgp Θ tg).bind λt=>(Qgh n Θ tg iter).bind λfi=>(QaW n Θ body).map λfb=>Qbt fi t fb)=some f at h
   obtain⟨t,h1,h⟩:=bind1 h
   obtain⟨fi,fb,h2,h3,rfl⟩:=Qac h
   obtain⟨i1,i2⟩:=E.I X Θ tg iter fi ok h2
   exact Qyu ok.pass ok.calm i1 (QmS ok h1) (ih.Ss X Θ body fb ok h3) i2
  | cons _ _=>exact nomatch (show(none:Option DS)=some _ from h)
 | While c body els pos=>
  cases els with
  | nil=>
   change((Qa5 n Θ c).bind λg=>(QaW n Θ body).map λfb=>QcK g fb)=some f at h
   obtain⟨g,fb,h1,h2,rfl⟩:=Qac h
   exact Qrd ok.pass (E.T X Θ c g ok h1) (ih.Ss X Θ body fb ok h2)
  | cons _ _=>exact nomatch (show(none:Option DS)=some _ from h)
 | Try a b c d pos=>exact ok.tr _ _ h
 | _=>exact nomatch (show(none:Option DS)=some _ from h)
theorem Qu6:∀n,QxQ n
 | 0=>⟨λ_ _ _ _ _ h=>(nomatch (show(none:Option DS)=some _ from h)),λ_ _ _ _ _ h=>(nomatch (show(none:Option DS)=some _ from h))⟩
 | n+1=>by
  have ih:=Qu6 n
  refine⟨Qxh ih,λX Θ sts f ok h=>?_⟩
  match sts,h with
  | [],h=>change some Qr=some f at h;cases h;exact Qw8
  | st::r,h=>
   change(match Qqb (st::r)with
    | some q=>(Θ.QdA q.ln).bind λln=>(Θ.slot q.t).bind λt=>(Θ.slot q.b).bind λb=>(Θ.slot q.i).bind λi=>(Θ.slot q.k).bind λk=>(Qp n Θ q.e1).bind λg1=>(Qp n Θ q.e2).bind λg2=>(Qp n Θ q.e3).bind λg3=>(Qp n Θ q.e4).bind λg4=>(QaW n Θ q.r).map λg=>Qe (Qjr t b ln (Qa i) (Qa k) g1 g2 g3 g4) g
    | none=>_)=some f at h
   split at h
   ·rename_i q hq
    obtain⟨ln,hln,h⟩:=bind1 h
    obtain⟨t,ht,h⟩:=bind1 h
    obtain⟨b,hb,h⟩:=bind1 h
    obtain⟨i,hi,h⟩:=bind1 h
    obtain⟨k,hk,h⟩:=bind1 h
    obtain⟨g1,h1,h⟩:=bind1 h
    obtain⟨g2,h2,h⟩:=bind1 h
    obtain⟨g3,h3,h⟩:=bind1 h
    obtain⟨g4,g,h4,h5,rfl⟩:=Qac h
    obtain⟨p,ea,eb,ec,ed,kk,p1,p2,t1,t2,t3,t4,p3,p4,p5,p6,hs,n1,n2,n3,n4,m1,m2,m3,m4⟩:=Qtt hq
    rw[hs]
    obtain⟨_,_,_,rfl⟩:=Qde n1
    obtain⟨_,_,_,rfl⟩:=Qde n2
    obtain⟨_,_,_,rfl⟩:=Qde n3
    obtain⟨_,_,_,rfl⟩:=Qde n4
    obtain⟨_,_,_,rfl⟩:=Qde m1
    obtain⟨_,_,_,rfl⟩:=Qde m2
    obtain⟨_,_,_,rfl⟩:=Qde m3
    obtain⟨_,_,_,rfl⟩:=Qde m4
    have E:=Qb6 n
    have hN:X.N.Nodup:=by rw[ok.N];exact ok.nd
    obtain⟨l1,l2,l3⟩:=Qer ok.toCtxB hln
    have B:=ok.toCtxB
    refine Qxe (λH0 A0=>Qif hN l1 l2 (Qsy (Q9 (QgA (QdL (Qap B ht)) (Qd9 (Qap B hi)) (λ_ _=>rfl) H0 A0) (Q9 (QgA (QdL (Qap B ht)) (Qd9 (Qap B hk)) (λ_ _=>rfl) H0 A0) (Q9 (QgA (QdL (Qap B hb)) (Qd9 (Qap B hi)) (λ_ _=>rfl) H0 A0) (Q9 (QgA (QdL (Qap B hb)) (Qd9 (Qap B hk)) (λ_ _=>rfl) H0 A0) QbZ))))) (QeU rfl) l3) (λH0 A0=>QeR (E.E X Θ q.e1 g1 ok h1 H0 A0) (QfW (Qap B ht) (Qd9 (Qap B hi) H0 A0) set_list λv=>rfl) Qdb ?_ rfl) (λH0 A0=>QeR (E.E X Θ q.e2 g2 ok h2 H0 A0) (QfW (Qap B ht) (Qd9 (Qap B hk) H0 A0) set_list λv=>rfl) Qdb ?_ rfl) (λH0 A0=>QeR (E.E X Θ q.e3 g3 ok h3 H0 A0) (QfW (Qap B hb) (Qd9 (Qap B hi) H0 A0) set_list λv=>rfl) Qdb ?_ rfl) (λH0 A0=>QeR (E.E X Θ q.e4 g4 ok h4 H0 A0) (QfW (Qap B hb) (Qd9 (Qap B hk) H0 A0) set_list λv=>rfl) Qdb ?_ rfl) (ih.Ss X Θ q.r g ok h5)
    ·cases q.e1<;>rfl
    ·cases q.e2<;>rfl
    ·cases q.e3<;>rfl
    ·cases q.e4<;>rfl
   change(match Qqa (st::r)with
    | some q=>if Θ.gl "list" =true then(Θ.QdA q.x).bind λx=>(Θ.slot q.x).bind λx'=>if x'=x then(Qp n Θ q.y).bind λfy=>(Qp n Θ q.i1).bind λf1=>(Qp n Θ q.e1).bind λg1=>(Qp n Θ q.i2).bind λf2=>(Qp n Θ q.e2).bind λg2=>(QaW n Θ q.r).map λg=>Qe (Qjn x fy f1 g1 f2 g2) g else none else none
    | none=>(QmV n Θ st).bind λf=>(QaW n Θ r).map λg=>Qe f g)=some f at h
   split at h
   ·rename_i q hq
    split at h
    case isFalse=>cases h
    rename_i hg
    obtain⟨x,hx,h⟩:=bind1 h
    obtain⟨x',hx',h⟩:=bind1 h
    split at h
    case isFalse=>cases h
    rename_i hxx
    subst hxx
    obtain⟨fy,h1,h⟩:=bind1 h
    obtain⟨f1,h2,h⟩:=bind1 h
    obtain⟨g1,h3,h⟩:=bind1 h
    obtain⟨f2,h4,h⟩:=bind1 h
    obtain⟨g2,g,h5,h6,rfl⟩:=Qac h
    obtain⟨p1,p2,p3,p4,a1,a2,a3,b1,b2,b3,hs⟩:=Quo hq
    rw[hs]
    have E:=Qb6 n
    have hN:X.N.Nodup:=by rw[ok.N];exact ok.nd
    obtain⟨g1',g2',g3'⟩:=Qhi ok.toCtxB hg
    obtain⟨l1,l2,l3⟩:=Qer ok.toCtxB hx
    have n1:=QiK h2
    have n2:=QiK h4
    refine Qxd (λH0 A0=>Qif hN l1 l2 (Qie QhV g1' (ok.mg _ (by decide+kernel)) Zbo (QgU (E.E X Θ q.y fy ok h1) Qkq (Qaw h1 _ _) H0 A0) (by decide) (by decide) (Qaw h1 _ _) rfl) (QeU rfl) l3) (λH0 A0=>QeR (E.E X Θ q.e1 g1 ok h3 H0 A0) (QfW (Qap ok.toCtxB hx') (E.E X Θ q.i1 f1 ok h2 H0 A0) set_list ?_) Qdb ?_ rfl) (λH0 A0=>QeR (E.E X Θ q.e2 g2 ok h5 H0 A0) (QfW (Qap ok.toCtxB hx') (E.E X Θ q.i2 f2 ok h4 H0 A0) set_list ?_) Qdb ?_ rfl) (ih.Ss X Θ q.r g ok h6)
    ·intro v;cases hi:q.i1<;>first | rfl | (rw[hi]at n1;cases n1)
    ·cases q.e1<;>rfl
    ·intro v;cases hi:q.i2<;>first | rfl | (rw[hi]at n2;cases n2)
    ·cases q.e2<;>rfl
   ·obtain⟨fs,fr,h1,h2,rfl⟩:=Qac h
    exact Qwn (ih.S X Θ st fs ok h1) (ih.Ss X Θ r fr ok h2)
noncomputable def QbS(k:Nat)(ds:List D):En:=ds.map (λd=>some (d,d.flat))++List.replicate (k-ds.length) none
noncomputable def outD:Out->Option (D×Bool)
 | .rt d fr=>some (d,fr)
 | .nx _=>some (.non,true)
 | _=>none
noncomputable def Qo(k:Nat)(f:DS):Den:=λds=>(f (QbS k ds)).bind outD
theorem Rps.parts{K:PySem.W.Frag}{H:Hp}:∀{ds:List D}{vs:List V}{F:List Addr},Rps K H ds vs F→
  ∃Fs:List (List Addr),(∀L∈Fs,∀a∈L,a∈F)/\∀(i:Nat) (d:D),ds[i]? =some d->∃v,vs[i]? =some v/\Rp K H d v (Fs.getD i [])
 | [],_,_,h=>⟨[],λL hL=>by simp at hL,λi d e=>by simp at e⟩
 | d::ds,_,_,h=>by
  simp only[Rps]at h
  obtain⟨v,ws,F1,F2,rfl,rfl,r,q⟩:=h
  obtain⟨Fs,h1,h2⟩:=Rps.parts q
  refine⟨F1::Fs,λL hL a ha=>?_,λi d' e=>?_⟩
  ·rcases Zs.mp hL with rfl | hL
   ·exact Zj _ ha
   ·exact Zc _ (h1 L hL a ha)
  ·cases i with
   | zero=>simp at e;subst e;exact⟨v,by simp,by simpa using r⟩
   | succ i=>obtain⟨w,hw,hr⟩:=h2 i d' (by simpa using e);exact⟨w,by simpa using hw,by simpa using hr⟩
theorem QiP{k:Nat}{ds:List D}{i:Nat}{d:D}{b:Bool}(h:(QbS k ds)[i]? =some (some (d,b))):ds[i]? =some d/\b=d.flat:=by
 unfold QbS at h
 by_cases hi:i<ds.length
 ·rw[Zaj (by simpa using hi),Zl]at h
  cases e:ds[i]? with
  | none=>rw[e]at h;cases h
  | some a=>rw[e]at h;cases h;exact⟨rfl,rfl⟩
 ·rw[Zba (by simpa using hi),ZbS]at h
  split at h<;>cases h
theorem Qsb{K:PySem.W.Frag}{H:Hp}{ds:List D}{vs:List V}{F:List Addr}{N:List Str}(r:Rps K H ds vs F):∃F0,Rel K H F [] (QbS N.length ds) F0 (start N vs) H:=by
 obtain⟨Fs,h1,h2⟩:=r.parts
 have hl:=r.length
 have src:∀i a,a∈Fs.getD i []->a∈F:=λi a ha=>by
  by_cases hi:i<Fs.length
  ·have:Fs.getD i []∈Fs:=by rw[ZaI,ZU hi];exact ZbY hi
   exact h1 _ this a ha
  ·rw[ZaI,Zm (by omega)]at ha;simp at ha
 refine⟨λi=>Fs.getD i [],?_,λi d b e=>?_,λi d e=>?_,λi d b e a ha=> .inr (src i a ha),λt ht=>absurd ht (by simp),QP.refl _⟩
 ·unfold QbS L2.start;simp[hl]
 ·obtain⟨e1,_⟩:=QiP e
  obtain⟨v,hv,hr⟩:=h2 i d e1
  refine⟨v,?_,hr⟩
  have hi:i<vs.length:=(Zf.mp hv).1
  unfold L2.start
  rw[Zaj (by simpa using hi),Zl,hv];rfl
 ·obtain⟨e1,e2⟩:=QiP e
  obtain⟨v,hv,hr⟩:=h2 i d e1
  have z:Fs.getD i []=[]:=hr.Qbm e2.symm
  simp only[z]
  exact⟨(Qdr d e2.symm).symm,Zan,λa ha=>by simp at ha,λ_ _ _ _ _ a ha=>by simp at ha,λ_ _ a ha=>by simp at ha⟩
section
variable (P:Program) (w:World) (K:PySem.W.Frag) (mg:Str->Option Value) (base:Heap)
def Known(k:Nat)(x:Str)(r:FnR):Prop:=∃f fd ps,QdE P w K mg base CX0 k f fd ps (spV K r.n r.den)/\mg x=some (.ref f)/\PySem.W.keepIn K (.ref f)=true∧
 ∀m,m<=r.dfl.length->∃ds dvs,Binds K fd ps ds/\QC dvs ds/\∀H,Rps K H (r.dfl.drop (r.dfl.length-m)) dvs []
def QdH(k:Nat)(Γ:List (Str×FnR)):Prop:=∀x r,look x Γ=some r->Known P w K mg base k x r
structure Qg9 (cs:List (Str×Int)):Prop where
 bn:∀x∈QnA,mg x=none
 cs:∀x i,look x cs=some i->∃t,mg x=some (.int i t)
end
section
variable {P:Program}{w:World}{K:PySem.W.Frag}{mg:Str->Option Value}{base:Heap}
theorem QdH.nil{k:Nat}:QdH P w K mg base k []:=λx r h=>by cases h
theorem Known.mono{j k:Nat}{x:Str}{r:FnR}(h:Known P w K mg base j x r)(hk:j<=k):Known P w K mg base k x r:=by
 obtain⟨f,fd,ps,h1,h2⟩:=h
 exact⟨f,fd,ps,h1.mono hk,h2⟩
theorem QdH.cons{k:Nat}{Γ:List (Str×FnR)}{x:Str}{r:FnR}(t:QdH P w K mg base k Γ)(h:Known P w K mg base (k+1) x r):QdH P w K mg base (k+1) ((x,r)::Γ):=λy q e=>by
 unfold look at e
 split at e
 ·rename_i z;cases e;subst z;exact h
 ·exact(t y q e).mono (ZbA _)
noncomputable def namesOf(sc:Scope):List Str:=(sc.names.filter λy=>Qve y.2).map (·.1)
noncomputable def QkY(st:Stmt)(Γ:List (Str×FnR))(cs:List (Str×Int)):Th:=⟨namesOf (Qz st),(Qz st).names,Γ,cs,λ_=>none⟩
theorem QvU{CX:CXT}{xe:Value->Shared->Prop}{st:Stmt}{ps:List Str}{qual:Str}{f:Addr}{cdv:Value}{A:Around}{outer:List Env}{s:Shared}{H:Hp}{E:XK}{k:Nat}{Γ:List (Str×FnR)}{cs:List (Str×Int)}(S:Qdt (namesOf (Qz st)) ps (Qz st))(M:Qg9 mg cs)(tab:QdH P w K mg base k Γ)
  (hr:QbH k (A.deeper (envOfC qual (Qz st) s.heap.objs.size f cdv))) (hp:PassesOwn (model P w) (A.deeper (envOfC qual (Qz st) s.heap.objs.size f cdv)) (envOfC qual (Qz st) s.heap.objs.size f cdv) xe):
  QaH ((QhT CX P w K mg base (namesOf (Qz st)) qual (Qz st) f cdv A outer s H E).QfK xe) (QkY st Γ cs) where
 N:=rfl
 nd:=S.nd
 lc:=λx h=>by rw[QbR]at h;exact h
 ce:=λx h=>by rw[QbR]at h;exact⟨h,rfl⟩
 fe:=λx h=>by rw[QbR]at h;exact absurd rfl (S.nofree _ (Zae h))
 gl:=λx h=>by rw[QbR]at h;exact h
 calm:=decide_eq_true hr.hd
 pass:=hp
 tr:=λ_ _ h=>by cases h
 units:=hr.units
 mg:=M.bn
 fns:=λx r h=>by
  obtain⟨f',fd,ps',h1,h2,h3,h4⟩:=tab x r h
  exact⟨k,f',fd,ps',h1,hr,h2,h3,h4⟩
 cs:=M.cs
theorem Qxn{st:Stmt}{ps:List Str}{qual:Str}{f:Addr}{cdv:Value}{A:Around}{outer:List Env}{s:Shared}{H:Hp}{E:XK}{k:Nat}{Γ:List (Str×FnR)}{cs:List (Str×Int)}(S:Qdt (namesOf (Qz st)) ps (Qz st))(M:Qg9 mg cs)(tab:QdH P w K mg base k Γ)
  (hr:QbH k (A.deeper (envOfC qual (Qz st) s.heap.objs.size f cdv))):QaH (QhT CX0 P w K mg base (namesOf (Qz st)) qual (Qz st) f cdv A outer s H E).nox (QkY st Γ cs):=QvU S M tab hr PassesOwn.never
theorem QrZ{x qual:Str}{st:Stmt}{f:Addr}{fd:FuncData}{ps:List Str}{k n:Nat}{Γ:List (Str×FnR)}{cs:List (Str×Int)}{g:DS}(F:Fun K x qual st f fd)(S:Qdt (namesOf (Qz st)) ps (Qz st))(M:Qg9 mg cs)(tab:QdH P w K mg base k Γ)
  (hc:QaW n (QkY st Γ cs) (Qck st)=some g):QdE P w K mg base CX0 (k+1) f fd ps (spV K ps.length (Qo (namesOf (Qz st)).length g)):=by
 refine F.ok S (Qwr rfl) λcdv A outer s H vs Q E hr h=>?_
 obtain⟨ds,L,d,fr,rps,hl,hd,q⟩:=h
 refine⟨_,(Qu6 n).Ss _ _ _ g (Qxn S M tab hr) hc H L,?_⟩
 obtain⟨F0,rel⟩:=Qsb (N:=namesOf (Qz st)) rps
 unfold Qo at hd
 obtain⟨o,ho,hd⟩:=bind1 hd
 refine⟨_,[],F0,o,rel,ho,?_⟩
 cases o with
 | nx ρ=>
  cases hd
  exact λσ H' F' rel'=>q .non H' [] ⟨rel'.same,.Qkf,λa ha=>by simp at ha,λ_=>⟨Zan,rfl,λa ha=>by simp at ha⟩⟩
 | bk ρ=>cases hd
 | ct ρ=>cases hd
 | rt d' fr'=>
  cases hd
  exact λv H' G r=>q v H' G r
structure Fact (K:PySem.W.Frag) (x:Str) (st:Stmt):Prop where
 ex:∃f fd,Fun K x x st f fd/\PySem.W.nsIn K mainGlobals x=some (some (.ref f))
theorem fact_mk{x:Str}{st:Stmt}{f:Addr}{oc:Value}{od an:Option Addr}{osl:Array (Option Value)}{kV doc pm cdv ct:Value}(a:PySem.W.nsIn K mainGlobals x=some (some (.ref f)))(l:K.lookup f=some ⟨oc,od,.func (PySem.W.fnOf x x (Qfj st) (Qck st) (Qz st) .none kV doc pm an cdv ct),osl⟩)
  (c:PySem.W.codeIn K cdv x=true) (k:PySem.W.keepIn K (.ref f)=true):Fact K x st:=⟨f,_,QxF l c k,a⟩
def Qv(x:Str)(st:Stmt)(ps:List Str):Prop:=∀(kV doc pm:Value) (an:Option Addr) (cdv ct:Value) (us:List Value),us.length=ps.length->bindArgs (PySem.W.fnOf x x (Qfj st) (Qck st) (Qz st) .none kV doc pm an cdv ct) ⟨us,[]⟩=pure (ps.zip us)
theorem Qw{h:Heap}{x:Str}{st:Stmt}{ps:List Str}{k n:Nat}{Γ:List (Str×FnR)}{cs:List (Str×Int)}{g:DS}(X:K.In h)(G:h.Ns mainGlobals mg)(F:Fact K x st)(S:Qdt (namesOf (Qz st)) ps (Qz st))(B:Qv x st ps)(M:Qg9 mg cs)(tab:QdH P w K mg base k Γ)
  (hc:QaW n (QkY st Γ cs) (Qck st)=some g):Known P w K mg base (k+1) x ⟨ps.length,[],Qo (namesOf (Qz st)).length g⟩:=by
 obtain⟨f,fd,Fn,a⟩:=F.ex
 refine⟨f,fd,ps,QrZ Fn S M tab hc,Zcq X G a,Fn.kp,λm hm=>⟨[],[],Fn.binds (B ·),.nil,λH=>by simp[Rps]⟩⟩
end
end HS
namespace HS
open PySem PySem.Spec L2 PyProof.Rows
theorem QtN{l:PySem.W.OpenLaw}{k:Nat}{q:Program}{loose:List Str}{XP:(Str->Option Value)->Heap->Prop}{YP:World->Heap->Prop}{d:DefRec}{K:Params->PySem.W.Frag}{den:Den}{x:Str}
  (hn:l.most=some 63) (hdf:d.params.defaults=[]) (hr:QbH k callerA) (hY:∀(w:World) (h:Heap),YP w h->(K w.params).In h)
  (hden:∀ns:List Int,ns.length<=63->∃fr,den [.lst (ns.map .int)]=some (.bl true,fr))
  (F:∀(w:World) (mg:Str->Option Value) (fa:Addr) (h:Heap),(K w.params).In h->h.Ns mainGlobals mg->mg d.name=some (.ref fa)→
   ∃fd:FuncData,(∀(s:Shared) (u:Value),BindsTo s fd ⟨[u],[]⟩ [(x,u)])∧
    ∀base:Heap,(K w.params).In base->base.Ns mainGlobals mg->QdE l.prog w (K w.params) mg base CX0 k fa fd [x] (spV (K w.params) 1 den)):
  PySem.W.WalkO q loose XP YP l.row.toRowW d [] (λf vs=>PySem.call f vs):=by
 refine Att.QoP hn hdf λw s₀ s₁ mg mb fa o pm cd doc a vs ns G Y ho hd hcd hmg hobj hints hlen hg=>?_
 have KX:=hY w _ Y
 obtain⟨fd,hb,hF⟩:=F w mg fa _ KX G.T.g hmg
 have h63:(63:Nat)<=sizeLine:=by decide
 refine QuY KX G.T.g G.T.b G.T.builtins G.T.nolimit hg hobj hints (Zx hlen h63) hr hF hb (λH hO hS=>?_) λH e s' z=>z
 have fx:Fix (K w.params) H a (ns.map V.int):=by
  rcases hS with(h | ⟨o,h⟩) | ⟨o,its,n,hk,hc,hdn,hda,hz,rv⟩
  ·rcases hO a with z | ⟨o,xs,z⟩<;>rw[h]at z<;>cases z
  ·exact .inl ⟨o,h⟩
  ·have e:=KX a o hk
   rw[hobj]at e
   cases e
   cases hda
   exact .inr ⟨vs,_,hk,by rw[Zp];exact Zx hlen h63,by simpa using rv⟩
 obtain⟨fr,hfr⟩:=hden ns hlen
 have rp:Rp (K w.params) H (.lst (ns.map .int)) (.ref a) []:=by
  simp only[Rp]
  refine⟨by rw[Zp];exact Zx hlen h63,a,_,rfl,.inr ⟨fx,?_⟩⟩
  have gen:∀ns:List Int,Rps (K w.params) H (ns.map .int) (ns.map .int) []:=by
   intro ns
   induction ns with
   | nil=>simp[Rps]
   | cons n ns ih=>simp only[ZM,Rps];exact⟨_,_,[],[],rfl,rfl,.int_mk,ih⟩
  exact gen ns
 refine⟨[.lst (ns.map .int)],[],.bl true,fr,?_,rfl,hfr,λv H' G r=>r.rp.QfH⟩
 simp only[Rps]
 exact⟨_,_,[],[],rfl,rfl,rp,rfl,rfl⟩
theorem Qy1{P:Program}{w:World}{K:PySem.W.Frag}{mg:Str->Option Value}{h:Heap}{x y:Str}{st:Stmt}{fa:Addr}{k n:Nat}{Γ:List (Str×FnR)}{cs:List (Str×Int)}{g:DS}(X:K.In h)(G:h.Ns mainGlobals mg)(hmg:mg x=some (.ref fa))
  (F:Fact K x st) (S:Qdt (namesOf (Qz st)) [y] (Qz st)) (B:Qv x st [y]) (M:Qg9 mg cs) (tab:∀base:Heap,QdH P w K mg base k Γ) (hc:QaW n (QkY st Γ cs) (Qck st)=some g):
  ∃fd:FuncData,(∀(s:Shared) (u:Value),BindsTo s fd ⟨[u],[]⟩ [(y,u)])∧
    ∀base:Heap,K.In base->base.Ns mainGlobals mg->QdE P w K mg base CX0 (k+1) fa fd [y] (spV K 1 (Qo (namesOf (Qz st)).length g)):=by
 obtain⟨f,fd,Fn,a⟩:=F.ex
 have e:=hmg.symm.trans (Zcq X G a)
 cases e
 refine⟨fd,λs u=>?_,λbase _ _=>QrZ Fn S M (tab base) hc⟩
 obtain⟨oc,od,kV,doc,pm,an,cdv,ct,osl,rfl,lk,hcd⟩:=Fn.ex
 exact .of_eq (B kV doc pm an cdv ct [u] rfl)
end HS
namespace HS
open PySem PySem.Spec PyProof.Rows L2
section
variable {P:Program}{w:World}{K:PySem.W.Frag}{mg:Str->Option Value}{base:Heap}
theorem QqD{h:Heap}{x:Str}{st:Stmt}{ps:List Str}{k:Nat}(X:K.In h)(G:h.Ns mainGlobals mg)(F:Fact K x st)(B:Qv x st ps):Known P w K mg base k x ⟨ps.length,[],λ_=>none⟩:=by
 obtain⟨f,fd,Fn,a⟩:=F.ex
 refine⟨f,fd,ps,⟨λvs H Q E h=>?_,λA outer s H args us vs Q E _ _ _ _ h=>?_⟩,Zcq X G a,Fn.kp,λm hm=>⟨[],[],Fn.binds (B ·),.nil,λH=>by simp[Rps]⟩⟩
 ·obtain⟨ds,L,d,fr,rps,hl,hd,q⟩:=h
  cases hd
 ·obtain⟨ds,L,d,fr,rps,hl,hd,q⟩:=h
  cases hd
end
end HS
namespace HS
open PySem PySem.Spec L2 PyProof.Rows
section
variable {P:Program}{w:World}{H H':Hp}{h0 h h' B:Heap}{fs:List Addr}
end
end HS
namespace HS
open PySem PySem.Spec L2 PyProof.Rows
section
variable {X:Cx}{st:Stmt}{sts:List Stmt}{e:Expr}{es:List Expr}{fs:DA}{f:DS}{fx fr fy:DX}{g:DT}{pos p np cpos:Pos}{x:Str}{k n:Nat}{fa:Addr}{fd:FuncData}{ps:List Str}{xd:List D->Option Str}
end
section
variable {X:Cx}{e:Expr}{fs:DA}{x:Str}{np cpos pos:Pos}
end
end HS
namespace HS
open PySem PySem.Spec L2 PyProof.Rows
section
variable {X:Cx}{Θ:Th}{ΘX:ThX}
end
section
variable (P:Program) (w:World) (K:PySem.W.Frag) (mg:Str->Option Value) (base:Heap)
end
section
variable {P:Program}{w:World}{K:PySem.W.Frag}{mg:Str->Option Value}{base:Heap}
end
end HS
namespace HS
open PySem PySem.Spec L2 PyProof.Rows
section
variable {X:Cx}{pins:List (Addr×Obj)}{σ:L2.St}{H:Hp}{s s':Shared}{B:Heap}
end
end HS
namespace HS
open PySem PySem.Spec L2 PyProof.Rows
section
variable {X:Cx}{pins:List (Addr×Obj)}{σ:L2.St}{H:Hp}{s s':Shared}{B:Heap}{ea C:Addr}
end
end HS
namespace HS
open PySem PySem.Spec L2 PyProof.Rows PySem.W
section
variable {prog:Program}{w:World}{A:Around}{E:Value->Shared->Prop}{s:Shared}{K:Frag}{a C:Addr}
end
end HS
namespace HS
open PySem PySem.Spec L2 PyProof.Rows
section
variable {X:Cx}{a:Expr}{fa:DE}{p p2 pos:Pos}{sub:Str->Str->Option Bool}
end
end HS
namespace HS
open PySem PySem.Spec L2 PyProof.Rows
section
variable {P:Program}{w:World}{K:PySem.W.Frag}{mg:Str->Option Value}{base:Heap}
end
section
variable {X:Cx}{e:Expr}{es:List Expr}{fs:DA}{pos p:Pos}{x:Str}{n k:Nat}{f:Addr}{fd:FuncData}{ps:List Str}{den:Den}
end
section
variable (P:Program) (w:World) (K:PySem.W.Frag) (mg:Str->Option Value) (base:Heap)
end
section
variable {P:Program}{w:World}{K:PySem.W.Frag}{mg:Str->Option Value}{base:Heap}
end
end HS
namespace HS
open PySem PySem.Spec L2 PyProof.Rows
section
variable {P:Program}{w:World}{K:PySem.W.Frag}{mg:Str->Option Value}{base:Heap}
end
end HS
namespace HS
open PySem PySem.Spec L2 PyProof.Rows
section
variable {K:PySem.W.Frag}{x y:Str}{C C':Addr}{v:Bool}
end
end HS
namespace HS
open PySem L2
noncomputable def pairD(p:Int×Int):D:= .tup [.int p.1,.int p.2]
noncomputable def Qdc(p:Int×Int×Bool):D:= .tup [.int p.1,.int p.2.1,.bl p.2.2]
noncomputable def Qt(ns:List Int):D:= .lst (ns.map .int)
noncomputable def Q2(ps:List (Int×Int)):D:= .lst (ps.map pairD)
noncomputable def QG(m:Int)(R L:List (Int×Int)):D:= .tup [.int m,Q2 R,Q2 L]
theorem Qb3{α:Type}{f:α->D}(h:∀a,(f a).flat=true):∀l:List α,QQ (l.map f)=true
 | []=>rfl
 | a::l=>by simp[QQ,h a,Qb3 h l]
@[simp] theorem QAz(i:Int):(D.int i).flat=true:=rfl
@[simp] theorem QAA(i:Bool):(D.bl i).flat=true:=rfl
@[simp] theorem QAu:D.non.flat=true:=rfl
@[simp] theorem QzZ(x:Str):(D.str x).flat=true:=rfl
@[simp] theorem QAx(xs:List D):(D.lst xs).flat=false:=rfl
@[simp] theorem QAh(xs:List D):(D.tup xs).flat=QQ xs:=rfl
@[simp] theorem QzT:QQ []=true:=rfl
@[simp] theorem Qzu(d:D)(ds:List D):QQ (d::ds)=(d.flat && QQ ds):=rfl
@[simp] theorem QzR(p:Int×Int):(pairD p).flat=true:=rfl
@[simp] theorem QAt(p:Int×Int×Bool):(Qdc p).flat=true:=rfl
@[simp] theorem QzP(ns:List Int):(Qt ns).flat=false:=rfl
@[simp] theorem QyT(ns:List (Int×Int)):(Q2 ns).flat=false:=rfl
@[simp] theorem QyO(ps:List (Int×Int)):QQ (ps.map pairD)=true:=Qb3 (λ_=>rfl) _
@[simp] theorem QqL(ps:List (Int×Int×Bool)):QQ (ps.map Qdc)=true:=Qb3 (λ_=>rfl) _
@[simp] theorem Qhj(ns:List Int):QQ (ns.map .int)=true:=Qb3 (λ_=>rfl) _
@[simp] theorem QzS(xs ys:List D):QQ (xs++ys)=(QQ xs && QQ ys):=Qdi xs ys
def Run(f:DS)(ρ:En)(Q:Out->Prop):Prop:=∃o,f ρ=some o/\Q o
noncomputable def Nx(Q:En->Prop):Out->Prop
 | .nx ρ=>Q ρ
 | _=>False
noncomputable def Rt(Q:D->Bool->Prop):Out->Prop
 | .rt d fr=>Q d fr
 | _=>False
theorem Run.mono{f:DS}{ρ:En}{Q Q':Out->Prop}(h:Run f ρ Q)(m:∀o,Q o->Q' o):Run f ρ Q':=let ⟨o,h1,h2⟩:=h;⟨o,h1,m o h2⟩
theorem Qu{ρ:En}{Q:Out->Prop}(h:Q (.nx ρ)):Run Qr ρ Q:=⟨_,rfl,h⟩
theorem run_seq{f g:DS}{ρ:En}{Q:Out->Prop}(h:Run f ρ (Nx λρ'=>Run g ρ' Q)):Run (Qe f g) ρ Q:=by
 obtain⟨o,h1,h2⟩:=h
 cases o with
 | nx ρ'=>
  obtain⟨o',h3,h4⟩:=h2
  exact⟨o',by simp[Qe,h1,h3],h4⟩
 | _=>exact False.elim h2
theorem QE{f g:DS}{ρ:En}{Q:Out->Prop}(h:Run f ρ λo=>match o with | .nx ρ'=>Run g ρ' Q | o=>Q o):Run (Qe f g) ρ Q:=by
 obtain⟨o,h1,h2⟩:=h
 cases o with
 | nx ρ'=>
  obtain⟨o',h3,h4⟩:=h2
  exact⟨o',by simp[Qe,h1,h3],h4⟩
 | bk ρ'=>exact⟨_,by simp[Qe,h1],h2⟩
 | ct ρ'=>exact⟨_,by simp[Qe,h1],h2⟩
 | rt d fr=>exact⟨_,by simp[Qe,h1],h2⟩
theorem Qg{i:Nat}{fa:DE}{r:R}{ρ:En}{Q:Out->Prop}(h:fa ρ=some r)(q:Q (.nx (asg i r ρ))):Run (Qs i fa) ρ Q:=⟨_,by simp[Qs,h],q⟩
theorem QbX{fa:DE}{r:R}{ρ:En}{Q:Out->Prop}(h:fa ρ=some r)(q:Q (.rt r.d (r.norm.fr && decide r.norm.M.Nodup))):Run (QM fa) ρ Q:=⟨_,by simp[QM,h],q⟩
theorem Qab{g:DT}{f1 f2:DS}{b:Bool}{ρ:En}{Q:Out->Prop}(h:g ρ=some b)(q1:b=true->Run f1 ρ Q)(q2:b=false->Run f2 ρ Q):Run (sIf g f1 f2) ρ Q:=by
 cases b with
 | true=>obtain⟨o,h1,h2⟩:=q1 rfl;exact⟨o,by simp[sIf,h,h1],h2⟩
 | false=>obtain⟨o,h1,h2⟩:=q2 rfl;exact⟨o,by simp[sIf,h,h1],h2⟩
theorem QW{k:Nat}{f:DS}{ds:List D}{d:D}{fr:Bool}(h:Run f (QbS k ds) (Rt λd' fr'=>d'=d/\fr'=fr)):Qo k f ds=some (d,fr):=by
 obtain⟨o,h1,h2⟩:=h
 unfold Qo
 cases o with
 | rt d' fr'=>obtain⟨rfl,rfl⟩:=h2;rw[h1];rfl
 | _=>exact False.elim h2
theorem QnI{α:Type}{t:Tg}{fb:DS}{toD:α->D}{Q:Out->Prop}(I:Nat->En->Prop):∀(xs ys:List α) (ρ:En),I ys.length ρ→
  (∀i x ρ,(ys++xs)[i]? =some x->ys.length<=i->I i ρ->∃ρ1,Qcd t (toD x) ρ=some ρ1/\Run fb ρ1 λo=>match o with | .nx ρ2=>I (i+1) ρ2 | .ct ρ2=>I (i+1) ρ2 | .bk ρ2=>Q (.nx ρ2) | .rt d fr=>Q (.rt d fr))→
  (∀ρ,I (ys++xs).length ρ->Q (.nx ρ))->Run (QdK t fb (xs.map toD)) ρ Q
 | [],ys,ρ,h0,_,fin=>⟨_,rfl,fin ρ (by simpa using h0)⟩
 | x::xs,ys,ρ,h0,turn,fin=>by
  obtain⟨ρ1,h1,o,h2,h3⟩:=turn ys.length x ρ (by simp) (Zi _) h0
  have next:∀ρ2,I (ys.length+1) ρ2->Run (QdK t fb (xs.map toD)) ρ2 Q:=λρ2 hi=>
   QnI I xs (ys++[x]) ρ2 (by simpa using hi) (λi y ρ' e hl=>turn i y ρ' (by simpa using e) (by simp at hl;omega)) (λρ' h=>fin ρ' (by simpa using h))
  cases o with
  | nx ρ2=>obtain⟨o',e1,e2⟩:=next ρ2 h3;exact⟨o',by simp[QdK,h1,h2,e1],e2⟩
  | ct ρ2=>obtain⟨o',e1,e2⟩:=next ρ2 h3;exact⟨o',by simp[QdK,h1,h2,e1],e2⟩
  | bk ρ2=>exact⟨_,by simp[QdK,h1,h2],h3⟩
  | rt d fr=>exact⟨_,by simp[QdK,h1,h2],h3⟩
theorem QaI{α:Type}{fi:DI}{t:Tg}{fb:DS}{toD:α->D}{ρ:En}{ir:IR}{Q:Out->Prop}(xs:List α)(I:Nat->En->Prop)(h:fi ρ=some ir)(hx:ir.items=xs.map toD)(h0:I 0 (QaT ir.M ρ))
  (turn:∀i x ρ,xs[i]? =some x->I i ρ->∃ρ1,Qcd t (toD x) ρ=some ρ1/\Run fb ρ1 λo=>match o with | .nx ρ2=>I (i+1) ρ2 | .ct ρ2=>I (i+1) ρ2 | .bk ρ2=>Q (.nx ρ2) | .rt d fr=>Q (.rt d fr))
  (fin:∀ρ,I xs.length ρ->Q (.nx ρ)):Run (Qbt fi t fb) ρ Q:=by
 obtain⟨o,h1,h2⟩:=QnI (t:=t) (fb:=fb) (toD:=toD) (Q:=Q) I xs [] (QaT ir.M ρ) h0 (λi x ρ e _=>turn i x ρ (by simpa using e)) (λρ h=>fin ρ (by simpa using h))
 exact⟨o,by simp[Qbt,h,hx,h1],h2⟩
theorem Ql5{α:Type}{t:Tg}{ft:DT}{fe:DE}{ρc:En}{toD:α->D}{keep:α->Bool}{out:α->D}:∀(xs:List α) (acc:List D),
  (∀x∈xs,∃ρ1,Qcd t (toD x) ρc=some ρ1/\ft ρ1=some (keep x)/\(keep x=true->∃r,fe ρ1=some r/\r.d=out x/\r.norm.fr=true))→
  (xs.map toD).foldlM (Qf8 t ft fe ρc) (acc,true)=some (acc++(xs.filter keep).map out,true)
 | [],acc,_=>by simp
 | x::xs,acc,h=>by
  obtain⟨ρ1,h1,h2,h3⟩:=h x Zo
  have ih:=λacc=>Ql5 xs acc (λy hy=>h y (Ze _ hy))
  cases hk:keep x with
  | false=>
   have e:Qf8 t ft fe ρc (acc,true) (toD x)=some (acc,true):=by simp[Qf8,h1,h2,hk]
   simp[ZbW,e,ih,hk]
  | true=>
   obtain⟨r,h4,h5,h6⟩:=h3 hk
   have e:Qf8 t ft fe ρc (acc,true) (toD x)=some (acc++[out x],true):=by simp[Qf8,h1,h2,hk,h4,h5,h6]
   simp[ZbW,e,ih,hk]
theorem QdX{α:Type}{fi:DI}{t:Tg}{cap:List (Option Nat)}{ft:DT}{fe:DE}{ρ:En}{ir:IR}{toD:α->D}{keep:α->Bool}{out:α->D}(xs:List α)(h:fi ρ=some ir)(hx:ir.items=xs.map toD)
  (turn:∀x∈xs,∃ρ1,Qcd t (toD x) (Qfa cap ρ)=some ρ1/\ft ρ1=some (keep x)/\(keep x=true->∃r,fe ρ1=some r/\r.d=out x/\r.norm.fr=true)):
  QI fi t cap ft fe ρ=some ⟨.lst ((xs.filter keep).map out),true,[]⟩:=by
 unfold QI
 rw[h,Za,hx,Ql5 xs [] turn]
 simp
theorem QF{α:Type}{fi:DI}{t:Tg}{cap:List (Option Nat)}{fe:DE}{ρ:En}{ir:IR}{toD:α->D}{out:α->D}(xs:List α)(h:fi ρ=some ir)(hx:ir.items=xs.map toD)
  (turn:∀x∈xs,∃ρ1,Qcd t (toD x) (Qfa cap ρ)=some ρ1/\∃r,fe ρ1=some r/\r.d=out x/\r.norm.fr=true):
  QI fi t cap QR fe ρ=some ⟨.lst (xs.map out),true,[]⟩:=by
 have:=QdX (keep:=λ_=>true) (ft:=QR) xs h hx (cap:=cap) (t:=t) (fe:=fe) (out:=out) λx hx=>by
  obtain⟨ρ1,h1,h2⟩:=turn x hx
  exact⟨ρ1,h1,rfl,λ_=>h2⟩
 rw[this,Zbf.mpr λ_ _=>rfl]
@[simp] theorem Qz5(d:D):R.norm ⟨d,true,[]⟩=⟨d,true,[]⟩:=by unfold R.norm;split<;>rfl
@[simp] theorem Ql(i:Nat)(d:D)(ρ:En):asg i ⟨d,true,[]⟩ ρ=ρ.set i (some (d,true)):=by unfold asg;simp[kill]
theorem Qb9{i:Nat}{d:D}{fr:Bool}{M:List Nat}{ρ:En}(h:d.flat=true):asg i ⟨d,fr,M⟩ ρ=ρ.set i (some (d,true)):=by
 unfold asg R.norm;simp[h,kill]
theorem Qbi{i:Nat}{ρ:En}{d:D}{b:Bool}(h:ρ[i]? =some (some (d,b))):Qa i ρ=some (if d.flat then⟨d,true,[]⟩else if b then⟨d,true,[i]⟩else⟨d,false,[]⟩):=by
 unfold Qa
 rw[h]
 dsimp only
 split
 ·simp_all
 ·split<;>simp_all
theorem Qn1{i:Nat}{ρ:En}{n:Int}{b:Bool}(h:ρ[i]? =some (some (.int n,b))):Qa i ρ=some ⟨.int n,true,[]⟩:=by rw[Qbi h];rfl
@[simp] theorem Qdd(d:D)(ρ:En):dC d ρ=some ⟨d,true,[]⟩:=rfl
theorem Qb4{g:D->D->Option D}{fa fb:DE}{ρ:En}{ra rb:R}{d:D}(ha:fa ρ=some ra)(hb:fb ρ=some rb)(h:g ra.d rb.d=some d):dOp g fa fb ρ=some ⟨d,true,[]⟩:=by simp[dOp,ha,hb,h]
theorem Qj{fa:DE}{fs:DA}{ρ:En}{r:R}{rs:RA}(ha:fa ρ=some r)(hs:fs ρ=some rs):Qc fa fs ρ=some ⟨r.d::rs.ds,r.fr && rs.fr,r.M++rs.M⟩:=by simp[Qc,ha,hs]
@[simp] theorem QL(ρ:En):Qf ρ=some ⟨[],true,[]⟩:=rfl
noncomputable def vf(d:D)(b:Bool)(i:Nat):R:=if d.flat then⟨d,true,[]⟩else if b then⟨d,true,[i]⟩else⟨d,false,[]⟩
@[simp] theorem QAD(d:D)(b:Bool)(i:Nat):(vf d b i).d=d:=by unfold vf;split;rfl;split<;>rfl
@[simp] theorem Qox(i j:Int)(h:0<=j):QaX i j=i % j:=by unfold QaX;rw[if_pos h]
@[simp] theorem Qjp(i j:Int)(h:0<=j):QdD i j=i / j:=by unfold QdD;rw[if_pos h]
theorem QdB{i j:Int}(h:i.natAbs<2^64):Qed i j=true:=by unfold Qed;simp[h]
theorem Qfe{i j:Int}(h:j.natAbs<2^64):Qed i j=true:=by unfold Qed;simp[h]
theorem QeI{i j:Int}(h1:Builtin.Int.intBits i<=2^20)(h2:Builtin.Int.intBits j<=2^20):Qed i j=true:=by
 unfold Qed
 rw[decide_eq_true h1,decide_eq_true h2,Bool.and_self,Bool.or_true]
theorem Qf9:(sizeLine:Nat)=16777216:=sizeLine_eq
noncomputable def Qb(m:Nat)(f:Nat->Int):D:= .lst ((List.range m).map λi=> .int (f i))
noncomputable def Qd(m n:Nat)(f:Nat->Nat->Int):D:= .lst ((List.range m).map λi=>Qb n (f i))
@[simp] theorem Qz2(m:Nat)(f:Nat->Int):(Qb m f).flat=false:=rfl
@[simp] theorem QAm(m n:Nat)(f:Nat->Nat->Int):(Qd m n f).flat=false:=rfl
@[simp] theorem Qsk(m:Nat)(f:Nat->Int):QQ ((List.range m).map λi=>D.int (f i))=true:=Qb3 (f:=λi=>D.int (f i)) (λ_=>rfl) _
noncomputable def up(f:Nat->Int)(i:Nat)(v:Int):Nat->Int:=λj=>if j=i then v else f j
noncomputable def up2(f:Nat->Nat->Int)(i j:Nat)(v:Int):Nat->Nat->Int:=λk=>if k=i then up (f k) j v else f k
theorem QbB{n:Nat}{i:Int}(h0:0<=i)(h:i<n):ixN n i=some i.toNat:=by
 unfold ixN;rw[if_pos (by omega),if_pos (by omega)]
theorem Qio{α:Type}{xs:List α}{i:Int}(h0:0<=i)(h:i<xs.length):atI xs i=xs[i.toNat]? :=by
 unfold atI;rw[QbB h0 h];rfl
theorem QeY{α:Type}{m:Nat}{f:Nat->α}{i:Nat}{v:α}:((List.range m).map f).set i v=(List.range m).map λj=>if j=i then v else f j:=by
 apply ZaE
 intro k
 rw[ZbL]
 simp only[Zp,Zu,Zl]
 by_cases hk:k<m
 ·rw[Zy hk]
  by_cases e:i=k
  ·subst e;simp[hk]
  ·simp[e,Ne.symm e]
 ·rw[Zm (by simp;omega)]
  by_cases e:i=k
  ·subst e;simp[hk]
  ·simp[e]
theorem QiH{m:Nat}{f:Nat->Int}{i:Nat}{v:Int}:((List.range m).map λj=>D.int (f j)).set i (.int v)=(List.range m).map λj=>D.int (up f i v j):=by
 rw[QeY]
 congr 1;funext j;unfold up;split<;>rfl
theorem Qvu{m:Nat}{f:Nat->Int}{i:Int}(h0:0<=i)(h:i<m):atI ((List.range m).map λj=>D.int (f j)) i=some (.int (f i.toNat)):=by
 rw[Qio h0 (by simpa using h),Zl,Zy (by omega)];rfl
theorem QkS{m n:Nat}{f:Nat->Nat->Int}{i:Int}(h0:0<=i)(h:i<m):atI ((List.range m).map λj=>Qb n (f j)) i=some (Qb n (f i.toNat)):=by
 rw[Qio h0 (by simpa using h),Zl,Zy (by omega)];rfl
theorem Qnz{x m:Nat}{f:Nat->Int}{fi fa:DE}{ρ:En}{i:Int}{v:Int}{ri ra:R}{Q:Out->Prop}(hx:ρ[x]? =some (some (Qb m f,true)))(hi:fi ρ=some ri)(ei:ri.d= .int i)(ha:fa ρ=some ra)(ea:ra.d= .int v)(h0:0<=i)(h:i<m)
  (q:Q (.nx (ρ.set x (some (Qb m (up f i.toNat v),true))))):Run (Qbr x Q7 fi fa) ρ Q:=by
 refine⟨_,?_,q⟩
 have hn:ra.norm=⟨.int v,true,[]⟩:=by unfold R.norm;rw[ea];rfl
 unfold Qbr
 rw[ha,Za,hx]
 simp only[Q7,Za,hi,ei,QaS,Qb,Zp,Zu,QbB h0 h,hn,ea,QaR,QiH]
 simp[kill]
theorem Qm3{g:D->D->Option D}{x m n:Nat}{f:Nat->Nat->Int}{fp fi fa:DE}{ρ:En}{i j w:Int}{rp ri ra:R}{Q:Out->Prop}(hx:ρ[x]? =some (some (Qd m n f,true)))(hp:fp ρ=some rp)(ep:rp.d= .int i)(hi:fi ρ=some ri)(ei:ri.d= .int j)(ha:fa ρ=some ra)
  (h0:0<=i) (h:i<m) (k0:0<=j) (k:j<n) (hg:g (.int (f i.toNat j.toNat)) ra.d=some (.int w)) (q:Q (.nx (ρ.set x (some (Qd m n (up2 f i.toNat j.toNat w),true))))):Run (Qf2 g x (Qbs Q7 fp) fi fa) ρ Q:=by
 refine⟨_,?_,q⟩
 have hj:((List.range n).map λk=>D.int (f i.toNat k))[j.toNat]? =some (.int (f i.toNat j.toNat)):=by rw[Zl,Zy (by omega)];rfl
 have hd:QaS (Qd m n f) [i]=some (Qb n (f i.toNat)):=by
  simp only[QaS,Qd,D.items,Za,QkS h0 h]
 have hu:QaR [i] (Qd m n f) (.lst (((List.range n).map λk=>D.int (f i.toNat k)).set j.toNat (.int w)))=Qd m n (up2 f i.toNat j.toNat w):=by
  simp only[QaR,Qd,Zp,Zu,QbB h0 h,QiH]
  rw[QeY]
  congr 2;funext k
  unfold up2
  split
  ·rename_i e;subst e;rfl
  ·rfl
 unfold Qf2
 rw[hx]
 simp only[Qbs,Q7,Za,hp,ep,ZaT,hi,ei,hd,Qb,Zp,Zu,QbB k0 k,hj,ha,hg,Zab]
 rw[hu]
theorem QaL{fa:DE}{ρ:En}{r:R}{n:Nat}(h:fa ρ=some r)(e:r.d= .int n)(hn:n<=16777216):Qay fa ρ=some ⟨(List.range n).map λ(k:Nat)=> .int (k:Int),[]⟩:=by
 unfold Qay
 rw[h,Za,e]
 dsimp only
 rw[if_pos ⟨by omega,by omega⟩]
 simp[Qh1]
theorem QpP{α:Type}(x:α):∀n:Nat,(List.replicate n [x]).flatten=(List.range n).map λ_=>x
 | 0=>rfl
 | n+1=>by
  rw[Zaf,Zal,QpP x n,Zbr,ZM,Zag];rfl
theorem QeL{fb:DE}{ρ:En}{r:R}{n:Nat}{z:Int}(h:fb ρ=some r)(e:r.d= .int n)(hn:n<=16777216):Qam (Qae (Qc (dC (.int z)) Qf)) fb ρ=some ⟨Qb n (λ_=>z),true,[]⟩:=by
 have h1:Qae (Qc (dC (.int z)) Qf) ρ=some ⟨.lst [.int z],true,[]⟩:=rfl
 unfold Qam
 rw[h1,Za,h,Za,e]
 dsimp only
 rw[if_pos ⟨by simp[Qf9];omega,by omega,by omega,rfl⟩]
 simp only[ZW,QpP]
 rfl
noncomputable def QlN:DS:=(Qe (Qs 2 (QI (Q3 (Qa 0)) (.tp [1,2]) [none,none,none] QR (Qbb (Qc (Qa 1) (Qc (Qa 2) Qf))))) (Qe (Qs 3 (QI (Q3 (Qa 0)) (.tp [1,2]) [none,none,none] QR (Qbb (Qc (Qa 2) (Qc (Qa 1) Qf))))) (Qe (QM (QJ (QJ (Qa 2) (Qa 3)) (dList (Qc (Qa 1) Qf)))) Qr)))
theorem Qix{fa fb:DE}{ρ:En}{ra rb:R}{A B:List (Int×Int)}(ha:fa ρ=some ra)(ea:ra.d=Q2 A)(hb:fb ρ=some rb)(eb:rb.d=Q2 B)(hl:A.length+B.length<=16777216):QJ fa fb ρ=some ⟨Q2 (A++B),true,[]⟩:=by
 unfold QJ
 rw[ha,Za,hb,Za,ea,eb]
 simp only[Q2,Zp,Qf9,if_pos hl,QaO]
 simp
theorem QjY{ρ:En}{A:List (Int×Int)}{fs:DA}{rs:RA}(h:fs ρ=some rs)(e:rs.ds=[Q2 A])(_:True=True):dList fs ρ=some ⟨Q2 A,true,[]⟩:=by
 unfold dList
 rw[h,Za,e]
 simp[Q2,QaO]
theorem Qx{fa:DE}{r:R}{g:DS}{ρ:En}{Q:D->Bool->Prop}(h:fa ρ=some r)(q:Q r.d (r.norm.fr && decide r.norm.M.Nodup)):Run (Qe (QM fa) g) ρ (Rt Q):=QE (QbX h q)
theorem Qrk{R L:List (Int×Int)}(hl:R.length+R.length+L.length<=16777216):Qo 4 QlN [Q2 R,Q2 L]=some (Q2 (R++R.map Prod.swap++L),true):=by
 refine QW ?_
 refine run_seq (Qg (QF (toD:=pairD) (out:=pairD) R rfl rfl λx _=>⟨[none,some (.int x.1,true),some (.int x.2,true)],rfl,⟨pairD x,true,[]⟩,rfl,rfl,rfl⟩) ?_)
 refine run_seq (Qg (QF (toD:=pairD) (out:=λx=>pairD x.swap) R rfl rfl λx _=>⟨[none,some (.int x.1,true),some (.int x.2,true)],rfl,⟨pairD x.swap,true,[]⟩,rfl,rfl,rfl⟩) ?_)
 have e1:(R.map λx=>pairD x.swap)=(R.map Prod.swap).map pairD:=by simp[Zag,Function.comp_def]
 rw[e1]
 exact Qx (Qix (Qix rfl rfl rfl rfl (by simpa using(by omega:R.length+R.length<=16777216))) rfl (QjY rfl rfl rfl) rfl (by simpa using hl)) ⟨rfl,rfl⟩
theorem Qm{n:Nat}{den:Den}{dfl:List D}{fs:DA}{ρ:En}{r:RA}{d:D}(h:fs ρ=some r)(hd:den (r.ds++dfl)=some (d,true))(hl:r.ds.length+dfl.length=n):Qn n den dfl fs ρ=some ⟨d,true,[]⟩:=by
 unfold Qn
 rw[h,Za,if_pos hl,hd]
 simp
theorem Q6{fa:DE}{ρ:En}{r:R}{xs:List D}(h:fa ρ=some r)(e:r.d= .lst xs):Q3 fa ρ=some ⟨xs,r.M⟩:=by
 unfold Q3
 rw[h,Za,e]
noncomputable def stepT(m:Nat)(f:Nat->Nat->Int)(s:Int×Int):Nat->Nat->Int:=
 let f1:=if s.1<m then up2 f s.1.toNat s.1.toNat (f s.1.toNat s.1.toNat-1)else f
 if s.1<m/\s.2<m then up2 f1 s.1.toNat s.2.toNat (f1 s.1.toNat s.2.toNat+1)else f1
noncomputable def QH(m:Nat)(S:List (Int×Int)):Nat->Nat->Int:=S.foldl (stepT m) λ_ _=>0
noncomputable def QfU(Qd8:Den):DS:=(Qe (Qs 1 (Qao (Qq (Qa 0) (dC (.int 0))))) (Qe (Qs 2 (QI (Qay (Qa 1)) (.nm 1) [none,none,some 1] QR (Qam (Qae (Qc (dC (.int 0)) Qf)) (Qa 2)))) (Qe (Qbt (Q3 (Qn 2 Qd8 [] (Qc (Qq (Qa 0) (dC (.int 1))) (Qc (Qq (Qa 0) (dC (.int 2))) Qf)))) (.tp [3,4]) (Qe (sIf (QN (dOp gLt (Qa 3) (Qa 1))) (Qe (Qf2 QaJ 2 (Qbs Q7 (Qa 3)) (Qa 3) (dC (.int 1))) Qr) Qr) (Qe (sIf (Qhh (QN (dOp gLt (Qa 3) (Qa 1))) (QN (dOp gLt (Qa 4) (Qa 1)))) (Qe (Qf2 (gI λi j=>some (.int (i+j))) 2 (Qbs Q7 (Qa 3)) (Qa 4) (dC (.int 1))) Qr) Qr) Qr))) (Qe (QM (Qa 2)) Qr))))
theorem Qud{Qd8:Den}{m:Nat}{R L S:List (Int×Int)}(hm:m<=16777216)(hs:Qd8 [Q2 R,Q2 L]=some (Q2 S,true))(hS:∀s∈S,0<=s.1/\0<=s.2):Qo 5 (QfU Qd8) [QG m R L]=some (Qd m m (QH m S),true):=by
 refine QW ?_
 refine run_seq (Qg (r:=⟨.int m,false,[]⟩) rfl ?_)
 refine run_seq (Qg (QF (out:=λ_=>Qb m λ_=>0) (List.range m) (QaL (n:=m) (r:=⟨.int m,true,[]⟩) rfl rfl hm) rfl λx _=>⟨[none,some (.int x,true),some (.int m,true)],rfl,_,QeL (r:=⟨.int m,true,[]⟩) rfl rfl hm,rfl,rfl⟩) ?_)
 refine run_seq (QaI (toD:=pairD) S (λi ρ=>∃j1 j2,ρ=[some (QG m R L,false),some (.int m,true),some (Qd m m (QH m (S.take i)),true),j1,j2]) (ir:=⟨S.map pairD,[]⟩) ?_ rfl ⟨none,none,rfl⟩ ?_ ?_)
 ·exact Q6 (Qm (r:=⟨[Q2 R,Q2 L],false,[]⟩) (d:=Q2 S) rfl hs rfl) rfl
 ·rintro i s ρ hi ⟨j1,j2,rfl⟩
  refine⟨_,rfl,?_⟩
  obtain⟨s1,s2⟩:=hS s (ZP hi)
  refine run_seq (f:=sIf _ _ _) (Run.mono (Q:=Nx λρ=>ρ=[some (QG m R L,false),some (.int m,true),some (Qd m m (if s.1<m then up2 (QH m (S.take i)) s.1.toNat s.1.toNat (QH m (S.take i) s.1.toNat s.1.toNat-1)else QH m (S.take i)),true),some (.int s.1,true),some (.int s.2,true)]) ?_ ?_)
  ·refine Qab (b:=decide (s.1<m)) rfl (λh=>?_) (λh=>?_)
   ·have h:=of_decide_eq_true h
    rw[if_pos h]
    exact run_seq (Qm3 (i:=s.1) (j:=s.1) rfl rfl rfl rfl rfl rfl s1 h s1 h rfl (Qu rfl))
   ·have h:=of_decide_eq_false h
    rw[if_neg h]
    exact Qu rfl
  ·intro o ho
   cases o with
   | nx ρ=>
    subst ho
    have fin:QH m (S.take (i+1))=stepT m (QH m (S.take i)) s:=by
     unfold QH
     rw[List.take_add_one,hi,List.foldl_append];rfl
    refine run_seq (f:=sIf _ _ _) (Run.mono (Q:=Nx λρ=>ρ=[some (QG m R L,false),some (.int m,true),some (Qd m m (stepT m (QH m (S.take i)) s),true),some (.int s.1,true),some (.int s.2,true)]) ?_ ?_)
    ·refine Qab (b:=decide (s.1<m/\s.2<m)) ?_ (λh=>?_) (λh=>?_)
     ·by_cases h:s.1<(m:Int)
      ·simp[Qhh,QN,dOp,Qa,gLt,gI,D.tru,h]
      ·simp[Qhh,QN,dOp,Qa,gLt,gI,D.tru,h]
     ·have h:=of_decide_eq_true h
      refine run_seq (Qm3 (i:=s.1) (j:=s.2) rfl rfl rfl rfl rfl rfl s1 h.1 s2 h.2 rfl (Qu ?_))
      unfold stepT
      rw[if_pos h];rfl
     ·have h:=of_decide_eq_false h
      refine Qu ?_
      unfold stepT
      rw[if_neg h];rfl
    ·intro o ho
     cases o with
     | nx ρ=>
      subst ho
      exact Qu ⟨_,_,by rw[fin]⟩
     | _=>exact False.elim ho
   | _=>exact False.elim ho
 ·rintro ρ ⟨j1,j2,rfl⟩
  rw[ZbZ]
  exact Qx rfl ⟨rfl,rfl⟩
noncomputable def hit(i j:Nat)(s:Int×Int):Int:=(if s.1=i/\s.2=j then 1 else 0)-(if s.1=i/\i=j then 1 else 0)
theorem QpI{f:Nat->Nat->Int}{a b:Nat}{v:Int}{i j:Nat}:up2 f a b v i j=if i=a/\j=b then v else f i j:=by
 unfold up2 up
 by_cases h1:i=a
 ·by_cases h2:j=b
  ·simp[h1,h2]
  ·simp[h1,h2]
 ·simp[h1]
theorem Qsq{m:Nat}{f:Nat->Nat->Int}{s:Int×Int}{i j:Nat}(hi:i<m)(hj:j<m)(h1:0<=s.1)(h2:0<=s.2):stepT m f s i j=f i j+hit i j s:=by
 unfold stepT hit
 have e1:(s.1=(i:Int))↔(i=s.1.toNat):=by omega
 have e2:(s.2=(j:Int))↔(j=s.2.toNat):=by omega
 simp only[e1,e2]
 by_cases c1:s.1<(m:Int)
 ·by_cases c2:s.2<(m:Int)
  ·simp only[c1,c2,and_self,if_true,QpI]
   generalize s.1.toNat=a
   generalize s.2.toNat=b
   by_cases d1:i=a
   ·subst d1
    by_cases d2:j=b
    ·subst d2
     by_cases d3:i=j
     ·subst d3;simp
     ·have d4:¬j=i:=λz=>d3 z.symm
      simp[d3,d4]
    ·by_cases d3:i=j
     ·subst d3;simp[d2];omega
     ·have d4:¬j=i:=λz=>d3 z.symm
      simp[d2,d3,d4]
   ·simp[d1]
  ·have d2:¬(j=s.2.toNat):=by omega
   simp only[c1,c2,and_false,if_false,if_true,QpI,d2]
   generalize s.1.toNat=a
   by_cases d1:i=a
   ·subst d1
    by_cases d3:i=j
    ·subst d3;simp;omega
    ·have d4:¬j=i:=λz=>d3 z.symm
     simp[d3,d4]
   ·simp[d1]
 ·have d1:¬(i=s.1.toNat):=by omega
  simp[c1,d1]
theorem Ql8{m:Nat}{i j:Nat}(hi:i<m)(hj:j<m):∀(S:List (Int×Int)) (f:Nat->Nat->Int),(∀s∈S,0<=s.1/\0<=s.2)->S.foldl (stepT m) f i j=f i j+(S.map (hit i j)).sum
 | [],f,_=>by simp
 | s::S,f,h=>by
  obtain⟨h1,h2⟩:=h s Zo
  rw[List.foldl_cons,Ql8 hi hj S _ (λt ht=>h t (Ze _ ht)),Qsq hi hj h1 h2,ZM,ZaV]
  omega
theorem Qem{m:Nat}{S:List (Int×Int)}{i j:Nat}(hi:i<m)(hj:j<m)(h:∀s∈S,0<=s.1/\0<=s.2):QH m S i j=(S.map (hit i j)).sum:=by
 unfold QH
 rw[Ql8 hi hj S _ h];simp
noncomputable def QK(R L:List (Int×Int)):List (Int×Int):=R++R.map Prod.swap++L
def Good(m:Nat)(s:Int×Int):Prop:=0<=s.1/\0<=s.2/\s.1<=m/\s.2<=m/\s.1≠s.2
theorem Qe8{m:Nat}{R L:List (Int×Int)}(hR:∀s∈R,Good m s)(hL:∀s∈L,Good m s):∀s∈QK R L,Good m s:=λs hs=>by
 unfold QK at hs
 rcases ZC.mp hs with hs | hs
 ·rcases ZC.mp hs with hs | hs
  ·exact hR s hs
  ·obtain⟨t,ht,rfl⟩:=ZT.mp hs
   obtain⟨h1,h2,h3,h4,h5⟩:=hR t ht
   exact⟨h2,h1,h4,h3,λz=>h5 z.symm⟩
 ·exact hL s hs
def Qn0(d:Den):Prop:=∀(m:Nat) (R L:List (Int×Int)),m<=1000->R.length+R.length+L.length<=1000000->(∀s∈R,Good m s)->(∀s∈L,Good m s)->d [QG m R L]=some (Qd m m (QH m (QK R L)),true)
theorem QvP:Qn0 (Qo 5 (QfU (Qo 4 QlN))):=λm R L hm hl hR hL=>by
 refine Qud (by omega) (Qrk (by omega)) λs hs=>?_
 obtain⟨h1,h2,_⟩:=Qe8 hR hL s hs
 exact⟨h1,h2⟩
theorem Qp0(a b:Int):deq (.int a) (.int b)=decide (a=b):=by
 show PyData.eqv (.int a) (.int b)=_
 unfold PyData.eqv
 exact Bool.beq_eq_decide_eq a b
theorem Qba{fa fb:DE}{ρ:En}{ra rb:R}{a b:Int}(ha:fa ρ=some ra)(ea:ra.d= .int a)(hb:fb ρ=some rb)(eb:rb.d= .int b):dOp gEq fa fb ρ=some ⟨.bl (decide (a=b)),true,[]⟩:=by
 refine Qb4 ha hb ?_
 rw[ea,eb]
 show some (D.bl (deq (.int a) (.int b)))=_
 rw[Qp0]
theorem QdF{fa fb:DE}{ρ:En}{ra rb:R}{a b:Int}(ha:fa ρ=some ra)(ea:ra.d= .int a)(hb:fb ρ=some rb)(eb:rb.d= .int b):dOp gNe fa fb ρ=some ⟨.bl (!decide (a=b)),true,[]⟩:=by
 refine Qb4 ha hb ?_
 rw[ea,eb]
 show some (D.bl (!deq (.int a) (.int b)))=_
 rw[Qp0]
theorem Qu9{fa fb:DE}{ρ:En}{a b:Bool}(ha:fa ρ=some ⟨.bl a,true,[]⟩)(hb:fb ρ=some ⟨.bl b,true,[]⟩):dOr fa fb ρ=some ⟨.bl (a || b),true,[]⟩:=by
 unfold dOr
 rw[ha]
 cases a<;>simp[D.tru,hb]
theorem Qng{fa fb:DE}{ρ:En}{a b:Bool}(ha:fa ρ=some ⟨.bl a,true,[]⟩)(hb:fb ρ=some ⟨.bl b,true,[]⟩):QhM fa fb ρ=some ⟨.bl (a && b),true,[]⟩:=by
 unfold QhM
 rw[ha]
 cases a<;>simp[D.tru,hb]
theorem QO{fa:DE}{ρ:En}{r:R}{b:Bool}(ha:fa ρ=some r)(e:r.d= .bl b):QN fa ρ=some b:=by
 unfold QN
 rw[ha,Za,e];rfl
theorem QbF{g:DT}{ρ:En}{b:Bool}(h:g ρ=some b):Qcy g ρ=some (!b):=by unfold Qcy;rw[h];rfl
theorem Qdf{g1 g2:DT}{ρ:En}{a b:Bool}(ha:g1 ρ=some a)(hb:g2 ρ=some b):bOr g1 g2 ρ=some (a || b):=by
 unfold bOr;rw[ha];cases a<;>simp[hb]
theorem QvW{g1 g2:DT}{ρ:En}{a b:Bool}(ha:g1 ρ=some a)(hb:g2 ρ=some b):Qhh g1 g2 ρ=some (a && b):=by
 unfold Qhh;rw[ha];cases a<;>simp[hb]
theorem QaC{fa fb:DE}{ρ:En}{ra rb:R}{a b:Int}(ha:fa ρ=some ra)(ea:ra.d= .int a)(hb:fb ρ=some rb)(eb:rb.d= .int b)(h:Qed a b=true):Qam fa fb ρ=some ⟨.int (a*b),true,[]⟩:=by
 unfold Qam
 rw[ha,Za,hb,Za,ea,eb]
 simp[h]
theorem Qaf{fa fb:DE}{ρ:En}{ra rb:R}{a b:Int}(ha:fa ρ=some ra)(ea:ra.d= .int a)(hb:fb ρ=some rb)(eb:rb.d= .int b):QJ fa fb ρ=some ⟨.int (a+b),true,[]⟩:=by
 unfold QJ
 rw[ha,Za,hb,Za,ea,eb]
theorem QaD{fa fb:DE}{ρ:En}{ra rb:R}{a b:Int}(ha:fa ρ=some ra)(ea:ra.d= .int a)(hb:fb ρ=some rb)(eb:rb.d= .int b)(h:0<b):dOp QaV fa fb ρ=some ⟨.int (a % b),true,[]⟩:=by
 refine Qb4 ha hb ?_
 rw[ea,eb]
 show(if b≠0 then some (D.int (QaX a b))else none)=_
 rw[if_pos (by omega),Qox _ _ (by omega)]
theorem Qsa{fa fb:DE}{ρ:En}{ra rb:R}{a b:Int}(ha:fa ρ=some ra)(ea:ra.d= .int a)(hb:fb ρ=some rb)(eb:rb.d= .int b)(h:0<b)(h2:b<2^64):dOp Qez fa fb ρ=some ⟨.int (a / b),true,[]⟩:=by
 refine Qb4 ha hb ?_
 rw[ea,eb]
 have:QbK b=true:=by
  unfold QbK
  have h3:b.natAbs<2^8000:=Zq (by omega:b.natAbs<2^64) (ZF (by decide) (by decide))
  simp only[Zh,decide_eq_true_eq]
  exact⟨by omega,h3⟩
 show(if QbK b=true then some (D.int (QdD a b))else none)=_
 rw[if_pos this,Qjp _ _ (by omega)]
theorem QaG{fa:DE}{ρ:En}{r:R}(h:fa ρ=some r):Qao fa ρ=some ⟨r.d,false,r.M⟩:=by unfold Qao;rw[h];rfl
theorem QlM{fa fb:DE}{ρ:En}{ra rb:R}{m:Nat}{f:Nat->Int}{i:Int}(ha:fa ρ=some ra)(ea:ra.d=Qb m f)(hb:fb ρ=some rb)(eb:rb.d= .int i)(h0:0<=i)(h:i<m):Qq fa fb ρ=some ⟨.int (f i.toNat),true,[]⟩:=by
 unfold Qq
 rw[ha,Za,hb,Za,ea,eb]
 simp only[Qb,D.items,Za,Qvu h0 h,Zab]
 rfl
theorem Qd5{fa fb:DE}{ρ:En}{ra rb:R}{ns:List Int}{i:Int}{v:Int}(ha:fa ρ=some ra)(ea:ra.d= .lst (ns.map .int))(hb:fb ρ=some rb)(eb:rb.d= .int i)(h0:0<=i)(h:ns[i.toNat]? =some v):Qq fa fb ρ=some ⟨.int v,true,[]⟩:=by
 have hl:i<ns.length:=by have:=(Zf.mp h).1;omega
 unfold Qq
 rw[ha,Za,hb,Za,ea,eb]
 simp only[D.items,Za]
 rw[Qio h0 (by simpa using hl),Zl,h]
 rfl
theorem Qrv{m n:Nat}{f:Nat->Int}(h:n<=m):cutD ((List.range m).map λi=>D.int (f i)) none (some (n:Int))=(List.range n).map λi=>D.int (f i):=by
 unfold cutD
 simp only[Zp,Zu,HT.Qeu,HT.Qew,Zbq,Zbs,Zav h]
 rw[← ZaW,List.take_range,Zav h]
theorem QlB{fa fb:DE}{ρ:En}{ra rb:R}{m n:Nat}{f:Nat->Int}(ha:fa ρ=some ra)(ea:ra.d=Qb m f)(hb:fb ρ=some rb)(eb:rb.d= .int n)(h:n<=m):Qax fa Qas (QY fb) ρ=some ⟨Qb n f,true,[]⟩:=by
 unfold Qax Qas QY
 rw[ha,Za,hb,ea]
 simp only[Za,eb,Qb,Qrv h,QaO,Qsk,if_true]
theorem Qjz{n:Nat}{den:Den}{dfl:List D}{fs:DA}{ρ:En}{r:RA}{d:D}{fr:Bool}(h:fs ρ=some r)(hd:den (r.ds++dfl)=some (d,fr))(hl:r.ds.length+dfl.length=n):Qn n den dfl fs ρ=some (if fr=true then⟨d,true,[]⟩else HS.R.norm ⟨d,false,r.M⟩):=by
 unfold Qn
 rw[h,Za,if_pos hl,hd]
 rfl
theorem QrP{i:Nat}{d:D}{fr:Bool}{ρ:En}(h:d.flat=false):asg i (if fr=true then⟨d,true,[]⟩else HS.R.norm ⟨d,false,[]⟩) ρ=ρ.set i (some (d,fr)):=by
 cases fr
 ·simp[HS.R.norm,h,asg,QaT]
 ·simp
noncomputable def Qh0:DS:=(Qe (QM (QhM (Qjb "int" (Qa 0)) (Qui (Qjb "bool" (Qa 0))))) Qr)
def QkZ(d:Den):Prop:=∀i:Int,d [.int i]=some (.bl true,true)
theorem QtB:QkZ (Qo 1 Qh0):=λi=>rfl
def GoodW(m:Nat)(w:Int×Int×Bool):Prop:=Good m (w.1,w.2.1)/\(w.2.2=true->w.1<m)
noncomputable def QZ(W:List (Int×Int×Bool)):D:= .lst (W.map Qdc)
@[simp] theorem Qzq(W:List (Int×Int×Bool)):(QZ W).flat=false:=rfl
theorem Qyr{a x n:Int}(h1:0<x)(h2:x<n):(a+x) % n≠a % n:=λh=>by
 have h3:(a+x-a) % n=0:=Zbd.mp h
 rw[show a+x-a=x by omega,ZbM (by omega) h2]at h3
 omega
theorem QpL{x:Nat}{fa:DE}{ρ:En}{r:R}{xs:List D}{Q:Out->Prop}(hx:ρ[x]? =some (some (.lst xs,true)))(ha:fa ρ=some r)(hf:r.d.flat=true)(hl:xs.length<16777216)(q:Q (.nx (ρ.set x (some (.lst (xs++[r.d]),true))))):Run (QfG x Q7 fa) ρ Q:=by
 refine⟨_,?_,q⟩
 have hn:r.norm=⟨r.d,true,[]⟩:=by unfold HS.R.norm;rw[if_pos hf]
 unfold QfG
 rw[hx]
 simp only[Q7,Za,ha,QaS,QmO,hn,QaR,kill,Qf9]
 simp[hl]
theorem Qp2{x y m:Nat}{f:Nat->Int}{ρ:En}{i:Int}{b:Bool}{Q:Out->Prop}(hx:ρ[x]? =some (some (Qb m f,true)))(hy:ρ[y]? =some (some (.int i,b)))(h0:0<=i)(h:i<m)
  (q:Q (.nx (ρ.set x (some (Qb m (up f i.toNat (f i.toNat+1)),true))))):Run (Qbr x Q7 (Qa y) (QJ (Qq (Qa x) (Qa y)) (dC (.int 1)))) ρ Q:=by
 have e1:Qa y ρ=some ⟨.int i,true,[]⟩:=Qn1 hy
 have e2:=Qbi hx
 exact Qnz hx e1 rfl (Qaf (QlM e2 (by simp) e1 rfl h0 h) rfl (Qdd (.int 1) _) rfl) rfl h0 h q
theorem Run.nx{f:DS}{ρ:En}{Q Q':En->Prop}(h:Run f ρ (Nx Q))(m:∀ρ,Q ρ->Q' ρ):Run f ρ (Nx Q'):=h.mono λo ho=>by
 cases o with
 | nx ρ=>exact m ρ ho
 | _=>exact ho.elim
theorem QaK{f g:DS}{ρ:En}{P:En->Prop}{Q:Out->Prop}(h:Run f ρ (Nx P))(k:∀ρ',P ρ'->Run g ρ' Q):Run (Qe f g) ρ Q:=run_seq (h.nx k)
theorem QlK{fa fb:DE}{ρ:En}{ra rb:R}{A B:List (Int×Int×Bool)}(ha:fa ρ=some ra)(ea:ra.d=QZ A)(hb:fb ρ=some rb)(eb:rb.d=QZ B)(hl:A.length+B.length<=16777216):QJ fa fb ρ=some ⟨QZ (A++B),true,[]⟩:=by
 unfold QJ
 rw[ha,Za,hb,Za,ea,eb]
 simp only[QZ,Zp,Qf9,if_pos hl,QaO]
 simp
noncomputable def Qeh(w:Int×Int×Bool):Int×Int:=(if w.2.1<w.1 then w.2.1 else w.1,if w.2.1>w.1 then w.2.1 else w.1)
noncomputable def Qnf(w:Int×Int×Bool):Int×Int:=(w.1,w.2.1)
noncomputable def Qc4(W:List (Int×Int×Bool)):List (Int×Int):=(W.filter λw=> !w.2.2).map Qeh
noncomputable def Qdq(W:List (Int×Int×Bool)):List (Int×Int):=(W.filter λw=>w.2.2).map Qnf
theorem Qke{m:Nat}{W:List (Int×Int×Bool)}(h:∀w∈W,GoodW m w):∀s∈Qc4 W,Good m s/\s.1<s.2:=λs hs=>by
 obtain⟨w,hw,rfl⟩:=ZT.mp hs
 obtain⟨⟨h1,h2,h3,h4,h5⟩,_⟩:=h w (ZaM.mp hw).1
 simp only at h1 h2 h3 h4 h5
 unfold Qeh Good
 simp only
 split<;>split<;>omega
theorem Qkh{m:Nat}{W:List (Int×Int×Bool)}(h:∀w∈W,GoodW m w):∀s∈Qdq W,Good m s/\s.1<m:=λs hs=>by
 obtain⟨w,hw,rfl⟩:=ZT.mp hs
 obtain⟨h1,h2⟩:=h w (ZaM.mp hw).1
 exact⟨h1,h2 (by simpa using(ZaM.mp hw).2)⟩
theorem Qrr(W:List (Int×Int×Bool)):(Qc4 W).length<=W.length:=by unfold Qc4;rw[Zp];exact List.length_filter_le _ _
theorem Qq6(W:List (Int×Int×Bool)):(Qdq W).length<=W.length:=by unfold Qdq;rw[Zp];exact List.length_filter_le _ _
theorem QuI{fa:DE}{ρ:En}{r:R}{W:List (Int×Int×Bool)}(h:fa ρ=some r)(e:r.d=QZ W):QI (Q3 fa) (.tp [1,2,3]) [none,none,none,none] (Qcy (QN (Qa 3))) (Qbb (Qc (dBf Qkb (Qc (Qa 1) (Qc (Qa 2) Qf))) (Qc (dBf QkN (Qc (Qa 1) (Qc (Qa 2) Qf))) Qf))) ρ=some ⟨Q2 (Qc4 W),true,[]⟩:=by
 rw[QdX (toD:=Qdc) (keep:=λw=> !w.2.2) (out:=λw=>pairD (Qeh w)) W (Q6 h e) rfl λw _=>⟨[none,some (.int w.1,true),some (.int w.2.1,true),some (.bl w.2.2,true)],rfl,QbF (QO (b:=w.2.2) rfl rfl),λ_=>⟨⟨pairD (Qeh w),true,[]⟩,rfl,rfl,rfl⟩⟩]
 unfold Q2 Qc4
 rw[Zag];rfl
theorem Qtf{fa:DE}{ρ:En}{r:R}{W:List (Int×Int×Bool)}(h:fa ρ=some r)(e:r.d=QZ W):QI (Q3 fa) (.tp [1,2,3]) [none,none,none,none] (QN (Qa 3)) (Qbb (Qc (Qa 1) (Qc (Qa 2) Qf))) ρ=some ⟨Q2 (Qdq W),true,[]⟩:=by
 rw[QdX (toD:=Qdc) (keep:=λw=>w.2.2) (out:=λw=>pairD (Qnf w)) W (Q6 h e) rfl λw _=>⟨[none,some (.int w.1,true),some (.int w.2.1,true),some (.bl w.2.2,true)],rfl,QO (b:=w.2.2) rfl rfl,λ_=>⟨⟨pairD (Qnf w),true,[]⟩,rfl,rfl,rfl⟩⟩]
 unfold Q2 Qdq
 rw[Zag];rfl
theorem QdG{f:Nat->Int}{i k:Nat}{v:Int}:up f i v k=if k=i then v else f k:=rfl
theorem Qd7{fa:DE}{ρ:En}{r:R}{m:Int}{R L:List (Int×Int)}(h:fa ρ=some r)(e:r.d=QG m R L):
  Qq fa (dC (.int 0)) ρ=some ⟨.int m,true,[]⟩/\Qq fa (dC (.int 1)) ρ=some ⟨Q2 R,r.fr,r.M⟩/\Qq fa (dC (.int 2)) ρ=some ⟨Q2 L,r.fr,r.M⟩:=by
 unfold Qq
 rw[h]
 simp only[Za,e,Qdd]
 exact⟨rfl,rfl,rfl⟩
theorem Qfp{fa:DE}{ρ:En}{r:R}{xs:List D}(h:fa ρ=some r)(e:r.d= .lst xs):dBf Qav (Qc fa Qf) ρ=some ⟨.int xs.length,true,[]⟩:=by
 unfold dBf
 rw[Qj h (QL _),Za]
 simp[e,Qav]
theorem Ql9(n:Nat)(ps:List (Int×Int)):(Q2 ps).sim (n+2)=true:=by
 unfold Q2
 simp only[D.sim,List.all_map,Zaq]
 intro p _
 cases n<;>rfl
theorem Qsg{fa fb:DE}{ρ:En}{ra rb:R}{d:D}(ha:fa ρ=some ra)(ea:ra.d=d)(hb:fb ρ=some rb)(eb:rb.d=d)(hs:d.sim 8=true):dOp gNe fa fb ρ=some ⟨.bl false,true,[]⟩:=by
 refine Qb4 ha hb ?_
 rw[ea,eb]
 unfold gNe
 rw[hs,Qug hs];rfl
theorem Qro{fa fb:DE}{ρ:En}{ra rb:R}(ha:fa ρ=some ra)(hb:fb ρ=some rb)(h1:ra.d.sim 8=true)(h2:rb.d.sim 8=true):dOp gEq fa fb ρ=some ⟨.bl (deq ra.d rb.d),true,[]⟩:=by
 refine Qb4 ha hb ?_
 unfold gEq
 rw[h1,h2];rfl
theorem Qr1{b:Int}(h:0<b)(h2:b<2^200):QbK b=true:=by
 unfold QbK
 have h3:b.natAbs<2^8000:=Zq (by omega:b.natAbs<2^200) (ZF (by decide) (by decide))
 simp only[Zh,decide_eq_true_eq]
 exact⟨by omega,h3⟩
theorem Qim{i j:Nat}{fa fb:DE}{ρ:En}{ra rb:R}{a b:Int}{Q:Out->Prop}(ha:fa ρ=some ra)(ea:ra.d= .int a)(hb:fb ρ=some rb)(eb:rb.d= .int b)(h:0<b)(h2:b<2^200)
  (q:Q (.nx ((ρ.set i (some (.int (a / b),true))).set j (some (.int (a % b),true))))):Run (Qds (.tp [i,j]) (dDm (Qc fa (Qc fb Qf)))) ρ Q:=by
 have e:dDm (Qc fa (Qc fb Qf)) ρ=some ⟨.tup [.int (a / b),.int (a % b)],true,[]⟩:=by
  unfold dDm
  rw[Qj ha (Qj hb (QL _)),Za]
  simp only[ea,eb]
  rw[if_pos (Qr1 h h2),Qjp _ _ (by omega),Qox _ _ (by omega)]
 refine⟨_,?_,q⟩
 unfold Qds
 rw[e]
 rfl
theorem QAo(xs:List D):deq (.lst xs) (.lst [])=xs.isEmpty:=by cases xs<;>rfl
theorem Qz8(n:Nat)(ns:List Int):(Qt ns).sim (n+1)=true:=by
 unfold Qt
 simp only[D.sim,List.all_map,Zaq]
 intro p _
 cases n<;>rfl
theorem Qn9{fa:DE}{ρ:En}{r:R}{ns:List Int}(ha:fa ρ=some r)(e:r.d= .lst (ns.map .int)):QN (dOp gNe fa (Qae Qf)) ρ=some (!ns.isEmpty):=by
 refine QO (Qb4 ha (rb:=⟨.lst [],true,[]⟩) rfl (d:= .bl (!ns.isEmpty)) ?_) rfl
 rw[e]
 unfold gNe
 have:(D.lst (ns.map .int)).sim 8=true:=Qz8 7 ns
 rw[this]
 show some (D.bl (!deq (.lst (ns.map .int)) (.lst [])))=_
 rw[QAo];simp
theorem QsW{fa fb:DE}{ρ:En}{ra rb:R}{a b:Int}(ha:fa ρ=some ra)(ea:ra.d= .int a)(hb:fb ρ=some rb)(eb:rb.d= .int b)(h:0<=b/\b<=1000/\a.natAbs<2^200):dOp Qfv fa fb ρ=some ⟨.int (a^b.toNat),true,[]⟩:=by
 refine Qb4 ha hb ?_
 rw[ea,eb]
 show(if 0<=b/\b<=1000/\a.natAbs<2^200 then some (D.int (a^b.toNat))else none)=_
 rw[if_pos h]
theorem Qor{x:Nat}{fa:DE}{ρ:En}{r:R}{A:List Int}{n:Int}{Q:Out->Prop}(hx:ρ[x]? =some (some (Qt A,true)))(ha:fa ρ=some r)(hf:r.d= .int n)(hl:A.length<16777216)(q:Q (.nx (ρ.set x (some (Qt (A++[n]),true))))):Run (QfG x Q7 fa) ρ Q:=by
 refine QpL (xs:=A.map .int) hx ha (by rw[hf];rfl) (by simpa using hl) ?_
 rw[hf]
 unfold Qt at q
 rw[ZaN]at q
 exact q
noncomputable abbrev B40:Int:=10000000000000000000000000000000000000000
noncomputable def QfA:DS:=(Qe (Qs 2 (dOp Qfv (dC (.int 10)) (dC (.int 40)))) (Qe (Qs 3 (dC (.int 0))) (Qe (sIf (QN (dOp gNe (Qa 0) (Qae Qf))) (Qe (Qs 3 (Qao (Qq (Qa 0) (dC (.int 0))))) Qr) Qr) (Qe (Qs 4 (Qae Qf)) (Qe (Qbt (Qay (Qa 1)) (.nm 5) (Qe (Qds (.tp [3,6]) (dDm (Qc (Qa 3) (Qc (Qa 2) Qf)))) (Qe (QfG 4 Q7 (Qa 6)) Qr))) (Qe (sIf (QN (dOp gGt (Qa 3) (dC (.int 0)))) (Qe (QM (Qa 4)) Qr) Qr) (Qe (Qs 7 (Qae Qf)) (Qe (Qbt (Qay (Qa 1)) (.nm 5) (Qe (Qs 8 (dC (.int 7919))) (Qe (sIf (QN (dOp gNe (Qa 0) (Qae Qf))) (Qe (Qs 8 (Qao (Qq (Qa 0) (dOp QaV (Qa 5) (dBf Qav (Qc (Qa 0) Qf)))))) Qr) Qr) (Qe (Qs 8 (dOp QaV (Qam (QJ (QJ (QJ (Qa 8) (Qam (Qam (Qa 5) (Qa 5)) (dC (.int 7919)))) (Qam (Qa 5) (dC (.int 104729)))) (dC (.int 31))) (dC (.int 48271))) (dC (.int 2147483647)))) (Qe (Qs 8 (dOp QaV (Qam (dOp QaV (Qam (Qa 8) (Qa 8)) (dC (.int 2147483629))) (QJ (Qam (dC (.int 2)) (Qa 5)) (dC (.int 69621)))) (dC (.int 2147483587)))) (Qe (QfG 7 Q7 (dOp QaV (Qam (Qa 8) (dOp Qfv (dC (.int 618970019642690137449562111)) (dC (.int 2)))) (Qa 2))) Qr)))))) (Qe (QM (Qa 7)) Qr)))))))))
def CellsOk(d:Den):Prop:=∀(ns:List Int) (n:Nat),ns.length<=63->n<=200->∃cs:List Int,d [.lst (ns.map .int),.int n]=some (Qt cs,true)/\cs.length=n/\∀c∈cs,0<=c/\c<B40
theorem Qtl:CellsOk (Qo 9 QfA):=λns n hl hn=>by
 have key:Run QfA (QbS 9 [.lst (ns.map .int),.int n]) (Rt λd fr=>∃cs:List Int,d=Qt cs/\fr=true/\cs.length=n/\∀c∈cs,0<=c/\c<B40):=by
  refine run_seq (Qg (r:=⟨.int B40,true,[]⟩) ?_ ?_)
  ·exact QsW (a:=10) (b:=40) rfl rfl rfl rfl (by decide)
  rw[Ql]
  refine run_seq (Qg (r:=⟨.int 0,true,[]⟩) rfl ?_)
  rw[Ql]
  refine QaK (P:=λρ=>∃z:Int,ρ=[some (.lst (ns.map .int),false),some (.int n,true),some (.int B40,true),some (.int z,true),none,none,none,none,none]) ?_ ?_
  ·refine Qab (Qn9 (ns:=ns) (r:=⟨.lst (ns.map .int),false,[]⟩) rfl rfl) (λh=>?_) (λ_=>Qu ⟨0,rfl⟩)
   cases ns with
   | nil=>cases h
   | cons a r=>exact run_seq (Qg (r:=⟨.int a,false,[]⟩) (QaG (Qd5 (ns:=a::r) (i:=0) rfl rfl rfl rfl (by decide) rfl)) (Qu ⟨a,by rw[Qb9 rfl];rfl⟩))
  rintro ρ ⟨z,rfl⟩
  refine run_seq (Qg (r:=⟨Qt [],true,[]⟩) rfl ?_)
  rw[Ql]
  refine QaK (P:=λρ=>∃(z:Int) (cs:List Int) (j5 j6:Option (D×Bool)),cs.length=n/\(∀c∈cs,0<=c/\c<B40)/\ρ=[some (.lst (ns.map .int),false),some (.int n,true),some (.int B40,true),some (.int z,true),some (Qt cs,true),j5,j6,none,none]) ?_ ?_
  ·refine QaI (List.range n) (λi ρ=>∃(z:Int) (cs:List Int) (j5 j6:Option (D×Bool)),cs.length=i/\(∀c∈cs,0<=c/\c<B40)/\ρ=[some (.lst (ns.map .int),false),some (.int n,true),some (.int B40,true),some (.int z,true),some (Qt cs,true),j5,j6,none,none]) (QaL (n:=n) (r:=⟨.int n,true,[]⟩) rfl rfl (by omega)) rfl ⟨z,[],none,none,rfl,by simp,rfl⟩ ?_ ?_
   ·rintro i k ρ hi ⟨z,cs,j5,j6,h1,h2,rfl⟩
    have hin:i<n:=by have:=(Zf.mp hi).1;simpa using this
    refine⟨_,rfl,?_⟩
    refine run_seq (Qim (a:=z) (b:=B40) rfl rfl rfl rfl (by decide) (by decide) ?_)
    refine run_seq (Qor (A:=cs) (n:=z % B40) rfl rfl rfl (by omega) (Qu ⟨z / B40,cs++[z % B40],_,_,by simp[h1],λc hc=>?_,rfl⟩))
    rcases ZC.mp hc with hc | hc
    ·exact h2 c hc
    ·rw[Zz.mp hc];exact⟨ZH _ (by decide),ZD _ (by decide)⟩
   ·rintro ρ ⟨z,cs,j5,j6,h1,h2,rfl⟩
    exact⟨z,cs,j5,j6,by simpa using h1,h2,rfl⟩
  rintro ρ ⟨z,cs,j5,j6,h1,h2,rfl⟩
  refine QE (Qab (b:=decide (0<z)) (QO (b:=decide (0<z)) rfl rfl) (λ_=>Qx (Q:=λd fr=>∃cs:List Int,d=Qt cs/\fr=true/\cs.length=n/\∀c∈cs,0<=c/\c<B40) (r:=⟨Qt cs,true,[4]⟩) rfl ⟨cs,rfl,rfl,h1,h2⟩ |> λh=>h.mono λo ho=>by cases o<;>first | exact ho | exact ho.elim) (λ_=>Qu ?_))
  refine run_seq (Qg (r:=⟨Qt [],true,[]⟩) rfl ?_)
  rw[Ql]
  refine QaK (P:=λρ=>∃(cs':List Int) (j5 j8:Option (D×Bool)),cs'.length=n/\(∀c∈cs',0<=c/\c<B40)/\ρ=[some (.lst (ns.map .int),false),some (.int n,true),some (.int B40,true),some (.int z,true),some (Qt cs,true),j5,j6,some (Qt cs',true),j8]) ?_ ?_
  ·refine QaI (List.range n) (λi ρ=>∃(cs':List Int) (j5 j8:Option (D×Bool)),cs'.length=i/\(∀c∈cs',0<=c/\c<B40)/\ρ=[some (.lst (ns.map .int),false),some (.int n,true),some (.int B40,true),some (.int z,true),some (Qt cs,true),j5,j6,some (Qt cs',true),j8]) (QaL (n:=n) (r:=⟨.int n,true,[]⟩) rfl rfl (by omega)) rfl ⟨[],_,none,rfl,by simp,rfl⟩ ?_ ?_
   ·rintro i k ρ hi ⟨cs',j5,j8,h3,h4,rfl⟩
    have hin:i<n:=by have:=(Zf.mp hi).1;simpa using this
    have hk:k<n:=by have:=ZP hi;simpa using this
    refine⟨_,rfl,?_⟩
    refine run_seq (Qg (r:=⟨.int 7919,true,[]⟩) rfl ?_)
    rw[Ql]
    refine QaK (P:=λρ=>∃y:Int,ρ=[some (.lst (ns.map .int),false),some (.int n,true),some (.int B40,true),some (.int z,true),some (Qt cs,true),some (.int k,true),j6,some (Qt cs',true),some (.int y,true)]) ?_ ?_
    ·refine Qab (Qn9 (ns:=ns) (r:=⟨.lst (ns.map .int),false,[]⟩) rfl rfl) (λh=>?_) (λ_=>Qu ⟨7919,rfl⟩)
     have hne:0<ns.length:=by cases ns with
      | nil=>cases h
      | cons a r=>simp
     have m1:=ZH (k:Int) (by omega:(ns.length:Int)≠0)
     have m2:=ZD (k:Int) (by omega:(0:Int)<ns.length)
     have hg:ns[((k:Int) % ns.length).toNat]? =some (ns[((k:Int) % ns.length).toNat]'(by omega)):=ZU _
     have elen:dBf Qav (Qc (Qa 0) Qf) [some (.lst (ns.map .int),false),some (.int n,true),some (.int B40,true),some (.int z,true),some (Qt cs,true),some (.int k,true),j6,some (Qt cs',true),some (.int 7919,true)]=some ⟨.int ns.length,true,[]⟩:=by
      rw[Qfp (r:=⟨.lst (ns.map .int),false,[]⟩) (xs:=ns.map D.int) rfl rfl,Zp]
     exact run_seq (Qg (QaG (Qd5 (ns:=ns) (i:=(k:Int) % ns.length) rfl rfl (QaD (a:=(k:Int)) (b:=ns.length) rfl rfl elen rfl (by omega)) rfl m1 hg)) (Qu ⟨_,by rw[Qb9 rfl];rfl⟩))
    rintro ρ ⟨y,rfl⟩
    refine run_seq (Qg (QaD (b:=2147483647) (QaC (b:=48271) (Qaf (b:=31) (Qaf (Qaf (a:=y) rfl rfl (QaC (b:=7919) (QaC (a:=(k:Int)) (b:=k) rfl rfl rfl rfl (QdB (by omega))) rfl rfl rfl (Qfe (by decide))) rfl) rfl (QaC (a:=(k:Int)) (b:=104729) rfl rfl rfl rfl (Qfe (by decide))) rfl) rfl rfl rfl) rfl rfl rfl (Qfe (by decide))) rfl rfl rfl (by decide)) ?_)
    rw[Ql]
    generalize ew:(y+(k:Int)*k*7919+(k:Int)*104729+31)*48271 % 2147483647=w
    have w1:0<=w:=by rw[← ew];exact ZH _ (by decide)
    have w2:w<2147483647:=by rw[← ew];exact ZD _ (by decide)
    refine run_seq (Qg (QaD (b:=2147483587) (QaC (QaD (b:=2147483629) (QaC (a:=w) (b:=w) rfl rfl rfl rfl (QdB (by omega))) rfl rfl rfl (by decide)) rfl (Qaf (b:=69621) (QaC (a:=2) (b:=(k:Int)) rfl rfl rfl rfl (QdB (by decide))) rfl rfl rfl) rfl (Qfe (by omega))) rfl rfl rfl (by decide)) ?_)
    rw[Ql]
    generalize eu:w*w % 2147483629*(2*(k:Int)+69621) % 2147483587=u
    have u1:0<=u:=by rw[← eu];exact ZH _ (by decide)
    have u2:u<2147483587:=by rw[← eu];exact ZD _ (by decide)
    have epow:dOp Qfv (dC (.int 618970019642690137449562111)) (dC (.int 2)) [some (.lst (ns.map .int),false),some (.int n,true),some (.int B40,true),some (.int z,true),some (Qt cs,true),some (.int k,true),j6,some (Qt cs',true),some (.int u,true)]=some ⟨.int (618970019642690137449562111^2),true,[]⟩:=QsW (a:=618970019642690137449562111) (b:=2) rfl rfl rfl rfl (by decide)
    refine run_seq (Qor (A:=cs') rfl (QaD (b:=B40) (QaC (a:=u) rfl rfl epow rfl (QdB (by omega))) rfl rfl rfl (by decide)) rfl (by omega) (Qu ⟨_,_,_,?_,λc hc=>?_,rfl⟩))
    ·simp[h3]
    ·rcases ZC.mp hc with hc | hc
     ·exact h4 c hc
     ·rw[Zz.mp hc];exact⟨ZH _ (by decide),ZD _ (by decide)⟩
   ·rintro ρ ⟨cs',j5,j8,h3,h4,rfl⟩
    exact⟨cs',j5,j8,by simpa using h3,h4,rfl⟩
  rintro ρ ⟨cs',j5,j8,h3,h4,rfl⟩
  exact Qx (r:=⟨Qt cs',true,[7]⟩) rfl ⟨cs',rfl,rfl,h3,h4⟩
 obtain⟨o,h1,h2⟩:=key
 cases o with
 | rt d fr=>
  obtain⟨cs,rfl,rfl,h3,h4⟩:=h2
  exact⟨cs,by unfold Qo;rw[h1];rfl,h3,h4⟩
 | _=>exact h2.elim
theorem Qwi{α β:Type}(f:α->β)(xs:List α)(k:Nat)(y:α):(QaN xs k y).map f=QaN (xs.map f) k (f y):=by
 unfold QaN;simp[ZaW,ZbR]
theorem Qip{α:Type}{xs:List α}{k:Nat}{y z:α}:z∈QaN xs k y↔z=y∨z∈xs:=by
 unfold QaN
 rw[ZC,Zs]
 constructor
 ·rintro(h | h | h)
  ·exact .inr (List.mem_of_mem_take h)
  ·exact .inl h
  ·exact .inr (List.mem_of_mem_drop h)
 ·rintro(h | h)
  ·exact .inr (.inl h)
  ·rw[← Zay k xs,ZC]at h
   rcases h with h | h
   ·exact .inl h
   ·exact .inr (.inr h)
theorem Qvv{α:Type}(xs:List α)(k:Nat)(y:α):(QaN xs k y).length=xs.length+1:=by
 unfold QaN;rw[Zr,ZE,Zad,ZaH];omega
theorem Qma{α β:Type}(f:α->β):∀(l:List α) (k:Nat),(l.map f).eraseIdx k=(l.eraseIdx k).map f
 | [],_=>rfl
 | _::_,0=>rfl
 | a::l,k+1=>by simp only[ZM,ZaR,Qma f l k]
theorem Qkm{α:Type}:∀(l:List α) (k:Nat) (b:α),l[k]? =some b->(b::l.eraseIdx k).Perm l
 | [],_,_,h=>by simp at h
 | a::l,0,b,h=>by simp at h;subst h;exact .refl _
 | a::l,k+1,b,h=>by
  have:=Qkm l k b (by simpa using h)
  simp only[ZaR]
  exact(List.Perm.swap a b _).trans (this.cons a)
theorem Qtp{x:Nat}{fi fa:DE}{ρ:En}{ri r:R}{W:List (Int×Int×Bool)}{w:Int×Int×Bool}{i:Int}{Q:Out->Prop}(hx:ρ[x]? =some (some (QZ W,true)))(hi:fi ρ=some ri)(ei:ri.d= .int i)(ha:fa ρ=some r)(hf:r.d=Qdc w)(h0:0<=i)(h1:i<2^62)(hl:W.length<16777216)
  (q:Q (.nx (ρ.set x (some (QZ (QaN W (min i.toNat W.length) w),true))))):Run (QjE x Q7 fi fa) ρ Q:=by
 refine⟨_,?_,q⟩
 unfold QjE
 rw[hx]
 simp only[Q7,Za,hi,ha,QaS,QZ,ei,hf,Zp,Qf9]
 rw[if_pos ⟨rfl,h0,h1,hl⟩]
 simp only[QaR,Qwi]
theorem QqN{x y:Nat}{fi:DE}{ρ:En}{ri:R}{A B:List Int}{i b:Int}{Q:Out->Prop}(hx:ρ[x]? =some (some (Qt A,true)))(hy:ρ[y]? =some (some (Qt B,true)))(hi:fi ρ=some ri)(ei:ri.d= .int i)(hxy:x≠y)(h0:0<=i)(h1:i<2^62)(hb:B[i.toNat]? =some b)(hl:A.length<16777216)
  (q:Q (.nx ((ρ.set y (some (Qt (B.eraseIdx i.toNat),true))).set x (some (Qt (A++[b]),true))))):Run (Qfl x y fi) ρ Q:=by
 refine⟨_,?_,q⟩
 unfold Qfl
 rw[hx,hy]
 simp only[Qt,Za,hi,ei,Zp,Qf9]
 rw[if_pos ⟨hxy,Qhj B,h0,h1,hl⟩,Zl,hb]
 simp only[Zab,ZaN]
 rw[Qma]
 rfl
noncomputable def Qe3:DS:=(Qe (Qs 3 (QmM (Qa 1))) (Qe (Qs 4 (Qae Qf)) (Qe (Qs 5 (Qae Qf)) (Qe (Qbt (Qay (Qa 1)) (.nm 6) (Qe (Qds (.tp [7,8]) (dDm (Qc (Qq (Qa 0) (Qa 6)) (Qc (dBf Qav (Qc (Qa 3) Qf)) Qf)))) (Qe (Qds (.tp [7,9]) (dDm (Qc (Qa 7) (Qc (QJ (Qa 6) (dC (.int 1))) Qf)))) (Qe (Qs 10 (Qao (Qa 1))) (Qe (sIf (QN (dOp gLt (Qa 9) (Qa 6))) (Qe (Qs 10 (Qao (Qq (Qa 4) (Qa 9)))) Qr) Qr) (Qe (Qfl 4 3 (Qa 8)) (Qe (Qs 11 (dOr (dOp gEq (Qa 2) (dC (.int 2))) (QhM (dOp gEq (Qa 2) (dC (.int 3))) (dOp gEq (dOp QaV (Qa 7) (dC (.int 2))) (dC (.int 1)))))) (Qe (QjE 5 Q7 (dOp QaV (dOp Qez (Qa 7) (dC (.int 2))) (QJ (Qa 6) (dC (.int 1)))) (Qbb (Qc (Qq (Qa 4) (Qa 6)) (Qc (Qa 10) (Qc (Qa 11) Qf))))) Qr)))))))) (Qe (QM (Qa 5)) Qr)))))
def Esc(m:Nat)(W:List (Int×Int×Bool)):Prop:=∀A:Nat->Prop,(∃p,p<m/\A p)->∃w∈W,w.1<m/\A w.1.toNat/\(w.2.1=m∨¬A w.2.1.toNat)
theorem Esc.mono{m:Nat}{W W':List (Int×Int×Bool)}(h:Esc m W)(s:∀w∈W,w∈W'):Esc m W':=λA hA=>let ⟨w,hw,r⟩:=h A hA;⟨w,s w hw,r⟩
def Qic(m:Nat)(O:List Int)(w:Int×Int×Bool)(j:Nat):Prop:=O[j]? =some w.1/\(w.2.1=m∨∃i,i<j/\O[i]? =some w.2.1)
theorem Qic.app{m:Nat}{O O':List Int}{w:Int×Int×Bool}{j:Nat}(h:Qic m O w j):Qic m (O++O') w j:=by
 obtain⟨h1,h2⟩:=h
 have hj:j<O.length:=(Zf.mp h1).1
 refine⟨by rw[Zaj hj];exact h1,?_⟩
 rcases h2 with h2 | ⟨i,hi,h2⟩
 ·exact .inl h2
 ·exact .inr ⟨i,hi,by rw[Zaj (by omega)];exact h2⟩
theorem Qw9{m:Nat}{O:List Int}{W:List (Int×Int×Bool)}(hp:O.Perm ((List.range m).map λ(k:Nat)=>(k:Int)))(hW:∀j,j<m->∃w∈W,Qic m O w j):Esc m W:=λA ⟨p,hp1,hp2⟩=>by
 have hl:O.length=m:=by rw[hp.length_eq];simp
 have nd:O.Nodup:=hp.nodup_iff.mpr (by
  rw[ZbI,List.pairwise_map]
  exact List.Pairwise.imp (λh z=>h (by omega)) List.nodup_range)
 have mem:∀x∈O,0<=x/\x<m:=λx hx=>by
  obtain⟨k,hk,rfl⟩:=ZT.mp (hp.mem_iff.mp hx)
  have:=Zk.mp hk
  omega
 have ex:∃(j:Nat) (x:Int),O[j]? =some x/\A x.toNat:=by
  have:(p:Int)∈O:=hp.mem_iff.mpr (ZT.mpr ⟨p,Zk.mpr hp1,rfl⟩)
  obtain⟨j,hj⟩:=List.getElem?_of_mem this
  exact⟨j,_,hj,by simpa using hp2⟩
 have least:∃(j:Nat),(∃x:Int,O[j]? =some x/\A x.toNat)/\∀i:Nat,i<j->¬ ∃x:Int,O[i]? =some x/\A x.toNat:=by
  obtain⟨j,hj⟩:=ex
  induction j using Nat.strongRecOn with
  | _ j ih=>
   by_cases h:∃i:Nat,i<j/\∃x:Int,O[i]? =some x/\A x.toNat
   ·obtain⟨i,hi,h⟩:=h;exact ih i hi h
   ·exact⟨j,hj,λi hi hx=>h ⟨i,hi,hx⟩⟩
 obtain⟨j,⟨x,hx,hA⟩,hmin⟩:=least
 have hj:j<m:=by rw[← hl];exact(Zf.mp hx).1
 obtain⟨w,hw,h1,h2⟩:=hW j hj
 rw[hx]at h1
 cases h1
 refine⟨w,hw,(mem _ (ZP hx)).2,hA,?_⟩
 rcases h2 with h2 | ⟨i,hi,h2⟩
 ·exact .inl h2
 ·exact .inr λhA'=>hmin i hi ⟨_,h2,hA'⟩
theorem Qsl{m:Nat}{O:List Int}{w:Int×Int×Bool}{j:Nat}(nd:O.Nodup)(mem:∀x∈O,0<=x/\x<m)(h:Qic m O w j):GoodW m w:=by
 obtain⟨h1,h2⟩:=h
 have a:=mem _ (ZP h1)
 refine⟨⟨a.1,?_,by dsimp only;omega,?_,?_⟩,λ_=>a.2⟩
 ·rcases h2 with h2 | ⟨i,hi,h2⟩
  ·dsimp only;omega
  ·exact(mem _ (ZP h2)).1
 ·rcases h2 with h2 | ⟨i,hi,h2⟩
  ·dsimp only;omega
  ·have:=mem _ (ZP h2);dsimp only;omega
 ·rcases h2 with h2 | ⟨i,hi,h2⟩
  ·dsimp only;omega
  ·dsimp only
   intro z
   rw[z,← h2]at h1
   have hil:i<O.length:=(Zf.mp h2).1
   have hjl:j<O.length:=by
    by_cases q:j<O.length
    ·exact q
    ·rw[Zm (by omega),h2]at h1;cases h1
   have:=(List.getElem?_inj hjl nd).mp h1
   omega
def QkW(d:Den):Prop:=∀(m:Nat) (cs:List Int) (kind:Int),0<m->m<=1000->m<=cs.length->(∀c∈cs,0<=c/\c<B40)->∃W,d [Qt cs,.int m,.int kind]=some (QZ W,true)/\W.length=m/\(∀w∈W,GoodW m w)/\Esc m W
theorem QuS:QkW (Qo 12 Qe3):=λm cs kind m0 hm hcl hcs=>by
 have key:Run Qe3 (QbS 12 [Qt cs,.int m,.int kind]) (Rt λd fr=>∃W,d=QZ W/\fr=true/\W.length=m/\(∀w∈W,GoodW m w)/\Esc m W):=by
  refine run_seq (Qg (r:=⟨Qt ((List.range m).map λ(k:Nat)=>(k:Int)),true,[]⟩) ?_ ?_)
  ·show(if 0<=(m:Int)/\(m:Int)<=1000000 then some (HS.R.mk (.lst ((List.range (m:Int).toNat).map λ(k:Nat)=> .int (k:Int))) true [])else none)=_
   rw[if_pos ⟨by omega,by omega⟩]
   unfold Qt
   rw[Zag];rfl
  rw[Ql]
  refine run_seq (Qg (r:=⟨Qt [],true,[]⟩) rfl ?_)
  rw[Ql]
  refine run_seq (Qg (r:=⟨QZ [],true,[]⟩) rfl ?_)
  rw[Ql]
  refine run_seq (QaI (List.range m) (λk ρ=>∃(Rs O:List Int) (W:List (Int×Int×Bool)) (j6 j7 j8 j9 j10 j11:Option (D×Bool)),O.length=k/\(O++Rs).Perm ((List.range m).map λ(k:Nat)=>(k:Int))/\W.length=k/\(∀w∈W,∃j,Qic m O w j)/\(∀j,j<k->∃w∈W,Qic m O w j)∧
    ρ=[some (Qt cs,false),some (.int m,true),some (.int kind,true),some (Qt Rs,true),some (Qt O,true),some (QZ W,true),j6,j7,j8,j9,j10,j11]) (QaL (n:=m) (r:=⟨.int m,true,[]⟩) rfl rfl (by omega)) rfl ⟨_,[],[],none,none,none,none,none,none,rfl,by simp,rfl,by simp,λj hj=>absurd hj (by omega),rfl⟩ ?_ ?_)
  ·rintro k k' ρ hk ⟨Rs,O,W,j6,j7,j8,j9,j10,j11,hO,hP,hWl,hW1,hW2,rfl⟩
   have hk':k<m/\k=k':=by
    obtain⟨h1,h2⟩:=Zf.mp hk
    simp at h1 h2;exact⟨h1,h2⟩
   obtain⟨hkm,rfl⟩:=hk'
   have hRl:Rs.length=m-k:=by have:=hP.length_eq;simp at this;omega
   obtain⟨c,hc⟩:∃c,cs[k]? =some c:=⟨cs[k]'(by omega),ZU (by omega)⟩
   have hc0:=(hcs c (ZP hc))
   refine⟨_,rfl,?_⟩
   have elen:dBf Qav (Qc (Qa 3) Qf) [some (Qt cs,false),some (.int m,true),some (.int kind,true),some (Qt Rs,true),some (Qt O,true),some (QZ W,true),some (.int k,true),j7,j8,j9,j10,j11]=some ⟨.int Rs.length,true,[]⟩:=by
    rw[Qfp (r:=⟨Qt Rs,true,[3]⟩) (xs:=Rs.map D.int) rfl rfl,Zp]
   refine run_seq (Qim (a:=c) (b:=Rs.length) (Qd5 (ns:=cs) (i:=k) rfl rfl rfl rfl (by omega) (by simpa using hc)) rfl elen rfl (by omega) (by omega) ?_)
   have a1:=ZH c (by omega:(Rs.length:Int)≠0)
   have a2:=ZD c (by omega:(0:Int)<Rs.length)
   have a3:0<=c / Rs.length:=ZbE hc0.1 (by omega)
   generalize c % (Rs.length:Int)=at' at a1 a2
   generalize c / (Rs.length:Int)=nb at a3
   refine run_seq (Qim (a:=nb) (b:=(k:Int)+1) rfl rfl (Qaf (a:=(k:Int)) (b:=1) rfl rfl rfl rfl) rfl (by omega) (by omega) ?_)
   have b1:=ZH nb (by omega:(k:Int)+1≠0)
   have b2:=ZD nb (by omega:(0:Int)<(k:Int)+1)
   have b3:0<=nb / ((k:Int)+1):=ZbE a3 (by omega)
   generalize nb % ((k:Int)+1)=to at b1 b2
   generalize nb / ((k:Int)+1)=nc at b3
   refine run_seq (Qg (r:=⟨.int m,false,[]⟩) rfl ?_)
   rw[Qb9 rfl]
   refine QaK (P:=λρ=>∃e:Int,(e=m∨∃i,i<k/\O[i]? =some e)/\ρ=[some (Qt cs,false),some (.int m,true),some (.int kind,true),some (Qt Rs,true),some (Qt O,true),some (QZ W,true),some (.int k,true),some (.int nc,true),some (.int at',true),some (.int to,true),some (.int e,true),j11]) ?_ ?_
   ·refine Qab (b:=decide (to<k)) (QO (b:=decide (to<k)) rfl rfl) (λh=>?_) (λ_=>Qu ⟨m,.inl rfl,rfl⟩)
    have h:=of_decide_eq_true h
    obtain⟨e,he⟩:∃e,O[to.toNat]? =some e:=⟨O[to.toNat]'(by omega),ZU (by omega)⟩
    exact run_seq (Qg (QaG (Qd5 (ns:=O) (i:=to) (ra:=⟨Qt O,true,[4]⟩) rfl rfl rfl rfl b1 he)) (Qu ⟨e,.inr ⟨to.toNat,by omega,he⟩,by rw[Qb9 rfl];rfl⟩))
   rintro ρ ⟨e,he,rfl⟩
   obtain⟨b,hb⟩:∃b,Rs[at'.toNat]? =some b:=⟨Rs[at'.toNat]'(by omega),ZU (by omega)⟩
   refine run_seq (QqN (A:=O) (B:=Rs) (i:=at') (b:=b) rfl rfl rfl rfl (by decide) a1 (by omega) hb (by omega) ?_)
   refine run_seq (Qg (Qu9 (Qba (a:=kind) (b:=2) rfl rfl rfl rfl) (Qng (Qba (a:=kind) (b:=3) rfl rfl rfl rfl) (Qba (a:=nc % 2) (b:=1) (QaD (a:=nc) (b:=2) rfl rfl rfl rfl (by decide)) rfl rfl rfl))) ?_)
   rw[Ql]
   generalize (decide (kind=2) || (decide (kind=3) && decide (nc % 2=1)))=ln
   have c1:=ZH (nc / 2) (by omega:(k:Int)+1≠0)
   have c2:=ZD (nc / 2) (by omega:(0:Int)<(k:Int)+1)
   have hOb:(O++[b])[k]? =some b:=by rw[Zba (by omega)];simp[hO]
   have eidx:=Qd5 (fa:=Qa 4) (fb:=Qa 6) (ns:=O++[b]) (i:=k) (v:=b) (ra:=⟨Qt (O++[b]),true,[4]⟩) (ρ:=[some (Qt cs,false),some (.int m,true),some (.int kind,true),some (Qt (Rs.eraseIdx at'.toNat),true),some (Qt (O++[b]),true),some (QZ W,true),some (.int k,true),some (.int nc,true),some (.int at',true),some (.int to,true),some (.int e,true),some (.bl ln,true)]) rfl rfl rfl rfl (by omega) (by simpa using hOb)
   have ew:Qbb (Qc (Qq (Qa 4) (Qa 6)) (Qc (Qa 10) (Qc (Qa 11) Qf))) [some (Qt cs,false),some (.int m,true),some (.int kind,true),some (Qt (Rs.eraseIdx at'.toNat),true),some (Qt (O++[b]),true),some (QZ W,true),some (.int k,true),some (.int nc,true),some (.int at',true),some (.int to,true),some (.int e,true),some (.bl ln,true)]=some ⟨Qdc (b,e,ln),true,[]⟩:=by
    unfold Qbb
    rw[Qj eidx (Qj (r:=⟨.int e,true,[]⟩) rfl (Qj (r:=⟨.bl ln,true,[]⟩) rfl (QL _)))]
    rfl
   have fr:Qic m (O++[b]) (b,e,ln) k:=by
    refine⟨hOb,?_⟩
    rcases he with he | ⟨i,hi,he⟩
    ·exact .inl he
    ·exact .inr ⟨i,hi,by rw[Zaj (by omega)];exact he⟩
   refine run_seq (Qtp (W:=W) (w:=(b,e,ln)) rfl (QaD (a:=nc / 2) (b:=(k:Int)+1) (Qsa (a:=nc) (b:=2) rfl rfl rfl rfl (by decide) (by decide)) rfl (Qaf (a:=(k:Int)) (b:=1) rfl rfl rfl rfl) rfl (by omega)) rfl ew rfl c1 (by omega) (by omega) (Qu ⟨_,_,_,_,_,_,_,_,_,by simp[hO],?_,by rw[Qvv,hWl],?_,?_,rfl⟩))
   ·refine List.Perm.trans ?_ hP
    rw[ZaP]
    refine List.Perm.append_left O ?_
    exact Qkm Rs _ b hb
   ·intro w hw
    rcases Qip.mp hw with rfl | hw
    ·exact⟨k,fr⟩
    ·obtain⟨j,hj⟩:=hW1 w hw;exact⟨j,hj.app⟩
   ·intro j hj
    by_cases hjk:j=k
    ·subst hjk;exact⟨_,Qip.mpr (.inl rfl),fr⟩
    ·obtain⟨w,hw,hf⟩:=hW2 j (by omega);exact⟨w,Qip.mpr (.inr hw),hf.app⟩
  ·rintro ρ ⟨Rs,O,W,j6,j7,j8,j9,j10,j11,hO,hP,hWl,hW1,hW2,rfl⟩
   rw[Zu]at *
   have hR0:Rs=[]:=by have:=hP.length_eq;simp at this;exact ZbC (by omega)
   subst hR0
   rw[ZaS]at hP
   have nd:O.Nodup:=hP.nodup_iff.mpr (by
    rw[ZbI,List.pairwise_map]
    exact List.Pairwise.imp (λh z=>h (by omega)) List.nodup_range)
   have mem:∀x∈O,0<=x/\x<m:=λx hx=>by
    obtain⟨k,hk,rfl⟩:=ZT.mp (hP.mem_iff.mp hx)
    have:=Zk.mp hk
    omega
   exact Qx (r:=⟨QZ W,true,[5]⟩) rfl ⟨W,rfl,rfl,hWl,λw hw=>let ⟨j,hj⟩:=hW1 w hw;Qsl nd mem hj,Qw9 hP hW2⟩
 obtain⟨o,h1,h2⟩:=key
 cases o with
 | rt d fr=>
  obtain⟨W,rfl,rfl,h3,h4,h5⟩:=h2
  exact⟨W,by unfold Qo;rw[h1];rfl,h3,h4,h5⟩
 | _=>exact h2.elim
noncomputable def QeW:DS:=(Qe (Qs 3 (Qam (Qae (Qc (dC (.int 0)) Qf)) (QJ (Qa 0) (dC (.int 1))))) (Qe (Qbt (Q3 (Qa 1)) (.tp [4,5,6]) (Qe (Qbr 3 Q7 (Qa 4) (QJ (Qq (Qa 3) (Qa 4)) (dC (.int 1)))) (Qe (sIf (Qcy (QN (Qa 6))) (Qe (Qbr 3 Q7 (Qa 5) (QJ (Qq (Qa 3) (Qa 5)) (dC (.int 1)))) Qr) Qr) Qr))) (Qe (Qs 7 (dC (.int 1))) (Qe (Qbt (Q3 (Qax (Qa 3) Qas (QY (Qa 0)))) (.nm 8) (Qe (Qs 7 (Qam (Qa 7) (Qa 8))) Qr)) (Qe (QM (dOp gLe (Qa 7) (Qa 2))) Qr)))))
def Qlt(d:Den):Prop:=∀(m:Nat) (W:List (Int×Int×Bool)) (room:Int),m<=1000->W.length<=100000->(∀w∈W,GoodW m w)->∃b,d [.int m,QZ W,.int room]=some (.bl b,true)
theorem Qp5{m:Nat}{W:List (Int×Int×Bool)}{r0 r1 r2:Option (D×Bool)}(hg:∀w∈W,GoodW m w):
  Run (Qbt (Q3 (Qa 1)) (.tp [4,5,6]) (Qe (Qbr 3 Q7 (Qa 4) (QJ (Qq (Qa 3) (Qa 4)) (dC (.int 1)))) (Qe (sIf (Qcy (QN (Qa 6))) (Qe (Qbr 3 Q7 (Qa 5) (QJ (Qq (Qa 3) (Qa 5)) (dC (.int 1)))) Qr) Qr) Qr)))
   [some (.int m,true),some (QZ W,false),r0,some (Qb (m+1) λ_=>0,true),none,none,none,r1,r2] (Nx λρ=>∃f j3 j4 j5,(∀k,0<=f k/\f k<=2*(W.length:Int))/\ρ=[some (.int m,true),some (QZ W,false),r0,some (Qb (m+1) f,true),j3,j4,j5,r1,r2]):=by
 refine QaI (toD:=Qdc) W (λi ρ=>∃f j3 j4 j5,(∀k,0<=f k/\f k<=2*(i:Int))/\ρ=[some (.int m,true),some (QZ W,false),r0,some (Qb (m+1) f,true),j3,j4,j5,r1,r2]) (ir:=⟨W.map Qdc,[]⟩) rfl rfl ⟨λ_=>0,none,none,none,λk=>⟨by simp,by simp⟩,rfl⟩ ?_ ?_
 ·rintro i w ρ hi ⟨f,j3,j4,j5,hf,rfl⟩
  obtain⟨⟨h1,h2,h3,h4,h5⟩,h6⟩:=hg w (ZP hi)
  refine⟨_,rfl,?_⟩
  refine run_seq (Qp2 (i:=w.1) rfl rfl h1 (by omega) ?_)
  have hf1:∀k,0<=up f w.1.toNat (f w.1.toNat+1) k/\up f w.1.toNat (f w.1.toNat+1) k<=2*(i:Int)+1:=λk=>by
   have a:=hf k
   have b:=hf w.1.toNat
   unfold up;split<;>omega
  refine run_seq (Qab (b:= !w.2.2) (QbF (QO (b:=w.2.2) rfl rfl)) (λ_=>run_seq (Qp2 (i:=w.2.1) rfl rfl h2 (by omega) (Qu (Qu ⟨_,_,_,_,λk=>?_,rfl⟩)))) (λ_=>Qu (Qu ⟨_,_,_,_,λk=>?_,rfl⟩)))
  ·have a:=hf1 k
   have b:=hf1 w.2.1.toNat
   unfold up at a b ⊢
   split<;>omega
  ·have a:=hf1 k
   omega
 ·rintro ρ ⟨f,j3,j4,j5,hf,rfl⟩
  exact⟨f,j3,j4,j5,hf,rfl⟩
theorem QtM:Qlt (Qo 9 QeW):=λm W room hm hl hg=>by
 have key:Run QeW (QbS 9 [.int m,QZ W,.int room]) (Rt λd fr=>∃b,d= .bl b/\fr=true):=by
  refine run_seq (Qg (QeL (n:=m+1) (Qaf (a:=(m:Int)) (b:=1) rfl rfl rfl rfl) rfl (by omega)) ?_)
  rw[Ql]
  refine QaK (Qp5 hg) ?_
  rintro ρ ⟨f,j3,j4,j5,hf,rfl⟩
  refine run_seq (Qg (r:=⟨.int 1,true,[]⟩) rfl ?_)
  rw[Ql]
  refine QaK (P:=λρ=>∃(z:Int) (j:Option (D×Bool)),ρ=[some (.int m,true),some (QZ W,false),some (.int room,true),some (Qb (m+1) f,true),j3,j4,j5,some (.int z,true),j]) ?_ ?_
  ·refine QaI (toD:=λ(k:Nat)=> .int (f k)) (List.range m) (λi ρ=>∃(z:Int) (j:Option (D×Bool)),ρ=[some (.int m,true),some (QZ W,false),some (.int room,true),some (Qb (m+1) f,true),j3,j4,j5,some (.int z,true),j]) (Q6 (QlB (m:=m+1) (n:=m) (f:=f) rfl rfl rfl rfl (by omega)) rfl) rfl ⟨1,none,rfl⟩ ?_ ?_
   ·rintro i k ρ _ ⟨z,j,rfl⟩
    have:=hf k
    exact⟨_,rfl,run_seq (Qg (QaC (a:=z) (b:=f k) rfl rfl rfl rfl (Qfe (by omega))) (Qu ⟨z*f k,_,rfl⟩))⟩
   ·rintro ρ ⟨z,j,rfl⟩
    exact⟨z,j,rfl⟩
  rintro ρ ⟨z,j,rfl⟩
  exact Qx (Qb4 (ra:=⟨.int z,true,[]⟩) (rb:=⟨.int room,true,[]⟩) rfl rfl rfl) ⟨_,rfl,rfl⟩
 obtain⟨o,h1,h2⟩:=key
 cases o with
 | rt d fr=>
  obtain⟨b,rfl,rfl⟩:=h2
  exact⟨b,by unfold Qo;rw[h1];rfl⟩
 | _=>exact h2.elim
noncomputable def Qe2(QcM:Den):DS:=(Qe (Qbt (Q3 (Qa 1)) (.nm 5) (Qe (Qds (.tp [6,7]) (dDm (Qc (Qa 5) (Qc (QJ (Qa 2) (dC (.int 1))) Qf)))) (Qe (Qds (.tp [6,8]) (dDm (Qc (Qa 6) (Qc (Qa 2) Qf)))) (Qe (Qs 9 (QhM (dOp gLt (Qa 7) (Qa 2)) (dOr (dOp gEq (Qa 3) (dC (.int 2))) (QhM (dOp gEq (Qa 3) (dC (.int 3))) (dOp gEq (dOp QaV (Qa 6) (dC (.int 3))) (dC (.int 1))))))) (Qe (Qs 10 (Qbb (Qc (Qa 7) (Qc (dOp QaV (QJ (QJ (Qa 7) (dC (.int 1))) (Qa 8)) (QJ (Qa 2) (dC (.int 1)))) (Qc (Qa 9) Qf))))) (Qe (Qs 11 (dOp QaV (dOp Qez (Qa 6) (dC (.int 3))) (QJ (dBf Qav (Qc (Qa 0) Qf)) (dC (.int 1))))) (Qe (sIf (bOr (Qhh (QN (dOp gNe (Qa 3) (dC (.int 2)))) (QN (dOp gNe (Qa 3) (dC (.int 3))))) (QN (Qn 3 QcM [] (Qc (Qa 2) (Qc (QJ (Qa 0) (Qae (Qc (Qa 10) Qf))) (Qc (Qa 4) Qf)))))) (Qe (Qs 0 (QJ (QJ (Qax (Qa 0) Qas (QY (Qa 11))) (Qae (Qc (Qa 10) Qf))) (Qax (Qa 0) (QY (Qa 11)) Qas))) Qr) Qr) Qr))))))) (Qe (QM (Qa 0)) Qr))
theorem Qj3{W:List (Int×Int×Bool)}{n:Nat}:cutD (W.map Qdc) none (some (n:Int))=(W.take n).map Qdc/\cutD (W.map Qdc) (some (n:Int)) none=(W.drop n).map Qdc:=by
 unfold cutD
 simp only[Zp,HT.Qeu,HT.Qew,Zbq,Zbs]
 constructor
 ·rw[← ZaW]
  by_cases h:n<=W.length
  ·rw[Zav h]
  ·rw[Nat.min_eq_right (by omega),Zaa (by omega),Zaa (by omega)]
 ·rw[← ZbR,← ZaW]
  congr 1
  by_cases h:n<=W.length
  ·rw[Zav h,Zaa (by simp)]
  ·rw[Nat.min_eq_right (by omega),Zcf (by omega),Zcf (by omega)];simp
theorem QvC{fa fb:DE}{ρ:En}{ra rb:R}{W:List (Int×Int×Bool)}{n:Nat}(ha:fa ρ=some ra)(ea:ra.d=QZ W)(hb:fb ρ=some rb)(eb:rb.d= .int n):
  Qax fa Qas (QY fb) ρ=some ⟨QZ (W.take n),true,[]⟩/\Qax fa (QY fb) Qas ρ=some ⟨QZ (W.drop n),true,[]⟩:=by
 unfold Qax Qas QY
 simp only[ha,hb,Za,ea,eb,QZ,Qj3.1,Qj3.2,QaO,QqL,if_true]
 exact⟨trivial,trivial⟩
theorem QuD{m:Nat}{a s:Int}{ln:Bool}(h0:0<=a)(h1:a<=m)(hs:0<=s)(hs2:s<m)(hl:ln=true->a<m):GoodW m (a,(a+1+s) % (m+1),ln):=by
 have h5:=ZH (a+1+s) (by omega:(m:Int)+1≠0)
 have h6:=ZD (a+1+s) (by omega:(0:Int)<m+1)
 have h7:=Qyr (a:=a) (x:=1+s) (n:=(m:Int)+1) (by omega) (by omega)
 rw[← Int.add_assoc,show a % ((m:Int)+1)=a from ZbM h0 (by omega)]at h7
 exact⟨⟨h0,h5,h1,by dsimp only;omega,λz=>h7 z.symm⟩,hl⟩
def Qle(d:Den):Prop:=∀(m:Nat) (W:List (Int×Int×Bool)) (cs:List Int) (kind room:Int),0<m->m<=1000->W.length+cs.length<=10000->(∀w∈W,GoodW m w)->(∀c∈cs,0<=c/\c<B40)→
 ∃W' fr,d [QZ W,Qt cs,.int m,.int kind,.int room]=some (QZ W',fr)/\W'.length<=W.length+cs.length/\(∀w∈W',GoodW m w)/\(∀w∈W,w∈W')
theorem Qtg{df:Den}(hf:Qlt df):Qle (Qo 12 (Qe2 df)):=λm W cs kind room h0 hm hl hg hcs=>by
 have key:Run (Qe2 df) (QbS 12 [QZ W,Qt cs,.int m,.int kind,.int room]) (Rt λd fr=>∃W',d=QZ W'/\W'.length<=W.length+cs.length/\(∀w∈W',GoodW m w)/\(∀w∈W,w∈W')):=by
  refine run_seq (QaI (toD:=D.int) cs (λi ρ=>∃W' b j5 j6 j7 j8 j9 j10 j11,W'.length<=W.length+i/\(∀w∈W',GoodW m w)/\(∀w∈W,w∈W')/\ρ=[some (QZ W',b),some (Qt cs,false),some (.int m,true),some (.int kind,true),some (.int room,true),j5,j6,j7,j8,j9,j10,j11]) (ir:=⟨cs.map .int,[]⟩) rfl rfl ⟨W,false,none,none,none,none,none,none,none,by omega,hg,λw hw=>hw,rfl⟩ ?_ ?_)
  ·rintro i c ρ hi ⟨W',b,j5,j6,j7,j8,j9,j10,j11,hw1,hw2,hw3,rfl⟩
   have hil:i<cs.length:=(Zf.mp hi).1
   have hc:=hcs c (ZP hi)
   refine⟨_,rfl,?_⟩
   refine run_seq (Qim (a:=c) (b:=(m:Int)+1) rfl rfl (Qaf (a:=(m:Int)) (b:=1) rfl rfl rfl rfl) rfl (by omega) (by omega) ?_)
   have a1:=ZH c (by omega:(m:Int)+1≠0)
   have a2:=ZD c (by omega:(0:Int)<(m:Int)+1)
   have a3:0<=c / ((m:Int)+1):=ZbE hc.1 (by omega)
   generalize c % ((m:Int)+1)=st at a1 a2
   generalize c / ((m:Int)+1)=nb at a3
   refine run_seq (Qim (a:=nb) (b:=m) rfl rfl rfl rfl (by omega) (by omega) ?_)
   have b1:=ZH nb (by omega:(m:Int)≠0)
   have b2:=ZD nb (by omega:(0:Int)<(m:Int))
   have b3:0<=nb / (m:Int):=ZbE a3 (by omega)
   generalize nb % (m:Int)=sp at b1 b2
   generalize nb / (m:Int)=nc at b3
   refine run_seq (Qg (Qng (Qb4 (g:=gLt) (ra:=⟨.int st,true,[]⟩) (rb:=⟨.int m,true,[]⟩) rfl rfl rfl) (Qu9 (Qba (a:=kind) (b:=2) rfl rfl rfl rfl) (Qng (Qba (a:=kind) (b:=3) rfl rfl rfl rfl) (Qba (a:=nc % 3) (b:=1) (QaD (a:=nc) (b:=3) rfl rfl rfl rfl (by decide)) rfl rfl rfl)))) ?_)
   rw[Ql]
   generalize eln:(decide (st<m) && (decide (kind=2) || (decide (kind=3) && decide (nc % 3=1))))=ln
   have hln:ln=true->st<m:=λh=>by rw[← eln,Zh,decide_eq_true_eq]at h;exact h.1
   have gw:=QuD (m:=m) (a:=st) (s:=sp) (ln:=ln) a1 (by omega) b1 b2 hln
   refine run_seq (Qg (r:=⟨Qdc (st,(st+1+sp) % (m+1),ln),true,[]⟩) ?_ ?_)
   ·unfold Qbb
    refine(congrArg (λz=>Option.bind z _) (Qj (r:=⟨.int st,true,[]⟩) rfl (Qj (QaD (a:=st+1+sp) (b:=(m:Int)+1) (Qaf (Qaf (a:=st) (b:=1) rfl rfl rfl rfl) rfl rfl rfl) rfl (Qaf (a:=(m:Int)) (b:=1) rfl rfl rfl rfl) rfl (by omega)) (Qj (r:=⟨.bl ln,true,[]⟩) rfl (QL _))))).trans ?_
    rfl
   rw[Ql]
   generalize ewy:(st,(st+1+sp) % ((m:Int)+1),ln)=wy at gw
   have elen:∀{ρ:En},ρ[0]? =some (some (QZ W',b))->dBf Qav (Qc (Qa 0) Qf) ρ=some ⟨.int W'.length,true,[]⟩:=λ{ρ} h=>by
    rw[Qfp (xs:=W'.map Qdc) (Qbi h) (by cases b<;>rfl),Zp]
   refine run_seq (Qg (QaD (a:=nc / 3) (b:=(W'.length:Int)+1) (Qsa (a:=nc) (b:=3) rfl rfl rfl rfl (by decide) (by decide)) rfl (Qaf (a:=(W'.length:Int)) (b:=1) (elen rfl) rfl rfl rfl) rfl (by omega)) ?_)
   rw[Ql]
   obtain⟨at',eat⟩:∃n:Nat,nc / 3 % ((W'.length:Int)+1)=n:=⟨(nc / 3 % ((W'.length:Int)+1)).toNat,by have:=ZH (nc / 3) (by omega:(W'.length:Int)+1≠0);omega⟩
   rw[eat]
   have gg:∀w∈W'++[wy],GoodW m w:=λw hw=>(ZC.mp hw).elim (hw2 w) (λh=>by rw[Zz.mp h];exact gw)
   obtain⟨bf,hbf⟩:=hf m (W'++[wy]) room hm (by simp;omega) gg
   have eadd:=QlK (A:=W') (B:=[wy]) (fa:=Qa 0) (fb:=Qae (Qc (Qa 10) Qf)) (rb:=⟨QZ [wy],true,[]⟩) (ρ:=[some (QZ W',b),some (Qt cs,false),some (.int m,true),some (.int kind,true),some (.int room,true),some (.int c,true),some (.int nc,true),some (.int st,true),some (.int sp,true),some (.bl ln,true),some (Qdc wy,true),some (.int at',true)]) (Qbi rfl) (by cases b<;>rfl) rfl rfl (by simp;omega)
   have esl:=QvC (fa:=Qa 0) (fb:=Qa 11) (W:=W') (n:=at') (rb:=⟨.int at',true,[]⟩) (ρ:=[some (QZ W',b),some (Qt cs,false),some (.int m,true),some (.int kind,true),some (.int room,true),some (.int c,true),some (.int nc,true),some (.int st,true),some (.int sp,true),some (.bl ln,true),some (Qdc wy,true),some (.int at',true)]) (Qbi rfl) (by cases b<;>rfl) rfl rfl
   refine run_seq (Qab (Qdf (QvW (QO (QdF (a:=kind) (b:=2) rfl rfl rfl rfl) rfl) (QO (QdF (a:=kind) (b:=3) rfl rfl rfl rfl) rfl)) (QO (Qm (Qj (r:=⟨.int m,true,[]⟩) rfl (Qj eadd (Qj (r:=⟨.int room,true,[]⟩) rfl (QL _)))) hbf rfl) rfl)) (λ_=>?_) (λ_=>Qu (Qu ⟨W',b,_,_,_,_,_,_,_,by omega,hw2,hw3,rfl⟩)))
   refine run_seq (Qg (QlK (A:=W'.take at'++[wy]) (B:=W'.drop at') (QlK (A:=W'.take at') (B:=[wy]) (rb:=⟨QZ [wy],true,[]⟩) esl.1 rfl rfl rfl (by simp;omega)) rfl esl.2 rfl (by simp;omega)) (Qu ?_))
   rw[Ql]
   have meq:∀w,w∈W'.take at'++[wy]++W'.drop at'↔w=wy∨w∈W':=λw=>by
    rw[ZaP]
    exact Qip (xs:=W') (k:=at') (y:=wy)
   refine Qu ⟨W'.take at'++[wy]++W'.drop at',true,_,_,_,_,_,_,_,by simp;omega,λw hw=>?_,λw hw=>(meq w).mpr (.inr (hw3 w hw)),rfl⟩
   rcases(meq w).mp hw with rfl | h
   ·exact gw
   ·exact hw2 w h
  ·rintro ρ ⟨W',b,j5,j6,j7,j8,j9,j10,j11,hw1,hw2,hw3,rfl⟩
   exact Qx (Qbi rfl) ⟨W',by cases b<;>rfl,hw1,hw2,hw3⟩
 obtain⟨o,h1,h2⟩:=key
 cases o with
 | rt d fr=>
  obtain⟨W',rfl,h3,h4,h5⟩:=h2
  exact⟨W',fr,by unfold Qo;rw[h1];rfl,h3,h4,h5⟩
 | _=>exact h2.elim
noncomputable def Qi(m:Nat)(g:Nat->Int):Int:=((List.range m).map g).sum
theorem Qag(m:Nat)(g:Nat->Int):Qi (m+1) g=Qi m g+g m:=by
 unfold Qi;rw[Zcl,ZaN,List.sum_append_int];simp
theorem Qk{m:Nat}{f g:Nat->Int}(h:∀i,i<m->f i=g i):Qi m f=Qi m g:=by
 unfold Qi;rw[ZL λi hi=>h i (Zk.mp hi)]
theorem QbI(m:Nat)(f g:Nat->Int):Qi m (λi=>f i+g i)=Qi m f+Qi m g:=by
 induction m with
 | zero=>rfl
 | succ m ih=>rw[Qag,Qag,Qag,ih];omega
theorem Qhk(m:Nat)(f:Nat->Int):Qi m (λi=> -f i)= -Qi m f:=by
 induction m with
 | zero=>rfl
 | succ m ih=>rw[Qag,Qag,ih];omega
theorem Qb0(m:Nat):Qi m (λ_=>0)=0:=by
 induction m with
 | zero=>rfl
 | succ m ih=>rw[Qag,ih];rfl
theorem Q1(m:Nat)(c:Int)(f:Nat->Int):Qi m (λi=>c*f i)=c*Qi m f:=by
 induction m with
 | zero=>simp[Qi]
 | succ m ih=>rw[Qag,Qag,ih,ZaA]
theorem Qdk(m n:Nat)(f:Nat->Nat->Int):Qi m (λi=>Qi n λj=>f i j)=Qi n λj=>Qi m λi=>f i j:=by
 induction m with
 | zero=>show 0=Qi n λj=>0;rw[Qb0]
 | succ m ih=>
  rw[Qag,ih,← QbI]
  exact Qk λj _=>by rw[Qag]
theorem QaQ{m:Nat}{p:Nat}(hp:p<m)(v:Int)(f:Nat->Int):Qi m (λi=>(if i=p then v else 0)*f i)=v*f p:=by
 induction m with
 | zero=>omega
 | succ m ih=>
  rw[Qag]
  by_cases h:p=m
  ·subst h
   rw[if_pos rfl,Qk (g:=λ_=>0) λi hi=>by rw[if_neg (by omega)];simp,Qb0];simp
  ·rw[ih (by omega),if_neg (λz=>h z.symm)];simp
noncomputable def QfO(m:Nat)(T:Nat->Nat->Int)(f c:Nat->Int):Nat->Int:=λj=>f j+Qi m λi=>c i*T i j
theorem Qd0{m:Nat}{f g:Nat->Int}(h:∀i,i<m->f i=g i):Qb m f=Qb m g:=by
 unfold Qb
 congr 1
 refine ZL λi hi=>?_
 rw[h i (Zk.mp hi)]
noncomputable def Qgw:DS:=(Qe (Qbt (Q3 (Qa 1)) (.nm 2) (Qe (sIf (QN (dOp gNe (dBf Qav (Qc (Qa 2) Qf)) (Qq (Qa 0) (dC (.int 0))))) (Qe QA Qr) Qr) Qr)) Qr)
def Qob(d:Den):Prop:=∀(m:Nat) (R L:List (Int×Int)) (fs:List (Nat->Int)),d [QG m R L,.lst (fs.map λf=>Qb m f)]=some (.non,true)
theorem Qwd:Qob (Qo 3 Qgw):=λm R L fs=>by
 have key:Run Qgw (QbS 3 [QG m R L,.lst (fs.map λf=>Qb m f)]) (Nx λ_=>True):=by
  refine run_seq (QaI (toD:=λf=>Qb m f) fs (λ_ ρ=>∃j2,ρ=[some (QG m R L,false),some (.lst (fs.map λf=>Qb m f),false),j2]) (ir:=⟨fs.map λf=>Qb m f,[]⟩) rfl rfl ⟨none,rfl⟩ ?_ ?_)
  ·rintro i f ρ _ ⟨j2,rfl⟩
   refine⟨_,rfl,?_⟩
   refine run_seq (Qab (b:=false) (QO (QdF (Qfp (xs:=(List.range m).map λi=> .int (f i)) (r:=⟨Qb m f,false,[]⟩) rfl rfl) rfl (Qd7 (m:=m) (R:=R) (L:=L) (r:=⟨QG m R L,false,[]⟩) rfl rfl).1 rfl) (by simp)) (λh=>by cases h) (λ_=>Qu (Qu ⟨_,rfl⟩)))
  ·rintro ρ ⟨j2,rfl⟩
   exact Qu trivial
 obtain⟨o,h1,h2⟩:=key
 unfold Qo
 rw[h1]
 cases o with
 | nx ρ=>rfl
 | _=>exact h2.elim
theorem Que{fa:DE}{r:R}{ρ:En}{Q:Out->Prop}(h:fa ρ=some r)(q:Q (.nx ρ)):Run (QiB fa) ρ Q:=⟨_,by simp[QiB,h],q⟩
theorem Qq1{m:Nat}(f g:Nat->D):Qh7 ((List.range m).map f) ((List.range m).map g)=(List.range m).map λi=> .tup [f i,g i]:=by
 generalize List.range m=l
 induction l with
 | nil=>rfl
 | cons n ns ih=>unfold Qh7 at ih ⊢;simp only[ZM,List.zip_cons_cons,ih]
theorem Qht{ρ:En}{m:Nat}{f:Nat->Int}{fs:DA}{rs:RA}(h:fs ρ=some rs)(e:rs.ds=[Qb m f]):dList fs ρ=some ⟨Qb m f,true,[]⟩:=by
 unfold dList
 rw[h,Za,e]
 simp[Qb,QaO]
theorem QbP{fa fb:DE}{ρ:En}{ra rb:R}{m:Nat}{f g:Nat->D}(ha:fa ρ=some ra)(ea:ra.d= .lst ((List.range m).map f))(hb:fb ρ=some rb)(eb:rb.d= .lst ((List.range m).map g)):QcD fa fb ρ=some ⟨(List.range m).map λi=> .tup [f i,g i],ra.M++rb.M⟩:=by
 unfold QcD
 rw[ha,Za,hb,Za,ea,eb]
 simp only[Qq1]
theorem Qvs(i j:Nat)(s:Int×Int):(hit i j s).natAbs<=1:=by unfold hit;split<;>split<;>decide
theorem Qgs(i j:Nat):∀S:List (Int×Int),((S.map (hit i j)).sum).natAbs<=S.length
 | []=>by simp
 | s::S=>by
  have:=Qgs i j S
  have:=Qvs i j s
  rw[ZM,ZaV,ZE]
  omega
theorem Qpv{fa fl fh:DE}{ρ:En}{ra rl rh:R}{cs:List Int}{a b:Nat}(ha:fa ρ=some ra)(ea:ra.d=Qt cs)(hl:fl ρ=some rl)(el:rl.d= .int a)(hh:fh ρ=some rh)(eh:rh.d= .int b):Qax fa (QY fl) (QY fh) ρ=some ⟨Qt ((cs.drop (min a cs.length)).take (min b cs.length-min a cs.length)),true,[]⟩:=by
 unfold Qax QY
 simp only[ha,hl,hh,Za,ea,el,eh,Qt,cutD,Zp,HT.Qew,← ZbR,← ZaW,QaO,Qhj,if_true]
theorem Qpz{cs:List Int}{a b:Nat}{c:Int}(h:c∈(cs.drop a).take b):c∈cs:=List.mem_of_mem_drop (List.mem_of_mem_take h)
structure Qc7 (m:Nat) (R L:List (Int×Int)):Prop where
 ex:∃W,Esc m W/\(∀w∈W,GoodW m w)/\W.length<=200/\R=Qc4 W/\L=Qdq W
theorem Qc7.good{m:Nat}{R L:List (Int×Int)}(h:Qc7 m R L):(∀s∈R,Good m s)/\(∀s∈L,Good m s)/\R.length<=200/\L.length<=200/\(∀s∈R,s.1<s.2)/\∀s∈L,s.1<m:=by
 obtain⟨W,_,h2,h3,rfl,rfl⟩:=h.ex
 exact⟨λs hs=>(Qke h2 s hs).1,λs hs=>(Qkh h2 s hs).1,Zx (Qrr W) h3,Zx (Qq6 W) h3,λs hs=>(Qke h2 s hs).2,λs hs=>(Qkh h2 s hs).2⟩
theorem Ql2{α:Type}(m:Nat)(g:Nat->α->Int):∀S:List α,Qi m (λj=>(S.map (g j)).sum)=(S.map λs=>Qi m λj=>g j s).sum
 | []=>by simp[Qb0]
 | s::S=>by
  simp only[ZM,ZaV]
  rw[QbI,Ql2 m g S]
theorem QpJ{α:Type}(c:Int)(f:α->Int):∀S:List α,c*(S.map f).sum=(S.map λs=>c*f s).sum
 | []=>by simp
 | s::S=>by simp only[ZM,ZaV,ZaA,QpJ c f S]
theorem QwB{fa:DE}{ρ:En}{r:R}{m:Nat}{f:Nat->Int}(h:fa ρ=some r)(e:r.d=Qb m f):dBf QiJ (Qc fa Qf) ρ=some ⟨.int (Qi m f),true,[]⟩:=by
 unfold dBf
 rw[Qj h (QL _),Za]
 have:Qb m f= .lst (((List.range m).map f).map .int):=by unfold Qb;rw[Zag];rfl
 simp only[e,this,QiJ,Qn6,Zab]
 rfl
structure TP (m:Nat) (T:Nat->Nat->Int):Prop where
 neg:∀p,p<m->T p p<0
 pos:∀i j,i<m->j<m->i≠j->0<=T i j
 bnd:∀i j,i<m->j<m->(T i j).natAbs<2^64
 wt:∃w:Nat->Int,(∀j,0<=w j)/\∀i,i<m->Qi m (λj=>T i j*w j)<= -1
theorem QgY{m:Nat}{f g:Nat->Int}(h:∀i,i<m->f i<=g i):Qi m f<=Qi m g:=by
 induction m with
 | zero=>exact Zcn _
 | succ m ih=>
  rw[Qag,Qag]
  have:=ih λi hi=>h i (by omega)
  have:=h m (by omega)
  omega
theorem QhQ{g:DT}{fb:DS}{Q:Out->Prop}(I:Nat->En->Prop)(step:∀n ρ,I n ρ->∃b,g ρ=some b/\(b=false->Q (.nx ρ))/\(b=true->Run fb ρ λo=>match o with | .nx ρ2=>∃n',n'<n/\I n' ρ2 | .ct ρ2=>∃n',n'<n/\I n' ρ2 | .bk ρ2=>Q (.nx ρ2) | .rt d fr=>Q (.rt d fr))):
  ∀(n:Nat) (ρ:En),I n ρ->Run (QcK g fb) ρ Q:=by
 intro n
 induction n using Nat.strongRecOn with
 | _ n ih=>
  intro ρ h
  obtain⟨b,hb,hf,ht⟩:=step n ρ h
  unfold Run
  rw[QrX,hb,Za]
  cases b with
  | false=>exact⟨_,by simp,hf rfl⟩
  | true=>
   obtain⟨o,ho,hq⟩:=ht rfl
   rw[if_pos rfl,ho,Za]
   cases o with
   | nx ρ2=>obtain⟨n',hn,hI⟩:=hq;exact ih n' hn ρ2 hI
   | ct ρ2=>obtain⟨n',hn,hI⟩:=hq;exact ih n' hn ρ2 hI
   | bk ρ2=>exact⟨_,rfl,hq⟩
   | rt d fr=>exact⟨_,rfl,hq⟩
theorem Qaq{fa fb:DE}{ρ:En}{ra rb:R}{m:Nat}{f:Nat->Int}{i:Nat}(ha:fa ρ=some ra)(ea:ra.d=Qb m f)(hb:fb ρ=some rb)(eb:rb.d= .int i)(h:i<m):Qq fa fb ρ=some ⟨.int (f i),true,[]⟩:=by
 have:=QlM ha ea hb eb (by omega) (by omega)
 rw[ZW]at this
 exact this
def QqV(m:Nat)(S:List (Int×Int)):Prop:=∀A:Nat->Prop,(∃p,p<m/\A p)->∃s∈S,s.1<m/\A s.1.toNat/\(s.2=m∨¬A s.2.toNat)
theorem QrV{m:Nat}{W:List (Int×Int×Bool)}(h:Esc m W):QqV m (QK (Qc4 W) (Qdq W)):=λA hA=>by
 obtain⟨w,hw,h1,h2,h3⟩:=h A hA
 refine⟨(w.1,w.2.1),?_,h1,h2,h3⟩
 unfold QK
 cases e:w.2.2 with
 | true=>exact Zc _ (ZT.mpr ⟨w,ZaM.mpr ⟨hw,e⟩,rfl⟩)
 | false=>
  have hr:Qeh w∈Qc4 W:=ZT.mpr ⟨w,ZaM.mpr ⟨hw,by simp[e]⟩,rfl⟩
  by_cases hlt:w.2.1<w.1
  ·refine Zj _ (Zc _ (ZT.mpr ⟨Qeh w,hr,?_⟩))
   unfold Qeh
   rw[if_pos hlt,if_neg (by omega)];rfl
  ·refine Zj _ (Zj _ ?_)
   have:Qeh w=(w.1,w.2.1):=by
    unfold Qeh
    rw[if_neg hlt]
    by_cases hgt:w.2.1>w.1
    ·rw[if_pos hgt]
    ·rw[if_neg hgt];rw[show w.2.1=w.1 by omega]
   rw[← this];exact hr
inductive Rk (m:Nat) (S:List (Int×Int)):Nat->Nat->Prop where
 | pit {s:Int×Int}{n:Nat}:s∈S->s.2=m->Rk m S (n+1) s.1.toNat
 | step {s:Int×Int}{k n:Nat}:s∈S->s.2≠m->Rk m S k s.2.toNat->k<n->Rk m S n s.1.toNat
theorem Quz{P:Nat->Prop}(h:∃n,P n):∃n,P n/\∀k,k<n->¬P k:=by
 obtain⟨n,hn⟩:=h
 induction n using Nat.strongRecOn with
 | _ n ih=>
  by_cases h:∃k,k<n/\P k
  ·obtain⟨k,hk,h⟩:=h;exact ih k hk h
  ·exact⟨n,hn,λk hk hx=>h ⟨k,hk,hx⟩⟩
theorem Qy0{m:Nat}{S:List (Int×Int)}(he:QqV m S):∀p,p<m->∃n,Rk m S n p:=λp hp=>by
 by_cases h:∃n,Rk m S n p
 ·exact h
 ·exfalso
  obtain⟨s,hs,h1,h2,h3⟩:=he (λp=>¬ ∃n,Rk m S n p) ⟨p,hp,h⟩
  by_cases e:s.2=m
  ·exact h2 ⟨1,.pit hs e⟩
  ·rcases h3 with h3 | h3
   ·exact e h3
   ·have:∃n,Rk m S n s.2.toNat:=Zbe λz=>h3 z
    obtain⟨k,hk⟩:=this
    exact h2 ⟨k+1,.step hs e hk (by omega)⟩
theorem QvY{m:Nat}{S:List (Int×Int)}(hg:∀s∈S,Good m s)(he:QqV m S):∃r:Nat->Nat,r m=0/\∀p,p<m->∃s∈S,s.1=p/\r s.2.toNat<r p:=by
 have h:∀p,∃n,(p<m->Rk m S n p/\∀k,k<n->¬Rk m S k p)/\(p=m->n=0):=λp=>by
  by_cases hp:p<m
  ·obtain⟨n,hn⟩:=Quz (Qy0 he p hp)
   exact⟨n,λ_=>hn,λz=>by omega⟩
  ·exact⟨0,λz=>absurd z hp,λ_=>rfl⟩
 obtain⟨r,hr⟩:=Zca h
 refine⟨r,(hr m).2 rfl,λp hp=>?_⟩
 have h1:=((hr p).1 hp).1
 generalize r p=n at h1
 cases h1 with
 | @pit s n hs e=>
  obtain⟨g1,g2,g3,g4,g5⟩:=hg s hs
  exact⟨s,hs,by omega,by rw[e,ZW,(hr m).2 rfl];omega⟩
 | @step s k n hs e hk hkn=>
  obtain⟨g1,g2,g3,g4,g5⟩:=hg s hs
  refine⟨s,hs,by omega,?_⟩
  have hl:s.2.toNat<m:=by omega
  have:=((hr s.2.toNat).1 hl).2 k
  have:¬k<r s.2.toNat:=λz=>this z hk
  omega
theorem QmX(r:Nat->Nat):∀m:Nat,∃N,∀p,p<=m->r p<=N
 | 0=>⟨r 0,λp hp=>by rw[show p=0 by omega];exact Zi _⟩
 | m+1=>by
  obtain⟨N,hN⟩:=QmX r m
  refine⟨N+r (m+1),λp hp=>?_⟩
  by_cases e:p=m+1
  ·subst e;omega
  ·have:=hN p (by omega);omega
theorem Qrq{m:Nat}{i:Nat}{s:Int×Int}(hi:i<m)(g:Good m s)(w:Nat->Int)(hw:w m=0):Qi m (λj=>hit i j s*w j)=if s.1=i then w s.2.toNat-w i else 0:=by
 obtain⟨g1,g2,g3,g4,g5⟩:=g
 by_cases h:s.1=i
 ·rw[if_pos h]
  have e:Qi m (λj=>hit i j s*w j)=Qi m (λj=>(if j=s.2.toNat then 1 else 0)*w j+(if j=i then-1 else 0)*w j):=Qk λj _=>by
   have:hit i j s=(if j=s.2.toNat then 1 else 0)+(if j=i then-1 else 0):=by
    unfold hit
    by_cases a:s.2=j
    ·by_cases b:i=j
     ·rw[if_pos ⟨h,a⟩,if_pos ⟨h,b⟩,if_pos (by omega),if_pos b.symm];omega
     ·rw[if_pos ⟨h,a⟩,if_neg (λz=>b z.2),if_pos (by omega),if_neg (λz=>b z.symm)];omega
    ·by_cases b:i=j
     ·rw[if_neg (λz=>a z.2),if_pos ⟨h,b⟩,if_neg (by omega),if_pos b.symm];omega
     ·rw[if_neg (λz=>a z.2),if_neg (λz=>b z.2),if_neg (by omega),if_neg (λz=>b z.symm)];omega
   rw[this,ZaB]
  rw[e,QbI,QaQ hi]
  by_cases hm:s.2.toNat<m
  ·rw[QaQ hm];omega
  ·have e2:Qi m (λj=>(if j=s.2.toNat then 1 else 0)*w j)=0:=by
    rw[Qk (g:=λ_=>0) λj hj=>by rw[if_neg (by omega),ZI],Qb0]
   rw[e2,show s.2.toNat=m by omega,hw];omega
 ·rw[if_neg h]
  rw[Qk (g:=λ_=>0) λj hj=>by
   unfold hit
   rw[if_neg (λz=>h z.1),if_neg (λz=>h z.1)];rw[Zbt,ZI],Qb0]
theorem Qkw{α:Type}{g:α->Int}{X:Int}:∀S:List α,(∀s∈S,g s<=X)->(S.map g).sum<=S.length*X
 | [],_=>by simp
 | a::S,h=>by
  have h1:=h a (by simp)
  have h2:=Qkw S λs hs=>h s (by simp[hs])
  simp only[ZM,ZaV,ZE,Zbh,ZaB]
  rw[show((1:Nat):Int)*X=X by simp]
  omega
theorem Qkd{α:Type}{g:α->Int}{X Y:Int}:∀(S:List α),(∀s∈S,g s<=X)->(∃s∈S,g s<=Y)->(S.map g).sum<=S.length*X-X+Y
 | [],_,h=>by obtain⟨s,hs,_⟩:=h;exact absurd hs (by simp)
 | a::S,h,h2=>by
  obtain⟨s,hs,hy⟩:=h2
  have hb:∀s∈S,g s<=X:=λs hs=>h s (by simp[hs])
  simp only[ZM,ZaV,ZE,Zbh,ZaB]
  rw[show((1:Nat):Int)*X=X by simp]
  rcases Zs.mp hs with e | hs
  ·subst e
   have:=Qkw S hb
   omega
  ·have:=Qkd S hb ⟨s,hs,hy⟩
   have:=h a (by simp)
   omega
theorem Qkt{α:Type}{g:α->Int}:∀S:List α,(∀s∈S,0<=g s)->0<=(S.map g).sum
 | [],_=>by simp
 | a::S,h=>by
  have h1:=h a (by simp)
  have h2:=Qkt S λs hs=>h s (by simp[hs])
  simp only[ZM,ZaV]
  omega
theorem Qt6{m:Nat}{S:List (Int×Int)}(hg:∀s∈S,Good m s)(he:QqV m S)(hl:S.length<2^60):TP m (QH m S):=by
 have hn:∀s∈S,0<=s.1/\0<=s.2:=λs hs=>⟨(hg s hs).1,(hg s hs).2.1⟩
 have pos:∀i j,i<m->j<m->i≠j->0<=QH m S i j:=λi j hi hj hij=>by
  rw[Qem hi hj hn]
  refine Qkt S λs _=>?_
  unfold hit
  rw[if_neg (λz=>hij z.2) (c:=s.1=i/\i=j)]
  split<;>omega
 obtain⟨r,r0,hr⟩:=QvY hg he
 obtain⟨N,hN⟩:=QmX r m
 have M1:1<=S.length+1:=by omega
 have wt:∃w:Nat->Int,(∀j,0<=w j)/\∀i,i<m->Qi m (λj=>QH m S i j*w j)<= -1:=by
  refine⟨λv=>(((S.length+1)^N:Nat):Int)-(((S.length+1)^(N-r v):Nat):Int),λj=>?_,λi hi=>?_⟩
  ·have:=ZF M1 (Nat.sub_le N (r j))
   show(0:Int)<=(((S.length+1)^N:Nat):Int)-(((S.length+1)^(N-r j):Nat):Int)
   omega
  ·generalize hw:(λv=>(((S.length+1)^N:Nat):Int)-(((S.length+1)^(N-r v):Nat):Int))=w
   have hw':∀v,w v=(((S.length+1)^N:Nat):Int)-(((S.length+1)^(N-r v):Nat):Int):=λv=>by rw[← hw]
   have wm:w m=0:=by rw[hw',r0,Zbs];omega
   have e:Qi m (λj=>QH m S i j*w j)=(S.map λs=>if s.1=(i:Int)then w s.2.toNat-w i else 0).sum:=by
    rw[Qk (g:=λj=>(S.map λs=>hit i j s*w j).sum) λj hj=>by
     rw[Qem hi hj hn,Zat,QpJ]
     congr 1
     exact ZL λs _=>Zat _ _]
    rw[Ql2 m (λj s=>hit i j s*w j) S]
    congr 1
    exact ZL λs hs=>Qrq hi (hg s hs) w wm
   rw[e]
   obtain⟨s0,hs0,e0,hlt⟩:=hr i hi
   generalize hX:(((S.length+1)^(N-r i):Nat):Int)=X
   have X1:1<=X:=by
    have:0<(S.length+1)^(N-r i):=Nat.pow_pos (by omega)
    omega
   have key:=Qkd (g:=λs:Int×Int=>if s.1=i then w s.2.toNat-w i else 0) (X:=X) (Y:=X-(S.length+1)*X) S (λs _=>by
    show(if s.1=i then w s.2.toNat-w i else 0)<=X
    split
    ·rw[hw',hw' i,hX]
     have:0<=(((S.length+1)^(N-r s.2.toNat):Nat):Int):=Int.natCast_nonneg _
     omega
    ·omega) ⟨s0,hs0,by
    show(if s0.1=i then w s0.2.toNat-w i else 0)<=_
    rw[if_pos e0,hw',hw' i,hX]
    have hb:=hN i (by omega)
    have h1:(S.length+1)^(N-r i+1)<=(S.length+1)^(N-r s0.2.toNat):=ZF M1 (by omega)
    rw[Zcg]at h1
    have h2:((((S.length+1)^(N-r i)*(S.length+1):Nat)):Int)<=(((S.length+1)^(N-r s0.2.toNat):Nat):Int):=by exact_mod_cast h1
    rw[Zac,hX,Zat]at h2
    rw[show((S.length+1:Nat):Int)=(S.length:Int)+1 by omega]at h2
    omega⟩
   have:((S.length:Int)+1)*X=S.length*X+X:=by rw[ZaB,ZQ]
   omega
 refine⟨λp hp=>?_,pos,λi j hi hj=>?_,wt⟩
 ·obtain⟨w,w0,hw⟩:=wt
  have h1:=hw p hp
  by_cases hneg:QH m S p p<0
  ·exact hneg
  ·exfalso
   have:0<=Qi m (λj=>QH m S p j*w j):=by
    have:=QgY (m:=m) (f:=λ_=>0) (g:=λj=>QH m S p j*w j) λj hj=>by
     by_cases e:p=j
     ·subst e;exact Zbu (by omega) (w0 _)
     ·exact Zbu (pos p j hp hj e) (w0 _)
    rw[Qb0]at this
    exact this
   omega
 ·rw[Qem hi hj hn]
  have:=Qgs i j S
  omega
theorem Qc7.tp{m:Nat}{R L:List (Int×Int)}(h:Qc7 m R L):TP m (QH m (QK R L)):=by
 have hg:=h.good
 refine Qt6 (Qe8 hg.1 hg.2.1) ?_ ?_
 ·obtain⟨W,h1,_,_,rfl,rfl⟩:=h.ex
  exact QrV h1
 ·unfold QK
  simp only[Zr,Zp]
  omega
theorem Qr6{fa fb fc:DE}{ρ:En}{ra rb rc:R}{n:Nat}(ha:fa ρ=some ra)(ea:ra.d= .int ((n:Int)-1))(hb:fb ρ=some rb)(eb:rb.d= .int (-1))(hc:fc ρ=some rc)(ec:rc.d= .int (-1))(hn:n<=16777216):QgO fa fb fc ρ=some ⟨(List.range n).map λ(k:Nat)=> .int ((n:Int)-1-k),[]⟩:=by
 unfold QgO
 rw[ha,Za,hb,Za,hc,Za,ea,eb,ec]
 show(if(n:Int)-1- -1<=16777216/\_ then _ else _)=_
 rw[if_pos ⟨by omega,by omega,by omega,by omega,by omega⟩]
 rw[show((n:Int)-1- -1).toNat=n by omega]
 rfl
theorem QpC{a:Int}{k:Nat}{ρ:En}(h1:a.natAbs<2^200)(h2:k<=1000):dOp Qfv (dC (.int a)) (dC (.int k)) ρ=some ⟨.int (a^k),true,[]⟩:=by
 refine Qb4 (ra:=⟨.int a,true,[]⟩) (rb:=⟨.int k,true,[]⟩) rfl rfl ?_
 show(if 0<=(k:Int)/\(k:Int)<=1000/\a.natAbs<2^200 then some (D.int (a^(k:Int).toNat))else none)=_
 rw[if_pos ⟨by omega,by omega,h1⟩,ZW]
theorem QtF{i:Nat}{g:Nat->Int}{v:Int}:((List.range i).map λk=>D.int (g k))++[.int v]=(List.range (i+1)).map λk=>D.int (up g i v k):=by
 rw[Zcl,ZaN]
 congr 1
 ·refine ZL λk hk=>?_
  have:=Zk.mp hk
  unfold up
  rw[if_neg (by omega)]
 ·show _=[D.int (up g i v i)]
  unfold up
  rw[if_pos rfl]
theorem QuP{x:Nat}{fa:DE}{ρ:En}{r:R}{i:Nat}{g:Nat->Int}{v:Int}{Q:Out->Prop}(hx:ρ[x]? =some (some (Qb i g,true)))(ha:fa ρ=some r)(e:r.d= .int v)(hl:i<16777216)(q:Q (.nx (ρ.set x (some (Qb (i+1) (up g i v),true))))):Run (QfG x Q7 fa) ρ Q:=by
 refine QpL (xs:=(List.range i).map λk=>D.int (g k)) hx ha (by rw[e];rfl) (by simpa using hl) ?_
 rw[e,QtF]
 exact q
theorem Qd2{fa:DE}{ρ:En}{r:R}{m:Nat}{f:Nat->Int}(h:fa ρ=some r)(e:r.d=Qb m f):dBf Qav (Qc fa Qf) ρ=some ⟨.int m,true,[]⟩:=by
 rw[Qfp h e];simp
theorem QnR{fs:DA}{ρ:En}{rs:RA}(h:fs ρ=some rs)(hl:rs.ds.length<=64):Qae fs ρ=some ⟨.lst rs.ds,rs.fr,rs.M⟩:=by
 unfold Qae
 rw[h,Za,if_pos hl]
theorem QgZ(n m:Nat)(f:Nat->Int):(Qb m f).sim (n+1)=true:=by
 unfold Qb
 simp only[D.sim,List.all_map,Zaq]
 intro p _
 cases n<;>rfl
theorem QsK{m n:Nat}{f g:Nat->Nat->Int}(h:∀i,i<m->∀j,j<n->f i j=g i j):Qd m n f=Qd m n g:=by
 unfold Qd Qb
 congr 1
 refine ZL λi hi=>?_
 congr 1
 refine ZL λj hj=>?_
 rw[h i (Zk.mp hi) j (Zk.mp hj)]
theorem Qfh{fa fb:DE}{ρ:En}{ra rb:R}{m n:Nat}{f:Nat->Nat->Int}{i:Int}(ha:fa ρ=some ra)(ea:ra.d=Qd m n f)(hb:fb ρ=some rb)(eb:rb.d= .int i)(h0:0<=i)(h:i<m):Qq fa fb ρ=some ⟨Qb n (f i.toNat),ra.fr,ra.M⟩:=by
 unfold Qq
 rw[ha,Za,hb,Za,ea,eb]
 simp only[Qd,D.items,Za,QkS h0 h,Zab]
 rfl
theorem Qm8{x m n:Nat}{f:Nat->Nat->Int}{fp fi fa:DE}{ρ:En}{i j v:Int}{rp ri ra:R}{Q:Out->Prop}(hx:ρ[x]? =some (some (Qd m n f,true)))(hp:fp ρ=some rp)(ep:rp.d= .int i)(hi:fi ρ=some ri)(ei:ri.d= .int j)(ha:fa ρ=some ra)(ea:ra.d= .int v)
  (h0:0<=i) (h:i<m) (k0:0<=j) (k:j<n) (q:Q (.nx (ρ.set x (some (Qd m n (up2 f i.toNat j.toNat v),true))))):Run (Qbr x (Qbs Q7 fp) fi fa) ρ Q:=by
 refine⟨_,?_,q⟩
 have hn:ra.norm=⟨.int v,true,[]⟩:=by unfold HS.R.norm;rw[ea];rfl
 have hd:QaS (Qd m n f) [i]=some (Qb n (f i.toNat)):=by
  simp only[QaS,Qd,D.items,Za,QkS h0 h]
 have hu:QaR [i] (Qd m n f) (.lst (((List.range n).map λk=>D.int (f i.toNat k)).set j.toNat (.int v)))=Qd m n (up2 f i.toNat j.toNat v):=by
  simp only[QaR,Qd,Zp,Zu,QbB h0 h,QiH]
  rw[QeY]
  congr 2;funext k
  unfold up2
  split
  ·rename_i e;subst e;rfl
  ·rfl
 unfold Qbr
 rw[ha,Za,hx]
 simp only[Qbs,Q7,Za,hp,ep,ZaT,hi,ei,hd,Qb,Zp,Zu,QbB k0 k,hn,ea]
 simp only[kill,List.contains_nil,Bool.not_false,Zcr,decide_true,Zan,if_true]
 rw[hu]
noncomputable def QgC:DS:=(Qe (Qs 1 (QJ (Qq (Qa 0) (dC (.int 0))) (dC (.int 1)))) (Qe (Qs 2 (QI (Qay (Qa 1)) (.nm 1) [none,none,some 1] QR (Qam (Qae (Qc (dC (.int 0)) Qf)) (Qa 2)))) (Qe (Qs 5 (QJ (Qq (Qa 0) (dC (.int 1))) (QI (Q3 (Qq (Qa 0) (dC (.int 1)))) (.tp [1,2]) [none,none,none] QR (Qbb (Qc (Qa 2) (Qc (Qa 1) Qf)))))) (Qe (Qbt (Q3 (QJ (Qa 5) (Qq (Qa 0) (dC (.int 2))))) (.tp [3,4]) (Qe (Qbr 2 (Qbs Q7 (Qa 3)) (Qa 3) (dOp QaJ (Qq (Qq (Qa 2) (Qa 3)) (Qa 3)) (dC (.int 1)))) (Qe (Qbr 2 (Qbs Q7 (Qa 3)) (Qa 4) (QJ (Qq (Qq (Qa 2) (Qa 3)) (Qa 4)) (dC (.int 1)))) Qr))) (Qe (QM (QI (Q3 (Qax (Qa 2) Qas (QY (Qq (Qa 0) (dC (.int 0)))))) (.nm 1) [none,none,some 0] QR (Qax (Qa 1) Qas (QY (Qq (Qa 2) (dC (.int 0))))))) Qr)))))
theorem Qrl{m n k:Nat}{f:Nat->Nat->Int}(h:n<=m):cutD ((List.range m).map λi=>Qb k (f i)) none (some (n:Int))=(List.range n).map λi=>Qb k (f i):=by
 unfold cutD
 simp only[Zp,Zu,HT.Qeu,HT.Qew,Zbq,Zbs,Zav h]
 rw[← ZaW,List.take_range,Zav h]
def TabsOk(d:Den):Prop:=∀(m:Nat) (R L:List (Int×Int)),0<m->m<=1000->R.length+R.length+L.length<=1000000->(∀s∈R,Good m s)->(∀s∈L,Good m s)->d [QG m R L]=some (Qd m m (QH m (QK R L)),true)
theorem QwC:TabsOk (Qo 6 QgC):=λm R L m0 hm hl hR hL=>by
 have gS:=Qe8 hR hL
 have it:∀{ρ:En},ρ[0]? =some (some (QG m R L,false))->Qa 0 ρ=some ⟨QG m R L,false,[]⟩:=λh=>Qbi h
 have fin:Qd m m (QH (m+1) (QK R L))=Qd m m (QH m (QK R L)):=QsK λi hi j hj=>by
  rw[Qem (m:=m+1) (by omega) (by omega) λs hs=>⟨(gS s hs).1,(gS s hs).2.1⟩,Qem hi hj λs hs=>⟨(gS s hs).1,(gS s hs).2.1⟩]
 rw[← fin]
 refine QW ?_
 refine run_seq (Qg (Qaf (a:=(m:Int)) (b:=1) (Qd7 (it rfl) rfl).1 rfl rfl rfl) ?_)
 rw[Ql]
 refine run_seq (Qg (QF (out:=λ_=>Qb (m+1) λ_=>0) (List.range (m+1)) (QaL (n:=m+1) (r:=⟨.int (m+1:Nat),true,[]⟩) rfl rfl (by omega)) rfl λx _=>⟨[none,some (.int x,true),some (.int (m+1:Nat),true)],rfl,_,QeL (n:=m+1) (r:=⟨.int (m+1:Nat),true,[]⟩) rfl rfl (by omega),rfl,rfl⟩) ?_)
 rw[Ql]
 refine run_seq (Qg (Qix (A:=R) (B:=R.map Prod.swap) (rb:=⟨Q2 (R.map Prod.swap),true,[]⟩) (Qd7 (it rfl) rfl).2.1 rfl ?_ rfl (by simp;omega)) ?_)
 ·have e1:(R.map λx=>pairD x.swap)=(R.map Prod.swap).map pairD:=by simp[Zag,Function.comp_def]
  unfold Q2
  rw[← e1]
  exact QF (toD:=pairD) (out:=λx=>pairD x.swap) R (Q6 (Qd7 (it rfl) rfl).2.1 rfl) rfl λx _=>⟨[none,some (.int x.1,true),some (.int x.2,true)],rfl,⟨pairD x.swap,true,[]⟩,rfl,rfl,rfl⟩
 rw[Ql]
 refine QaK (P:=λρ=>∃j3 j4,ρ=[some (QG m R L,false),some (.int (m+1:Nat),true),some (Qd (m+1) (m+1) (QH (m+1) (QK R L)),true),j3,j4,some (Q2 (R++R.map Prod.swap),true)]) ?_ ?_
 ·refine QaI (toD:=pairD) (QK R L) (λi ρ=>∃j3 j4,ρ=[some (QG m R L,false),some (.int (m+1:Nat),true),some (Qd (m+1) (m+1) (QH (m+1) ((QK R L).take i)),true),j3,j4,some (Q2 (R++R.map Prod.swap),true)]) (ir:=⟨(QK R L).map pairD,[]⟩) ?_ rfl ⟨none,none,rfl⟩ ?_ ?_
  ·exact Q6 (Qix (A:=R++R.map Prod.swap) (B:=L) (ra:=⟨Q2 (R++R.map Prod.swap),true,[5]⟩) rfl rfl (Qd7 (it rfl) rfl).2.2 rfl (by simp;omega)) rfl
  ·rintro i s ρ hi ⟨j3,j4,rfl⟩
   obtain⟨s1,s2,s3,s4,s5⟩:=gS s (ZP hi)
   have c1:s.1<((m+1:Nat):Int):=by omega
   have c2:s.2<((m+1:Nat):Int):=by omega
   refine⟨_,rfl,?_⟩
   have step:QH (m+1) ((QK R L).take (i+1))=stepT (m+1) (QH (m+1) ((QK R L).take i)) s:=by
    unfold QH
    rw[List.take_add_one,hi,List.foldl_append];rfl
   have e1:∀{ρ:En}{f:Nat->Nat->Int}(y:Nat) (k:Int),ρ[2]? =some (some (Qd (m+1) (m+1) f,true))->ρ[3]? =some (some (.int s.1,true))->ρ[y]? =some (some (.int k,true))->0<=k->k<((m+1:Nat):Int)->Qq (Qq (Qa 2) (Qa 3)) (Qa y) ρ=some ⟨.int (f s.1.toNat k.toNat),true,[]⟩:=λ{ρ f} y k h2 h3 hy k0 kl=>
    QlM (Qfh (Qbi h2) rfl (Qn1 h3) rfl s1 c1) rfl (Qn1 hy) rfl k0 kl
   refine run_seq (Qm8 (i:=s.1) (j:=s.1) (m:=m+1) (n:=m+1) rfl rfl rfl rfl rfl (Qb4 (e1 3 s.1 rfl rfl rfl s1 c1) rfl rfl) rfl s1 c1 s1 c1 ?_)
   refine run_seq (Qm8 (i:=s.1) (j:=s.2) (m:=m+1) (n:=m+1) rfl rfl rfl rfl rfl (Qaf (e1 4 s.2 rfl rfl rfl s2 c2) rfl (Qdd (.int 1) _) rfl) rfl s1 c1 s2 c2 (Qu ⟨some (.int s.1,true),some (.int s.2,true),?_⟩))
   rw[step]
   unfold stepT
   rw[if_pos ⟨c1,c2⟩,if_pos c1]
   rfl
  ·rintro ρ ⟨j3,j4,rfl⟩
   rw[ZbZ]
   exact⟨j3,j4,rfl⟩
 rintro ρ ⟨j3,j4,rfl⟩
 refine Qx (QF (toD:=λ(i:Nat)=>Qb (m+1) (QH (m+1) (QK R L) i)) (out:=λ(i:Nat)=>Qb m (QH (m+1) (QK R L) i)) (ir:=⟨(List.range m).map λi=>Qb (m+1) (QH (m+1) (QK R L) i),[2]⟩) (List.range m) ?_ rfl λi hi=>⟨[none,some (Qb (m+1) (QH (m+1) (QK R L) i),false),some (QG m R L,false)],rfl,_,QlB (m:=m+1) (n:=m) (ra:=⟨Qb (m+1) (QH (m+1) (QK R L) i),false,[]⟩) rfl rfl (Qd7 (r:=⟨QG m R L,false,[]⟩) rfl rfl).1 rfl (by omega),rfl,rfl⟩) ⟨rfl,rfl⟩
 refine Q6 (r:=⟨.lst ((List.range m).map λi=>Qb (m+1) (QH (m+1) (QK R L) i)),false,[2]⟩) ?_ rfl
 unfold Qax Qas QY
 rw[Qbi (d:=Qd (m+1) (m+1) (QH (m+1) (QK R L))) (b:=true) rfl,(Qd7 (it rfl) rfl).1]
 show some (QaO (cutD ((List.range (m+1)).map λi=>Qb (m+1) (QH (m+1) (QK R L) i)) none (some (m:Int))) [2])=_
 rw[Qrl (by omega)]
 unfold QaO
 have:QQ ((List.range m).map λi=>Qb (m+1) (QH (m+1) (QK R L) i))=false:=by
  cases m with
  | zero=>omega
  | succ m=>rw[Zbr];rfl
 rw[this];rfl
noncomputable def Qqk:Option Int->D
 | none=> .non
 | some i=> .int i
@[simp] theorem QuC(o:Option Int):(Qqk o).flat=true:=by cases o<;>rfl
noncomputable def QAa(m:Nat)(F:Nat->Option Int):D:= .lst ((List.range m).map λi=>Qqk (F i))
@[simp] theorem QAl(m:Nat)(F:Nat->Option Int):(QAa m F).flat=false:=rfl
@[simp] theorem QzQ(m:Nat)(F:Nat->Option Int):QQ ((List.range m).map λi=>Qqk (F i))=true:=Qb3 (f:=λi=>Qqk (F i)) (λ_=>QuC _) _
theorem Ql6{fa fb:DE}{ρ:En}{ra rb:R}{i j:Int}{n:Nat}(ha:fa ρ=some ra)(ea:ra.d= .int i)(hb:fb ρ=some rb)(eb:rb.d= .int j)(hn:(n:Int)=j-i)(hl:n<=16777216)(h1: -(2^62)<=i)(h2:i<2^61):Qeq fa fb ρ=some ⟨(List.range n).map λ(k:Nat)=> .int (i+k),[]⟩:=by
 unfold Qeq
 rw[ha,Za,hb,Za,ea,eb]
 show(if j-i<=16777216/\_ then _ else _)=_
 rw[if_pos ⟨by omega,by omega,by omega,by omega,by omega⟩]
 rw[show(j-i).toNat=n by omega]
 rfl
abbrev Qbq(i:Int):Prop:=Builtin.Int.intBits i<=2^20
theorem Qe9{i:Int}(h:i.natAbs<2^300):Qbq i:=Zx (Zbk h) (by decide)
noncomputable def QoA:DS:=(Qe (QM (QI (Q3 (Qa 0)) (.nm 1) [none,none,some 1] QR (Qq (Qa 1) (Qa 2)))) Qr)
def Qhz(d:Den):Prop:=∀(n m:Nat) (f:Nat->Nat->Int) (j:Nat),j<m->d [Qd n m f,.int j]=some (Qb n (λi=>f i j),true)
theorem QsQ:Qhz (Qo 2 QoA):=λn m f j hj=>
 QW (Qx (QF (toD:=λ(i:Nat)=>Qb m (f i)) (out:=λ(i:Nat)=> .int (f i j)) (List.range n) (Q6 (r:=⟨Qd n m f,false,[]⟩) rfl rfl) rfl λi _=>⟨_,rfl,⟨.int (f i j),true,[]⟩,Qaq (m:=m) (f:=f i) (i:=j) (ra:=⟨Qb m (f i),false,[]⟩) (rb:=⟨.int j,true,[]⟩) rfl rfl rfl rfl hj,rfl,rfl⟩) ⟨rfl,rfl⟩)
noncomputable def QnL(Qca:Den):DS:=(Qe (QM (QI (Qay (dBf Qav (Qc (Qa 0) Qf))) (.nm 1) [none,none,some 0] QR (Qn 2 Qca [] (Qc (Qa 2) (Qc (Qa 1) Qf))))) Qr)
theorem Qdz{fa:DE}{ρ:En}{r:R}{n m:Nat}{f:Nat->Nat->Int}(h:fa ρ=some r)(e:r.d=Qd n m f):dBf Qav (Qc fa Qf) ρ=some ⟨.int n,true,[]⟩:=by
 rw[Qfp h e];simp
def Qet(d:Den):Prop:=∀(n:Nat) (f:Nat->Nat->Int),n<=1000->d [Qd n n f]=some (Qd n n (λj i=>f i j),true)
theorem Qr7{dc:Den}(hc:Qhz dc):Qet (Qo 1 (QnL dc)):=λn f hn=>
 QW (Qx (QF (toD:=λ(k:Nat)=> .int (k:Int)) (out:=λ(j:Nat)=>Qb n (λi=>f i j)) (List.range n) (QaL (n:=n) (Qdz (n:=n) (m:=n) (f:=f) (r:=⟨Qd n n f,false,[]⟩) rfl rfl) rfl (by omega)) rfl λj hj=>⟨[none,some (.int j,true),some (Qd n n f,false)],rfl,⟨Qb n (λi=>f i j),true,[]⟩,Qm (r:=⟨[Qd n n f,.int j],false,[]⟩) rfl (hc n n f j (Zk.mp hj)) rfl,rfl,rfl⟩) ⟨rfl,rfl⟩)
noncomputable def QnJ:DS:=(Qe (QM (dBf QiJ (Qc (QI (QcD (Qa 0) (Qa 1)) (.tp [1,2]) [none,none,none] QR (Qam (Qa 1) (Qa 2))) Qf))) Qr)
def QjM(d:Den):Prop:=∀(n:Nat) (a b:Nat->Int),(∀i,i<n->Qbq (a i)/\Qbq (b i))->d [Qb n a,Qb n b]=some (.int (Qi n λi=>a i*b i),true)
theorem Qq9:QjM (Qo 2 QnJ):=λn a b hb=>
 QW (Qx (QwB (m:=n) (f:=λi=>a i*b i) (QF (toD:=λ(i:Nat)=> .tup [.int (a i),.int (b i)]) (out:=λ(i:Nat)=> .int (a i*b i)) (List.range n) (QbP (ra:=⟨Qb n a,false,[]⟩) (rb:=⟨Qb n b,false,[]⟩) rfl rfl rfl rfl) rfl λi hi=>⟨[none,some (.int (a i),true),some (.int (b i),true)],rfl,⟨.int (a i*b i),true,[]⟩,QaC (a:=a i) (b:=b i) rfl rfl rfl rfl (QeI (hb i (Zk.mp hi)).1 (hb i (Zk.mp hi)).2),rfl,rfl⟩) rfl) ⟨rfl,rfl⟩)
noncomputable def QlX(QeE:Den):DS:=(Qe (QM (QI (Q3 (Qa 1)) (.nm 1) [none,none,some 0] QR (Qn 2 QeE [] (Qc (Qa 2) (Qc (Qa 1) Qf))))) Qr)
def Qhn(d:Den):Prop:=∀(n k:Nat) (a:Nat->Int) (f:Nat->Nat->Int),(∀i,i<n->Qbq (a i))->(∀j i,j<k->i<n->Qbq (f j i))->d [Qb n a,Qd k n f]=some (Qb k (λj=>Qi n λi=>a i*f j i),true)
theorem QsJ{ds:Den}(hs:QjM ds):Qhn (Qo 2 (QlX ds)):=λn k a f ha hf=>
 QW (Qx (QF (toD:=λ(j:Nat)=>Qb n (f j)) (out:=λ(j:Nat)=> .int (Qi n λi=>a i*f j i)) (List.range k) (Q6 (r:=⟨Qd k n f,false,[]⟩) rfl rfl) rfl λj hj=>⟨_,rfl,⟨.int (Qi n λi=>a i*f j i),true,[]⟩,Qm (r:=⟨[Qb n a,Qb n (f j)],false,[]⟩) rfl (hs n a (f j) λi hi=>⟨ha i hi,hf j i (Zk.mp hj) hi⟩) rfl,rfl,rfl⟩) ⟨rfl,rfl⟩)
noncomputable def Qme(QaE:Den)(Qb2:Den):DS:=(Qe (Qs 2 (Qn 1 QaE [] (Qc (Qa 1) Qf))) (Qe (QM (QI (Q3 (Qa 0)) (.nm 1) [none,none,some 2] QR (Qn 2 Qb2 [] (Qc (Qa 1) (Qc (Qa 2) Qf))))) Qr))
noncomputable def prodF(n:Nat)(f g:Nat->Nat->Int):Nat->Nat->Int:=λi j=>Qi n λk=>f i k*g k j
def QqW(n:Nat)(f:Nat->Nat->Int):Prop:=∀i j,i<n->j<n->Qbq (f i j)
def Qgc(d:Den):Prop:=∀(n:Nat) (f g:Nat->Nat->Int),n<=1000->QqW n f->QqW n g->d [Qd n n f,Qd n n g]=some (Qd n n (prodF n f g),true)
theorem Qp8{dt dl:Den}(ht:Qet dt)(hl:Qhn dl):Qgc (Qo 3 (Qme dt dl)):=λn f g hn hf hg=>by
 refine QW ?_
 refine run_seq (Qg (Qm (r:=⟨[Qd n n g],false,[]⟩) rfl (ht n g hn) rfl) ?_)
 rw[Ql]
 refine Qx (r:=⟨Qd n n (prodF n f g),true,[]⟩) (QF (toD:=λ(i:Nat)=>Qb n (f i)) (out:=λ(i:Nat)=>Qb n (prodF n f g i)) (List.range n) (Q6 (r:=⟨Qd n n f,false,[]⟩) rfl rfl) rfl λi hi=>⟨_,rfl,⟨Qb n (prodF n f g i),true,[]⟩,Qm (r:=⟨[Qb n (f i),Qd n n (λj i=>g i j)],false,[]⟩) rfl (hl n n (f i) (λj i=>g i j) (λk hk=>hf i k (Zk.mp hi) hk) (λj k hj hk=>hg k j hk hj)) rfl,rfl,rfl⟩) ⟨rfl,rfl⟩
noncomputable def QfI(Qcl:Den):DS:=(Qe (sIf (bOr (Qcy (QN (Qjb "list" (Qa 0)))) (QN (dOp gNe (dBf Qav (Qc (Qa 0) Qf)) (Qa 1)))) (Qe (QM (dC (.bl false))) Qr) Qr) (Qe (QM (dOp gEq (dBf Qav (Qc (QI (Q3 (Qa 0)) (.nm 1) [none,none] (QN (Qn 1 Qcl [] (Qc (Qa 1) Qf))) (Qa 1)) Qf)) (Qa 1))) Qr))
def QkG(d:Den):Prop:=∀(n:Nat) (a:Nat->Int),d [Qb n a,.int n]=some (.bl true,true)
theorem QwJ{dw:Den}(hw:QkZ dw):QkG (Qo 2 (QfI dw)):=λn a=>by
 refine QW ?_
 refine QE (Qab (b:=false) (Qdf (a:=false) (b:=false) (QbF (b:=true) (QO (b:=true) rfl rfl)) (QO (b:=false) (r:=⟨.bl false,true,[]⟩) ((QdF (a:=n) (b:=n) (Qd2 (m:=n) (f:=a) (r:=⟨Qb n a,false,[]⟩) rfl rfl) rfl (rb:=⟨.int n,true,[]⟩) rfl rfl).trans (by simp)) rfl)) (λh=>by cases h) (λ_=>Qu ?_))
 have ec:=QdX (fi:=Q3 (Qa 0)) (t:= .nm 1) (cap:=[none,none]) (ft:=QN (Qn 1 dw [] (Qc (Qa 1) Qf))) (fe:=Qa 1) (ρ:=[some (Qb n a,false),some (.int n,true)]) (toD:=λ(i:Nat)=> .int (a i)) (keep:=λ_=>true) (out:=λ(i:Nat)=> .int (a i)) (List.range n) (Q6 (r:=⟨Qb n a,false,[]⟩) rfl rfl) rfl λi _=>⟨[none,some (.int (a i),true)],rfl,QO (b:=true) (Qm (r:=⟨[.int (a i)],true,[]⟩) rfl (hw (a i)) rfl) rfl,λ_=>⟨⟨.int (a i),true,[]⟩,rfl,rfl,rfl⟩⟩
 have el:=Qfp ec rfl
 rw[Zp,Zbf.mpr λ_ _=>rfl,Zu]at el
 exact Qx (r:=⟨.bl true,true,[]⟩) ((Qba (a:=n) (b:=n) el rfl (rb:=⟨.int n,true,[]⟩) rfl rfl).trans (by simp)) ⟨rfl,rfl⟩
theorem QjG{fa fb:DE}{ρ:En}{ra rb:R}{m k:Nat}{f g:Nat->Int}(ha:fa ρ=some ra)(ea:ra.d=Qb m f)(hb:fb ρ=some rb)(eb:rb.d=Qb k g)(hl:m+k<=1000):QJ fa fb ρ=some ⟨Qb (m+k) (λi=>if i<m then f i else g (i-m)),true,[]⟩:=by
 have e:Qb (m+k) (λi=>if i<m then f i else g (i-m))= .lst (((List.range m).map λi=>D.int (f i))++((List.range k).map λi=>D.int (g i))):=by
  unfold Qb
  rw[List.range_add,ZaN,Zag]
  congr 2
  ·refine ZL λi hi=>?_
   show D.int (if i<m then f i else g (i-m))=_
   rw[if_pos (Zk.mp hi)]
  ·refine ZL λi hi=>?_
   show D.int (if m+i<m then f (m+i)else g (m+i-m))=_
   rw[if_neg (by omega),Nat.add_sub_cancel_left]
 rw[e]
 unfold QJ
 rw[ha,Za,hb,Za,ea,eb]
 simp only[Qb,Zp,Zu,Qf9]
 rw[if_pos (by omega)]
 unfold QaO
 rw[if_pos]
 rw[Qdi,Zh]
 exact⟨Qb3 (λ_=>rfl) _,Qb3 (λ_=>rfl) _⟩
noncomputable def sm:Nat->(Nat->Int)->Int
 | 0,_=>0
 | n+1,f=>sm n f+f n
theorem QbG{f g:Nat->Int}:∀{n:Nat},(∀i,i<n->f i=g i)->sm n f=sm n g
 | 0,_=>rfl
 | n+1,h=>by unfold sm;rw[QbG λi hi=>h i (by omega),h n (by omega)]
theorem Qh6(x y:Int)(f g:Nat->Int):∀n,sm n (λi=>x*f i+y*g i)=x*sm n f+y*sm n g
 | 0=>by simp[sm]
 | n+1=>by
  unfold sm
  rw[Qh6 x y f g n,ZaA,ZaA]
  show _+(x*f n+y*g n)=_
  omega
theorem QiF{f:Nat->Int}:∀{n:Nat},(∀i,i<n->f i=0)->sm n f=0
 | 0,_=>rfl
 | n+1,h=>by unfold sm;rw[QiF λi hi=>h i (by omega),h n (by omega)];rfl
theorem Qek{f:Nat->Int}{c:Nat}:∀{n:Nat},c<n->(∀i,i<n->i≠c->f i=0)->sm n f=f c
 | 0,hc,_=>by omega
 | n+1,hc,h=>by
  unfold sm
  by_cases e:c=n
  ·rw[QiF λi hi=>h i (by omega) (by omega),e];omega
  ·rw[Qek (c:=c) (by omega) λi hi=>h i (by omega),h n (by omega) (Ne.symm e)];omega
theorem QkP{f:Nat->Int}{c d:Nat}:∀{n:Nat},c<d->d<n->(∀i,i<n->i≠c->i≠d->f i=0)->sm n f=f c+f d
 | 0,_,hc,_=>by omega
 | n+1,hcd,hd,h=>by
  unfold sm
  by_cases e:d=n
  ·rw[Qek (c:=c) (by omega) λi hi ne=>h i (by omega) ne (by omega),e]
  ·rw[QkP (c:=c) (d:=d) hcd (by omega) λi hi=>h i (by omega),h n (by omega) (by omega) (by omega)];omega
theorem QpY(x:Int)(f:Nat->Int):∀n,sm n (λi=>f i*x)=sm n f*x
 | 0=>by simp[sm]
 | n+1=>by unfold sm;rw[QpY x f n,ZaB]
noncomputable def skp(j c:Nat):Nat:=if c<j then c else c+1
noncomputable def sgn(j:Nat):Int:=if j % 2=0 then 1 else-1
theorem QjV(j:Nat):sgn (j+1)= -sgn j:=by
 unfold sgn
 by_cases h:j % 2=0
 ·rw[if_pos h,if_neg (by omega)]
 ·rw[if_neg h,if_pos (by omega)];rfl
noncomputable def det:Nat->(Nat->Nat->Int)->Int
 | 0,_=>1
 | n+1,m=>sm (n+1) λj=>sgn j*m j 0*det n λc r=>m (skp j c) (r+1)
noncomputable def cup(m:Nat->Nat->Int)(c:Nat)(a:Nat->Int):Nat->Nat->Int:=λj=>if j=c then a else m j
theorem QD(m:Nat->Nat->Int)(c:Nat)(a:Nat->Int):cup m c a c=a:=by unfold cup;rw[if_pos rfl]
theorem Qy(m:Nat->Nat->Int){c j:Nat}(a:Nat->Int)(h:j≠c):cup m c a j=m j:=by unfold cup;rw[if_neg h]
theorem Qal(m:Nat->Nat->Int)(c:Nat):cup m c (m c)=m:=by
 funext j
 by_cases h:j=c
 ·rw[h,QD]
 ·rw[Qy _ _ h]
theorem QlF(m:Nat->Nat->Int)(c:Nat)(a b:Nat->Int):cup (cup m c a) c b=cup m c b:=by
 funext j
 by_cases h:j=c
 ·rw[h,QD,QD]
 ·rw[Qy _ _ h,Qy _ _ h,Qy _ _ h]
theorem Qak(m:Nat->Nat->Int){c d:Nat}(a b:Nat->Int)(h:c≠d):cup (cup m c a) d b=cup (cup m d b) c a:=by
 funext j
 by_cases h1:j=c
 ·subst h1;rw[Qy _ _ h,QD,QD]
 ·by_cases h2:j=d
  ·subst h2;rw[QD,Qy _ _ h1,QD]
  ·rw[Qy _ _ h2,Qy _ _ h1,Qy _ _ h1,Qy _ _ h2]
theorem Qah:∀{n:Nat}{m k:Nat->Nat->Int},(∀j,j<n->∀r,r<n->m j r=k j r)->det n m=det n k
 | 0,_,_,_=>rfl
 | n+1,m,k,h=>by
  unfold det
  refine QbG λj hj=>?_
  rw[h j hj 0 (by omega),Qah (n:=n) (m:=λc r=>m (skp j c) (r+1)) (k:=λc r=>k (skp j c) (r+1)) λc hc r hr=>h _ (by unfold skp;split<;>omega) _ (by omega)]
theorem QhR(m:Nat->Nat->Int)(c:Nat)(v:Nat->Int):(λc' r=>cup m c v (skp c c') (r+1))=λc' r=>m (skp c c') (r+1):=by
 funext c' r
 rw[Qy _ _ (by unfold skp;split<;>omega)]
theorem Qhf(m:Nat->Nat->Int){c j:Nat}(v:Nat->Int)(h:c≠j):(λc' r=>cup m c v (skp j c') (r+1))=cup (λc' r=>m (skp j c') (r+1)) (if c<j then c else c-1) (λr=>v (r+1)):=by
 funext c' r
 by_cases e:c'=if c<j then c else c-1
 ·rw[e,QD]
  have:skp j (if c<j then c else c-1)=c:=by
   unfold skp
   by_cases q:c<j
   ·rw[if_pos q,if_pos q]
   ·rw[if_neg q,if_neg (by omega)];omega
  rw[this,QD]
 ·rw[Qy _ _ e,Qy]
  intro z
  refine e ?_
  unfold skp at z
  by_cases q:c'<j
  ·rw[if_pos q]at z;rw[if_pos (by omega)];omega
  ·rw[if_neg q]at z;rw[if_neg (by omega)];omega
theorem QgX(x y:Int)(a b:Nat->Int):∀(n:Nat) (m:Nat->Nat->Int) (c:Nat),c<n->∀(a b:Nat->Int),det n (cup m c λr=>x*a r+y*b r)=x*det n (cup m c a)+y*det n (cup m c b)
 | 0,_,_,h,_,_=>by omega
 | n+1,m,c,h,a,b=>by
  unfold det
  rw[← Qh6]
  refine QbG λj hj=>?_
  by_cases e:j=c
  ·subst e
   rw[QhR,QhR,QhR,QD,QD,QD]
   generalize det n _=q
   generalize sgn j=s
   simp only[ZaA,ZaB,ZJ,ZK]
  ·rw[Qhf m _ (Ne.symm e),Qhf m _ (Ne.symm e),Qhf m _ (Ne.symm e),Qy _ _ e,Qy _ _ e,Qy _ _ e]
   rw[QgX x y a b n _ _ (by split<;>omega)]
   generalize det n _=q
   generalize det n _=q'
   generalize sgn j*m j 0=s
   simp only[ZaA,ZK]
theorem Qiy{n:Nat}{m:Nat->Nat->Int}{c:Nat}(h:c<n)(a b:Nat->Int):det n (cup m c λr=>a r+b r)=det n (cup m c a)+det n (cup m c b):=by
 have:=QgX 1 1 a b n m c h a b
 simpa only[ZQ]using this
theorem Qfd{n:Nat}{m:Nat->Nat->Int}{c:Nat}(h:c<n)(x:Int)(a:Nat->Int):det n (cup m c λr=>x*a r)=x*det n (cup m c a):=by
 have:=QgX x 0 a a n m c h a a
 simpa only[ZI,ZbH]using this
theorem QiI:∀(n:Nat) (m:Nat->Nat->Int) (c:Nat),c+1<n->m c=m (c+1)->det n m=0
 | 0,_,_,h,_=>by omega
 | n+1,m,c,h,e=>by
  unfold det
  rw[QkP (c:=c) (d:=c+1) (by omega) h]
  ·have:(λc' r=>m (skp c c') (r+1))=λc' r=>m (skp (c+1) c') (r+1):=by
    funext c' r
    unfold skp
    by_cases q:c'<c
    ·rw[if_pos q,if_pos (by omega)]
    ·rw[if_neg q]
     by_cases q2:c'=c
     ·rw[if_pos (by omega),q2,e]
     ·rw[if_neg (by omega)]
   rw[this,QjV,e]
   generalize det n _=q
   rw[Zaw,Zaw];omega
  ·intro j hj h1 h2
   have:det n (λc' r=>m (skp j c') (r+1))=0:=by
    by_cases q:c<j
    ·refine QiI n _ c (by omega) ?_
     funext r
     show m (skp j c) (r+1)=m (skp j (c+1)) (r+1)
     unfold skp
     rw[if_pos q,if_pos (by omega),e]
    ·refine QiI n _ (c-1) (by omega) ?_
     funext r
     show m (skp j (c-1)) (r+1)=m (skp j (c-1+1)) (r+1)
     unfold skp
     rw[if_neg (by omega),if_neg (by omega),show c-1+1=c by omega,e]
   rw[this,ZG]
theorem Qi1{n:Nat}{m:Nat->Nat->Int}{c d:Nat}(hc:c<n)(hd:d<n)(hcd:c≠d)(hz:∀k:Nat->Nat->Int,k c=k d->det n k=0)(a b:Nat->Int):det n (cup (cup m c a) d b)= -det n (cup (cup m c b) d a):=by
 have z:=hz (cup (cup m c λr=>a r+b r) d λr=>a r+b r) (by rw[QD,Qy _ _ hcd,QD])
 have za:=hz (cup (cup m c a) d a) (by rw[QD,Qy _ _ hcd,QD])
 have zb:=hz (cup (cup m c b) d b) (by rw[QD,Qy _ _ hcd,QD])
 rw[Qiy hd,Qak _ _ _ hcd,Qiy hc,Qak _ _ _ hcd,Qiy hc,Qak _ _ _ (Ne.symm hcd),Qak _ _ _ (Ne.symm hcd),Qak _ _ _ (Ne.symm hcd),Qak _ _ _ (Ne.symm hcd),za,zb]at z
 omega
theorem QlG:∀(g n:Nat) (m:Nat->Nat->Int) (i:Nat),i+g+1<n->m i=m (i+g+1)->det n m=0
 | 0,n,m,i,h,e=>QiI n m i h e
 | g+1,n,m,i,h,e=>by
  have:=Qi1 (m:=m) (c:=i+g+1) (d:=i+g+1+1) (by omega) (by omega) (by omega) (λk hk=>QiI n k _ (by omega) hk) (m (i+g+1)) (m (i+g+1+1))
  rw[Qal,Qal]at this
  rw[this,QlG g n _ i (by omega)]
  ·rfl
  ·rw[Qy _ _ (by omega),Qy _ _ (by omega),Qy _ _ (by omega),QD]
   exact e
theorem QeN{n:Nat}{m:Nat->Nat->Int}{i j:Nat}(hi:i<n)(hj:j<n)(hij:i≠j)(e:m i=m j):det n m=0:=by
 rcases Nat.lt_or_gt_of_ne hij with h | h
 ·exact QlG (j-i-1) n m i (by omega) (by rw[show i+(j-i-1)+1=j by omega];exact e)
 ·exact QlG (i-j-1) n m j (by omega) (by rw[show j+(i-j-1)+1=i by omega];exact e.symm)
theorem QdN{n:Nat}{m:Nat->Nat->Int}{c d:Nat}(hc:c<n)(hd:d<n)(hcd:c≠d)(a b:Nat->Int):det n (cup (cup m c a) d b)= -det n (cup (cup m c b) d a):=Qi1 hc hd hcd (λk hk=>QeN hc hd hcd hk) a b
theorem Qeo{n:Nat}{m:Nat->Nat->Int}{c:Nat}(h:c<n)(x:Nat->Int)(E:Nat->Nat->Int):∀k,det n (cup m c λr=>sm k λs=>x s*E s r)=sm k λs=>x s*det n (cup m c (E s))
 | 0=>by
  have:=Qfd (m:=m) h 0 λ_=>0
  rw[ZI]at this
  unfold sm
  simpa using this
 | k+1=>by
  unfold sm
  rw[Qiy h,Qeo h x E k,Qfd h]
theorem Qm6:∀{n:Nat}(σ:Nat->Nat),(∀j,j<n+1->σ j<n)->∃i j,i<n+1/\j<n+1/\i≠j/\σ i=σ j
 | 0,σ,h=>absurd (h 0 (by omega)) (by omega)
 | n+1,σ,h=>by
  by_cases q:∃i,i<n+1/\σ i=σ (n+1)
  ·obtain⟨i,hi,e⟩:=q
   exact⟨i,n+1,by omega,by omega,by omega,e⟩
  ·have ne:∀i,i<n+1->σ i≠σ (n+1):=λi hi e=>q ⟨i,hi,e⟩
   have hv:=h (n+1) (by omega)
   obtain⟨i,j,hi,hj,hij,e⟩:=Qm6 (n:=n) (λj=>if σ (n+1)<σ j then σ j-1 else σ j) λj hj=>by
    have:=h j (by omega)
    have:=ne j hj
    show(if σ (n+1)<σ j then σ j-1 else σ j)<n
    by_cases c:σ (n+1)<σ j
    ·rw[if_pos c];omega
    ·rw[if_neg c];omega
   refine⟨i,j,by omega,by omega,hij,?_⟩
   have a:=ne i hi
   have b:=ne j hj
   have e:(if σ (n+1)<σ i then σ i-1 else σ i)=(if σ (n+1)<σ j then σ j-1 else σ j):=e
   by_cases c:σ (n+1)<σ i
   ·rw[if_pos c]at e
    by_cases d:σ (n+1)<σ j
    ·rw[if_pos d]at e;omega
    ·rw[if_neg d]at e;omega
   ·rw[if_neg c]at e
    by_cases d:σ (n+1)<σ j
    ·rw[if_pos d]at e;omega
    ·rw[if_neg d]at e;omega
theorem Qog{n:Nat}{E:Nat->Nat->Int}{x:Nat->Nat->Int}:∀(k:Nat) (W:Nat->Nat->Int) (σ:Nat->Nat),k<=n+1->(∀j,j<n+1->σ j<n)->(∀j,j<k->W j=λr=>sm n λs=>x j s*E s r)->(∀j,k<=j->j<n+1->W j=E (σ j))->det (n+1) W=0
 | 0,W,σ,hk,hσ,_,h2=>by
  obtain⟨i,j,hi,hj,hij,e⟩:=Qm6 σ hσ
  exact QeN hi hj hij (by rw[h2 i (by omega) hi,h2 j (by omega) hj,e])
 | k+1,W,σ,hk,hσ,h1,h2=>by
  have:=Qeo (n:=n+1) (m:=W) (c:=k) (by omega) (x k) E n
  rw[← h1 k (by omega),Qal]at this
  rw[this]
  refine QiF λs hs=>?_
  rw[Qog k (cup W k (E s)) (λj=>if j=k then s else σ j) (by omega) (λj hj=>by show(if j=k then s else σ j)<n;by_cases e:j=k;(rw[if_pos e];exact hs);(rw[if_neg e];exact hσ j hj)) (λj hj=>by rw[Qy _ _ (by omega)];exact h1 j (by omega)) λj h3 h4=>?_,ZG]
  show cup W k (E s) j=E (if j=k then s else σ j)
  by_cases e:j=k
  ·rw[e,QD,if_pos rfl]
  ·rw[Qy _ _ e,if_neg e];exact h2 j (by omega) h4
noncomputable def cyc(m:Nat->Nat->Int)(a:Nat->Int)(l k:Nat):Nat->Nat->Int:=λc=>if c<k then m c else if c=k then a else if c<=l then m (c-1)else m c
theorem QtP{n:Nat}(m:Nat->Nat->Int)(a:Nat->Int){l k:Nat}(hk:k<l)(hl:l<n):det n (cyc m a l k)= -det n (cyc m a l (k+1)):=by
 have h:=QdN (n:=n) (m:=cyc m a l k) (c:=k) (d:=k+1) (by omega) (by omega) (by omega) a (m k)
 have e1:cup (cup (cyc m a l k) k a) (k+1) (m k)=cyc m a l k:=by
  have q1:cyc m a l k k=a:=by unfold cyc;rw[if_neg (by omega),if_pos rfl]
  have q2:cyc m a l k (k+1)=m k:=by unfold cyc;rw[if_neg (by omega),if_neg (by omega),if_pos (by omega),ZbJ]
  have:=Qal (cyc m a l k) k
  rw[q1]at this
  rw[this,← q2,Qal]
 have e2:cup (cup (cyc m a l k) k (m k)) (k+1) a=cyc m a l (k+1):=by
  funext c
  by_cases h1:c=k+1
  ·subst h1;rw[QD];unfold cyc;rw[if_neg (by omega),if_pos rfl]
  ·rw[Qy _ _ h1]
   by_cases h2:c=k
   ·subst h2;rw[QD];unfold cyc;rw[if_pos (by omega)]
   ·rw[Qy _ _ h2]
    unfold cyc
    by_cases h3:c<k
    ·rw[if_pos h3,if_pos (by omega)]
    ·rw[if_neg h3,if_neg h2,if_neg (show ¬c<k+1 by omega),if_neg h1]
 rw[e1,e2]at h
 exact h
theorem QpM{n:Nat}(m:Nat->Nat->Int)(a:Nat->Int){l:Nat}(hl:l<n):∀g k,k+g=l->det n (cyc m a l k)=sgn g*det n (cup m l a)
 | 0,k,h=>by
  have:cyc m a l k=cup m l a:=by
   funext c
   unfold cyc cup
   by_cases h1:c=l
   ·rw[if_neg (by omega),if_pos (by omega),if_pos h1]
   ·rw[if_neg h1]
    by_cases h2:c<k
    ·rw[if_pos h2]
    ·rw[if_neg h2,if_neg (by omega),if_neg (by omega)]
  rw[this];unfold sgn;simp
 | g+1,k,h=>by
  rw[QtP m a (by omega) hl,QpM m a hl g (k+1) (by omega),QjV,Zaw]
theorem QyJ(j:Nat):sgn j*sgn j=1:=by unfold sgn;split<;>rfl
noncomputable def bE(r s q:Nat):Int:=if q=0 then(if s=r then 1 else 0)else if s=q-1 then 1 else 0
theorem QkL{n:Nat}(m:Nat->Nat->Int)(a:Nat->Int){r:Nat}(hr:r<n):det n m*a r=sm n λl=>det n (cup m l a)*m l r:=by
 have v0:∃v:Nat->Nat->Int,v=λj=>if j=0 then a else m (j-1):=⟨_,rfl⟩
 obtain⟨v,hv⟩:=v0
 have hv0:v 0=a:=by rw[hv];rfl
 have hvs:∀j,v (j+1)=m j:=λj=>by rw[hv];show(if j+1=0 then a else m (j+1-1))=_;rw[if_neg (by omega),ZbJ]
 have z:det (n+1) (λj s=>if s=0 then v j r else v j (s-1))=0:=by
  have key:det (n+1) (λj q=>sm n λs=>v j s*bE r s q)=0:=
   Qog (E:=bE r) (x:=v) (n+1) _ (λ_=>r) (by omega) (λ_ _=>hr) (λj _=>rfl) (λj h1 h2=>by omega)
  rw[← key]
  refine Qah λj hj s hs=>?_
  by_cases e:s=0
  ·subst e
   rw[if_pos rfl,Qek (c:=r) hr]
   ·unfold bE;rw[if_pos rfl,if_pos rfl,Zah]
   ·intro i _ ne;unfold bE;rw[if_pos rfl,if_neg ne,ZG]
  ·rw[if_neg e,Qek (c:=s-1) (by omega)]
   ·unfold bE;rw[if_neg e,if_pos rfl,Zah]
   ·intro i _ ne;unfold bE;rw[if_neg e,if_neg ne,ZG]
 unfold det at z
 have term:∀j,(sgn j*(if(0:Nat)=0 then v j r else v j (0-1))*det n λc q=>if q+1=0 then v (skp j c) r else v (skp j c) (q+1-1))=sgn j*v j r*det n λc=>v (skp j c):=λj=>by
  rw[if_pos rfl]
  congr 1
 have first:∀(k:Nat) (f:Nat->Int),sm (k+1) f=f 0+sm k λi=>f (i+1):=λk f=>by
  induction k with
  | zero=>show 0+f 0=f 0+0;omega
  | succ k ih=>show sm (k+1) f+f (k+1)=_;rw[ih];show _=f 0+(sm k (λi=>f (i+1))+f (k+1));omega
 rw[QbG λj _=>term j,first]at z
 have t0:(λc=>v (skp 0 c))=m:=by funext c;unfold skp;rw[if_neg (by omega),hvs]
 have tl:∀l,l<n->sgn (l+1)*v (l+1) r*det n (λc=>v (skp (l+1) c))= -(det n (cup m l a)*m l r):=λl hl=>by
  have:(λc=>v (skp (l+1) c))=cyc m a l 0:=by
   funext c
   unfold skp cyc
   by_cases h0:c=0
   ·subst h0;rw[if_pos (show 0<l+1 by omega),if_neg (show ¬0<0 by omega),if_pos rfl,hv0]
   ·obtain⟨c',rfl⟩:∃c',c=c'+1:=⟨c-1,by omega⟩
    rw[if_neg (show ¬c'+1<0 by omega),if_neg h0]
    by_cases h1:c'+1<=l
    ·rw[if_pos (show c'+1<l+1 by omega),if_pos h1,hvs,ZbJ]
    ·rw[if_neg (show ¬c'+1<l+1 by omega),if_neg h1,hvs]
  rw[this,QpM m a hl l 0 (by omega),hvs,QjV]
  have q:=QyJ l
  generalize det n (cup m l a)=d at *
  generalize m l r=x at *
  have: -sgn l*x*(sgn l*d)= -(sgn l*sgn l*(d*x)):=by
   rw[Zaw,Zaw,ZJ,ZK x,← ZJ,Zat x d]
  rw[this,q,ZQ]
 rw[t0,hv0]at z
 have neg:=Qh6 (-1) 0 (λl=>det n (cup m l a)*m l r) (λ_=>0) n
 rw[QbG (g:=λl=> -1*(det n (cup m l a)*m l r)+0*0) λl hl=>by rw[tl l hl];omega]at z
 have s0:sgn 0=1:=rfl
 rw[neg,s0,ZQ]at z
 rw[Zat]
 omega
theorem QtW{n:Nat}(m:Nat->Nat->Int)(u a:Nat->Int){k i:Nat}(hk:k<n)(hi:i<n)(hki:k≠i):det n m*det n (cup (cup m k u) i a)=det n (cup m k u)*det n (cup m i a)-det n (cup m i u)*det n (cup m k a):=by
 have h1:det n m*det n (cup (cup m k u) i a)=det n (cup (cup m i a) k λr=>det n m*u r):=by
  rw[Qfd hk,Qak _ _ _ hki]
 have h2:det n (cup (cup m i a) k λr=>det n m*u r)=det n (cup (cup m i a) k λr=>sm n λl=>det n (cup m l u)*m l r):=by
  refine Qah λj hj r hr=>?_
  by_cases e:j=k
  ·subst e;rw[QD,QD];exact QkL m u hr
  ·rw[Qy _ _ e,Qy _ _ e]
 rw[h1,h2,Qeo hk (λl=>det n (cup m l u)) m n]
 have tk:det n (cup (cup m i a) k (m k))=det n (cup m i a):=by rw[Qak _ _ _ (Ne.symm hki),Qal]
 have ti:det n (cup (cup m i a) k (m i))= -det n (cup m k a):=by
  rw[QdN hi hk (Ne.symm hki),Qal]
 have tn:∀l,l<n->l≠k->l≠i->det n (cup (cup m i a) k (m l))=0:=λl hl h1 h2=>QeN hk hl (Ne.symm h1) (by rw[QD,Qy _ _ h1,Qy _ _ h2])
 rcases Nat.lt_or_gt_of_ne hki with h | h
 ·rw[QkP (c:=k) (d:=i) h hi λl hl a b=>by rw[tn l hl a b,ZG],tk,ti,ZbN];omega
 ·rw[QkP (c:=i) (d:=k) h hk λl hl a b=>by rw[tn l hl b a,ZG],tk,ti,ZbN];omega
noncomputable def QB(j r:Nat):Int:=if j=r then 1 else 0
theorem Qes:∀n,det n QB=1
 | 0=>rfl
 | n+1=>by
  unfold det
  rw[Qek (c:=0) (by omega) λi _ ne=>by unfold QB;rw[if_neg ne,ZG,ZI]]
  have:(λc r=>QB (skp 0 c) (r+1))=QB:=by
   funext c r
   have e:skp 0 c=c+1:=by unfold skp;rw[if_neg (by omega)]
   rw[e]
   unfold QB
   by_cases h:c=r
   ·rw[if_pos h,if_pos (by omega)]
   ·rw[if_neg h,if_neg (by omega)]
  rw[this,Qes n]
  unfold QB sgn
  simp
theorem Qoo{n:Nat}(a:Nat->Int){i:Nat}(hi:i<n):det n (cup QB i a)=a i:=by
 have:=QkL QB a hi
 rw[Qes,ZQ,Qek (c:=i) hi λl _ ne=>by rw[show QB l i=0 by unfold QB;rw[if_neg ne],ZG]]at this
 rw[this,show QB i i=1 by unfold QB;rw[if_pos rfl],Zah]
structure Clr (n N k:Nat) (A m R:Nat->Nat->Int) (d:Int):Prop where
 le:k<=n
 det:HS.det n m=d
 nz:d≠0
 ent:∀i j,i<n->j<N->R i j=HS.det n (cup m i (A j))
 own:∀j,j<k->m j=A j
theorem Clr.start(n N:Nat)(A:Nat->Nat->Int):Clr n N 0 A QB (λi j=>A j i) 1:=⟨by omega,Qes n,by decide,λi j hi _=>(Qoo (A j) hi).symm,λj hj=>by omega⟩
theorem Clr.exact{n N k:Nat}{A m R:Nat->Nat->Int}{d:Int}(h:Clr n N k A m R d)(hk:k<n)(kN:k<N){i j:Nat}(hi:i<n)(hj:j<N)(ne:i≠k):R k k*R i j-R i k*R k j=d*HS.det n (cup (cup m k (A k)) i (A j)):=by
 rw[h.ent k k hk kN,h.ent i j hi hj,h.ent i k hi kN,h.ent k j hk hj,← QtW m (A k) (A j) hk hi (Ne.symm ne),h.det]
theorem Clr.step{n N k:Nat}{A m R R':Nat->Nat->Int}{d:Int}(h:Clr n N k A m R d)(hk:k<n)(kN:k<N)(hp:R k k≠0)(h1:∀j,j<N->R' k j=R k j)(h2:∀i j,i<n->i≠k->j<N->∀q,R k k*R i j-R i k*R k j=d*q->R' i j=q):Clr n N (k+1) A (cup m k (A k)) R' (R k k):=by
 refine⟨hk,(h.ent k k hk kN).symm,hp,λi j hi hj=>?_,λj hj=>?_⟩
 ·by_cases e:i=k
  ·subst e
   rw[h1 j hj,h.ent i j hi hj,QlF]
  ·exact h2 i j hi e hj _ (h.exact hk kN hi hj e)
 ·by_cases e:j=k
  ·subst e;rw[QD]
  ·rw[Qy _ _ e];exact h.own j (by omega)
theorem Clr.tell{n N k:Nat}{A m R:Nat->Nat->Int}{d:Int}(h:Clr n N k A m R d){j r:Nat}(hj:j<N)(hr:r<n):d*A j r=sm n λl=>R l j*m l r:=by
 have:=QkL m (A j) hr
 rw[h.det]at this
 rw[this]
 exact QbG λl hl=>by rw[h.ent l j hl hj]
noncomputable def bnd(B:Nat):Nat->Nat
 | 0=>1
 | n+1=>(n+1)*(B*bnd B n)
theorem QrW{f:Nat->Int}{C:Nat}:∀{n:Nat},(∀i,i<n->(f i).natAbs<=C)->(sm n f).natAbs<=n*C
 | 0,_=>by simp[sm]
 | n+1,h=>by
  unfold sm
  have h1:=QrW (n:=n) λi hi=>h i (by omega)
  have h2:=h n (by omega)
  have:=ZaZ (sm n f) (f n)
  rw[Nat.succ_mul]
  omega
theorem Qvl(j:Nat):(sgn j).natAbs=1:=by unfold sgn;split<;>rfl
theorem Qfi{B:Nat}:∀{n:Nat}{m:Nat->Nat->Int},(∀j,j<n->∀r,r<n->(m j r).natAbs<=B)->(det n m).natAbs<=bnd B n
 | 0,_,_=>by show(1:Int).natAbs<=1;decide
 | n+1,m,h=>by
  unfold det bnd
  refine QrW λj hj=>?_
  rw[Zao,Zao,Qvl,Nat.one_mul]
  refine Zbv (h j hj 0 (by omega)) (Qfi λc hc r hr=>h _ ?_ _ (by omega))
  unfold skp
  split<;>omega
theorem Qr4{n:Nat}(hn:n<=8):bnd (2^200) n<2^2000:=by
 have h:∀k,k<9->bnd (2^200) k<2^2000:=by decide+kernel
 exact h n (by omega)
def Qqt(n:Nat)(m:Nat->Nat->Int):Prop:=∀j,j<n->∀r,r<n->(m j r).natAbs<=2^200
def Qqn(n:Nat)(A:Nat->Nat->Int):Prop:=∀k,k<n->∀c:Nat->Int,(∀r,r<=k->sm (k+1) (λl=>c l*A l r)=0)->c k=0
structure Qho (n N k:Nat) (A m R:Nat->Nat->Int) (d:Int):Prop where
 clr:Clr n N k A m R d
 unit:∀l,k<=l->l<n->m l=QB l
 col:Qqt n m
theorem Qqt.put{n:Nat}{m:Nat->Nat->Int}(h:Qqt n m){i:Nat}{a:Nat->Int}(ha:∀r,r<n->(a r).natAbs<=2^200):Qqt n (cup m i a):=λj hj r hr=>by
 by_cases e:j=i
 ·subst e;rw[QD];exact ha r hr
 ·rw[Qy _ _ e];exact h j hj r hr
theorem Qho.start(n N:Nat)(A:Nat->Nat->Int):Qho n N 0 A QB (λi j=>A j i) 1:=⟨Clr.start n N A,λ_ _ _=>rfl,λj _ r _=>by unfold QB;split<;>decide⟩
theorem Qhx{f:Nat->Int}{k:Nat}:∀{n:Nat},k<=n->(∀i,k<=i->i<n->f i=0)->sm n f=sm k f
 | 0,h,_=>by rw[Nat.le_zero.mp h]
 | n+1,h,z=>by
  by_cases e:k=n+1
  ·rw[e]
  ·show sm n f+f n=sm k f
   rw[Qhx (n:=n) (by omega) λi h1 h2=>z i h1 (by omega),z n (by omega) (by omega),ZbH]
theorem Qho.QyX{n N k:Nat}{A m R:Nat->Nat->Int}{d:Int}(h:Qho n N k A m R d)(hk:k<n)(kN:k<N)(hl:Qqn n A):R k k≠0:=λz=>by
 refine h.clr.nz ?_
 have:=hl k hk (λl=>if l=k then-d else R l k) λr hr=>by
  have t:=h.clr.tell kN (show r<n by omega)
  rw[Qhx (k:=k) (by omega)]at t
  ·show(sm k λl=>(if l=k then-d else R l k)*A l r)+(if k=k then-d else R k k)*A k r=0
   rw[if_pos rfl,QbG (g:=λl=>R l k*m l r) λl hl=>by rw[if_neg (by omega),h.clr.own l hl],← t,Zaw]
   omega
  ·intro l h1 h2
   by_cases e:l=k
   ·rw[e,z,ZI]
   ·rw[h.unit l (by omega) h2,show QB l r=0 by unfold QB;rw[if_neg (by omega)],ZG]
 rw[if_pos rfl]at this
 omega
theorem Qho.step{n N k:Nat}{A m R R':Nat->Nat->Int}{d:Int}(h:Qho n N k A m R d)(hk:k<n)(kN:k<N)(hA:∀j,j<N->∀r,r<n->(A j r).natAbs<=2^200)(hp:R k k≠0)(h1:∀j,j<N->R' k j=R k j)(h2:∀i j,i<n->i≠k->j<N->∀q,R k k*R i j-R i k*R k j=d*q->R' i j=q):Qho n N (k+1) A (cup m k (A k)) R' (R k k):=
 ⟨h.clr.step hk kN hp h1 h2,λl h3 h4=>by rw[Qy _ _ (by omega)];exact h.unit l (by omega) h4,h.col.put (hA k kN)⟩
theorem QaU{i:Int}(h:i.natAbs<2^2000):Qbq i:=Zx (Zbk h) (by decide)
theorem Qp6{a d q:Int}(hd:d≠0)(h:a=d*q):QdD a d=q:=by
 rw[QiE,h,Int.mul_fdiv_cancel_left q hd]
theorem Qfw{fa fb:DE}{ρ:En}{ra rb:R}{a b:Int}(ha:fa ρ=some ra)(ea:ra.d= .int a)(hb:fb ρ=some rb)(eb:rb.d= .int b):dOp QaJ fa fb ρ=some ⟨.int (a-b),true,[]⟩:=by
 refine Qb4 ha hb ?_
 rw[ea,eb];rfl
theorem QgW{fa fb:DE}{ρ:En}{ra rb:R}{a b q:Int}(ha:fa ρ=some ra)(ea:ra.d= .int a)(hb:fb ρ=some rb)(eb:rb.d= .int b)(hz:b≠0)(h2:b.natAbs<2^2000)(h:a=b*q):dOp Qez fa fb ρ=some ⟨.int q,true,[]⟩:=by
 refine Qb4 ha hb ?_
 rw[ea,eb]
 show(if QbK b=true then some (D.int (QdD a b))else none)=_
 have:QbK b=true:=by
  unfold QbK
  simp only[Zh,decide_eq_true_eq]
  exact⟨hz,Zq h2 (ZF (by decide) (by decide))⟩
 rw[if_pos this,Qp6 hz h]
noncomputable def QiS:DS:=(Qe (QM (QI (QcD (Qa 0) (Qa 1)) (.tp [1,2]) [none,none,none,some 2,some 3,some 0,some 1] QR (dOp Qez (dOp QaJ (Qam (Qq (Qa 6) (Qa 3)) (Qa 1)) (Qam (Qq (Qa 5) (Qa 3)) (Qa 2))) (Qa 4)))) Qr)
def QlD(d:Den):Prop:=∀(N k:Nat) (a p q:Nat->Int) (b:Int),k<N->b≠0->b.natAbs<2^2000->(∀j,j<N->(a j).natAbs<2^2000/\(p j).natAbs<2^2000)->(∀j,j<N->p k*a j-a k*p j=b*q j)->d [Qb N a,Qb N p,.int k,.int b]=some (Qb N q,true)
theorem Qum:QlD (Qo 4 QiS):=λN k a p q b hk hb hb2 hs hq=>
 QW (Qx (r:=⟨Qb N q,true,[]⟩) (QF (toD:=λ(i:Nat)=> .tup [.int (a i),.int (p i)]) (out:=λ(i:Nat)=> .int (q i)) (List.range N) (QbP (f:=λi=> .int (a i)) (g:=λi=> .int (p i)) (ra:=⟨Qb N a,false,[]⟩) (rb:=⟨Qb N p,false,[]⟩) rfl rfl rfl rfl) rfl λi hi=>⟨[none,some (.int (a i),true),some (.int (p i),true),some (.int k,true),some (.int b,true),some (Qb N a,false),some (Qb N p,false)],rfl,⟨.int (q i),true,[]⟩,by
  have hi':=Zk.mp hi
  refine QgW (Qfw (a:=p k*a i) (b:=a k*p i) (QaC (a:=p k) (b:=a i) (Qaq (m:=N) (f:=p) (ra:=⟨Qb N p,false,[]⟩) (rb:=⟨.int k,true,[]⟩) rfl rfl rfl rfl hk) rfl (rb:=⟨.int (a i),true,[]⟩) rfl rfl (QeI (QaU (hs k hk).2) (QaU (hs i hi').1))) rfl (QaC (a:=a k) (b:=p i) (Qaq (m:=N) (f:=a) (ra:=⟨Qb N a,false,[]⟩) (rb:=⟨.int k,true,[]⟩) rfl rfl rfl rfl hk) rfl (rb:=⟨.int (p i),true,[]⟩) rfl rfl (QeI (QaU (hs k hk).1) (QaU (hs i hi').2))) rfl) rfl (rb:=⟨.int b,true,[]⟩) rfl rfl hb hb2 (hq i hi'),rfl,rfl⟩) ⟨rfl,rfl⟩)
noncomputable def Qf7(Qcj:Den)(QcW:Den):DS:=(Qe (Qs 1 (Qao (Qa 0))) (Qe (Qs 2 (dC (.int 1))) (Qe (Qbt (Qay (dBf Qav (Qc (Qa 0) Qf))) (.nm 3) (Qe (Qs 1 (Qn 2 Qcj [] (Qc (Qa 1) (Qc (Qa 3) Qf)))) (Qe (Qs 4 (Qao (Qq (Qa 1) (Qa 3)))) (Qe (sIf (QN (dOp gEq (Qq (Qa 4) (Qa 3)) (dC (.int 0)))) (Qe (QM (Qbb (Qc (Qa 1) (Qc (dC (.int 0)) Qf)))) Qr) Qr) (Qe (Qs 1 (QI (Q3 (Qa 1)) (.nm 1) [none,none,some 3,some 2,some 4] QR (Qn 4 QcW [] (Qc (Qa 1) (Qc (Qa 4) (Qc (Qa 2) (Qc (Qa 3) Qf))))))) (Qe (Qbr 1 Q7 (Qa 3) (Qa 4)) (Qe (Qs 2 (Qao (Qq (Qa 4) (Qa 3)))) Qr))))))) (Qe (QM (Qbb (Qc (Qa 1) (Qc (Qa 2) Qf)))) Qr))))
theorem QfM{n:Nat}{den:Den}{dfl:List D}{fs:DA}{ρ:En}{r:RA}{d:D}(h:fs ρ=some r)(e:den (r.ds++dfl)=some (d,false))(hn:r.ds.length+dfl.length=n):Qn n den dfl fs ρ=some (R.norm ⟨d,false,r.M⟩):=by
 unfold Qn
 rw[h,Za,if_pos hn,e]
 rfl
theorem QsS{x n N k:Nat}{g:Nat->Nat->Int}{p:Nat->Int}{fi fa:DE}{ρ:En}{Q:Out->Prop}(hx:ρ[x]? =some (some (Qd n N g,true)))(hi:fi ρ=some ⟨.int k,true,[]⟩)(ha:fa ρ=some ⟨Qb N p,false,[]⟩)(hk:k<n)
  (q:Q (.nx (ρ.set x (some (Qd n N (λi j=>if i=k then p j else g i j),false))))):Run (Qbr x Q7 fi fa) ρ Q:=by
 refine⟨_,?_,q⟩
 unfold Qbr
 rw[ha,Za,hx]
 have hn:(HS.R.mk (Qb N p) false []).norm=⟨Qb N p,false,[]⟩:=by unfold R.norm Qb;rfl
 simp only[Q7,Za,hi,Qd,QaS,Zp,Zu,hn]
 rw[QbB (show(0:Int)<=k by omega) (by omega)]
 simp only[Za,ZW]
 have e:((List.range n).map λi=>Qb N (g i)).set k (Qb N p)=(List.range n).map λi=>Qb N (λj=>if i=k then p j else g i j):=by
  refine ZaE λi=>?_
  rw[ZbL]
  by_cases h:k=i
  ·subst h
   rw[if_pos rfl,if_pos (by simpa using hk),Zl,Zy hk]
   simp
  ·rw[if_neg h,Zl,Zl]
   by_cases h2:i<n
   ·rw[Zy h2]
    simp only[Zab,if_neg (Ne.symm h)]
   ·rw[Zm (by simpa using h2)];rfl
 rw[e]
 rfl
theorem Qff(f:Nat->Int):∀n,sm n f=Qi n f
 | 0=>rfl
 | n+1=>by rw[Qag,← Qff f n];rfl
theorem Qp3{m:Nat}{f:Nat->Int}(h:∀i,i<m->0<=f i):0<=Qi m f:=by
 have:=QgY (m:=m) (f:=λ_=>0) (g:=f) h
 rw[Qb0]at this
 exact this
theorem Qpr{m k:Nat}{T:Nat->Nat->Int}(tp:TP m T){c:Nat->Int}(h0:∀l,k<l->c l=0)(h:∀r,r<m->r<=k->Qi m (λl=>c l*T l r)=0):∀l,l<m->c l<=0:=by
 obtain⟨w,w0,hw⟩:=tp.wt
 have p0:∀l,0<=(if 0<c l then c l else 0):=λl=>by split<;>omega
 have v0:∀r,r<m->0<=Qi m (λl=>(if 0<c l then c l else 0)*T l r):=λr hr=>by
  by_cases h1:0<c r
  ·have hrk:r<=k:=by
    by_cases z:k<r
    ·rw[h0 r z]at h1;omega
    ·omega
   have e:Qi m (λl=>(if 0<c l then c l else 0)*T l r)=Qi m (λl=>((if 0<c l then c l else 0)-c l)*T l r):=by
    have:=QbI m (λl=>((if 0<c l then c l else 0)-c l)*T l r) (λl=>c l*T l r)
    rw[h r hr hrk,ZbH]at this
    rw[← this]
    exact Qk λl _=>by rw[← ZaB];congr 1;omega
   rw[e]
   refine Qp3 λl hl=>?_
   by_cases e2:l=r
   ·subst e2;rw[if_pos h1,Zbt,ZI];exact Zcn _
   ·refine Zbu ?_ (tp.pos l r hl hr e2)
    split<;>omega
  ·refine Qp3 λl hl=>?_
   by_cases e2:l=r
   ·subst e2;rw[if_neg h1,ZI];exact Zcn _
   ·exact Zbu (p0 l) (tp.pos l r hl hr e2)
 have s1:0<=Qi m λr=>Qi m (λl=>(if 0<c l then c l else 0)*T l r)*w r:=by
  have:Qi m (λ_=>(0:Int))<=Qi m λr=>Qi m (λl=>(if 0<c l then c l else 0)*T l r)*w r:=QgY λr hr=>Zbu (v0 r hr) (w0 r)
  rw[Qb0]at this
  exact this
 have s2:(Qi m λr=>Qi m (λl=>(if 0<c l then c l else 0)*T l r)*w r)=Qi m λl=>(if 0<c l then c l else 0)*Qi m λr=>T l r*w r:=by
  have e1:(λr=>Qi m (λl=>(if 0<c l then c l else 0)*T l r)*w r)=λr=>Qi m λl=>(if 0<c l then c l else 0)*(T l r*w r):=by
   funext r
   rw[Zat,← Q1]
   exact Qk λl _=>by rw[Zat (w r),ZJ]
  rw[e1,Qdk]
  exact Qk λl _=>by rw[Q1]
 have s3:(Qi m λl=>(if 0<c l then c l else 0)*Qi m λr=>T l r*w r)<=Qi m λl=> -(if 0<c l then c l else 0):=QgY λl hl=>by
  have:=Int.mul_le_mul_of_nonneg_left (hw l hl) (p0 l)
  omega
 rw[Qhk]at s3
 intro l hl
 have big:(if 0<c l then c l else 0)<=Qi m λl=>(if 0<c l then c l else 0):=by
  have:=QaQ (m:=m) hl (if 0<c l then c l else 0) (λ_=>1)
  have h2:Qi m (λi=>(if i=l then(if 0<c l then c l else 0)else 0)*1)<=Qi m λl=>(if 0<c l then c l else 0):=QgY λi _=>by
   rw[Zah]
   by_cases e:i=l
   ·subst e;rw[if_pos rfl];exact Zcn _
   ·rw[if_neg e];exact p0 i
  omega
 by_cases z:0<c l
 ·rw[if_pos z]at big;omega
 ·omega
theorem Qpu{m:Nat}{T:Nat->Nat->Int}(tp:TP m T):Qqn m λl r=>0-T l r:=λk hk c h=>by
 have ext:∀r,r<=k->Qi m (λl=>(if l<=k then c l else 0)*T l r)=0:=λr hr=>by
  have e:=h r hr
  rw[← Qff,Qhx (k:=k+1) (by omega)]
  ·have n:=Qh6 (-1) 0 (λl=>c l*(0-T l r)) (λ_=>0) (k+1)
   rw[e]at n
   rw[QbG (g:=λl=> -1*(c l*(0-T l r))+0*0) λl hl=>by rw[if_pos (by omega),ZaF,ZbN];omega,n]
   omega
  ·intro l h1 h2;rw[if_neg (by omega),ZI]
 have a:=Qpr (k:=k) tp (c:=λl=>if l<=k then c l else 0) (λl hl=>by show(if l<=k then c l else 0)=0;rw[if_neg (by omega)]) (λr _ hr=>ext r hr) k hk
 have b:=Qpr (k:=k) tp (c:=λl=>if l<=k then-c l else 0) (λl hl=>by show(if l<=k then-c l else 0)=0;rw[if_neg (by omega)]) (λr _ hr=>by
  have:=ext r hr
  rw[Qk (g:=λl=> -((if l<=k then c l else 0)*T l r)) λl _=>by split<;>simp[Zaw],Qhk,this];rfl) k hk
 have a:(if k<=k then c k else 0)<=0:=a
 have b:(if k<=k then-c k else 0)<=0:=b
 rw[if_pos (Zi k)]at a b
 omega
noncomputable def Qj1:DS:=(Qe (QM (QI (Q3 (Qa 0)) (.nm 1) [none,none] QR (dOp QaJ (dC (.int 0)) (Qa 1)))) Qr)
def QmP(d:Den):Prop:=∀(n:Nat) (a:Nat->Int),d [Qb n a]=some (Qb n λi=>0-a i,true)
theorem Qyq:QmP (Qo 1 Qj1):=λn a=>QW (Qx (r:=⟨Qb n λi=>0-a i,true,[]⟩) (QF (toD:=λ(i:Nat)=> .int (a i)) (out:=λ(i:Nat)=> .int (0-a i)) (List.range n) (Q6 (r:=⟨Qb n a,false,[]⟩) rfl rfl) rfl λi _=>⟨[none,some (.int (a i),true)],rfl,⟨.int (0-a i),true,[]⟩,rfl,rfl,rfl⟩) ⟨rfl,rfl⟩)
noncomputable def Qi8(Qbl:Den)(Qcn:Den):DS:=(Qe (QM (QI (Q3 (Qn 1 Qcn [] (Qc (Qa 0) Qf))) (.nm 1) [none,none] QR (Qn 1 Qbl [] (Qc (Qa 1) Qf)))) Qr)
def QjN(d:Den):Prop:=∀(m:Nat) (R L:List (Int×Int)),m<=1000->R.length+R.length+L.length<=1000000->(∀s∈R,Good m s)->(∀s∈L,Good m s)->d [QG m R L]=some (Qd m m λi j=>0-QH m (QK R L) i j,true)
theorem QrD{dop dt:Den}(ho:QmP dop)(ht:Qn0 dt):QjN (Qo 1 (Qi8 dop dt)):=λm R L hm hl hR hL=>by
 have et:=ht m R L hm hl hR hL
 generalize QH m (QK R L)=T at *
 exact QW (Qx (r:=⟨Qd m m λi j=>0-T i j,true,[]⟩) (QF (toD:=λ(i:Nat)=>Qb m (T i)) (out:=λ(i:Nat)=>Qb m λj=>0-T i j) (List.range m) (Q6 (Qm (r:=⟨[QG m R L],false,[]⟩) rfl et rfl) rfl) rfl λi _=>⟨[none,some (Qb m (T i),false)],rfl,⟨Qb m λj=>0-T i j,true,[]⟩,Qm (r:=⟨[Qb m (T i)],false,[]⟩) rfl (ho m (T i)) rfl,rfl,rfl⟩) ⟨rfl,rfl⟩)
noncomputable def Qhb:DS:=(Qe (Qs 1 (dC (.int 0))) (Qe (Qbt (Q3 (Qa 0)) (.nm 2) (Qe (Qs 3 (Qao (Qa 2))) (Qe (QcK (QN (dOp gNe (Qa 3) (dC (.int 0)))) (Qe (Qs 4 (dOp QaV (Qa 1) (Qa 3))) (Qe (Qs 1 (Qao (Qa 3))) (Qe (Qs 3 (Qao (Qa 4))) Qr)))) Qr))) (Qe (QM (dBf QnH (Qc (Qa 1) Qf))) Qr)))
theorem Qtn{a b t:Int}:(t∣b/\t∣QaX a b)↔(t∣a/\t∣b):=by
 have e:QaX a b=a-b*QdD a b:=by
  rw[QiE,show QaX a b=a.fmod b from QgV a b,Int.fmod_def]
 rw[e]
 constructor
 ·rintro⟨h1,h2⟩
  refine⟨?_,h1⟩
  have:=ZaG h2 (Zar (c:=QdD a b) h1)
  rwa[ZaJ]at this
 ·rintro⟨h1,h2⟩
  exact⟨h2,Zbl h1 (Zar h2)⟩
theorem Qvj{a b:Int}(h:b≠0):(QaX a b).natAbs<b.natAbs:=by
 rw[show QaX a b=a.fmod b from QgV a b]
 by_cases hb:0<b
 ·have h1:=Zch a hb
  have h2:=Int.fmod_lt_of_pos a hb
  omega
 ·have hb':0< -b:=by omega
  have h1:=Zch (-a) hb'
  have h2:=Int.fmod_lt_of_pos (-a) hb'
  have h3:=Int.neg_fmod_neg a b
  omega
def QjR(d:Den):Prop:=∀(xs:List Int),∃g:Int,d [Qt xs]=some (.int g,true)/\0<=g/\∀t,t∣g↔∀x∈xs,t∣x
theorem QrM:QjR (Qo 5 Qhb):=λxs=>by
 have key:Run Qhb [some (Qt xs,false),none,none,none,none] λo=>match o with | .rt d fr=>fr=true/\∃g,d= .int g/\0<=g/\∀t,t∣g↔∀x∈xs,t∣x | _=>False:=by
  refine run_seq (Qg (r:=⟨.int 0,true,[]⟩) rfl ?_)
  rw[Ql]
  refine QE (QaI (toD:=D.int) xs (λk ρ=>∃g j2 j3 j4,(∀t,t∣g↔∀x∈xs.take k,t∣x)/\ρ=[some (Qt xs,false),some (.int g,true),j2,j3,j4]) (Q6 (r:=⟨Qt xs,false,[]⟩) rfl rfl) rfl ⟨0,none,none,none,λt=>by simp,rfl⟩ ?_ ?_)
  ·rintro k x ρ hk ⟨g,j2,j3,j4,hg,rfl⟩
   refine⟨[some (Qt xs,false),some (.int g,true),some (.int x,true),j3,j4],rfl,?_⟩
   refine run_seq (Qg (r:=⟨.int x,false,[]⟩) rfl ?_)
   rw[Qb9 rfl]
   refine QaK (P:=λρ=>∃g' j4,(∀t,t∣g'↔(t∣g/\t∣x))/\ρ=[some (Qt xs,false),some (.int g',true),some (.int x,true),some (.int 0,true),j4]) ?_ ?_
   ·refine QhQ (λn ρ=>∃g' r j4,n=r.natAbs/\(∀t,(t∣g'/\t∣r)↔(t∣g/\t∣x))/\ρ=[some (Qt xs,false),some (.int g',true),some (.int x,true),some (.int r,true),j4]) ?_ x.natAbs _ ⟨g,x,j4,rfl,λ_=>Iff.rfl,rfl⟩
    rintro n ρ ⟨g',r,j4,rfl,hd,rfl⟩
    refine⟨!decide (r=0),QO (QdF (a:=r) (b:=0) (ra:=⟨.int r,true,[]⟩) rfl rfl rfl rfl) rfl,λh=>?_,λh=>?_⟩
    ·have hr:r=0:=by simpa using h
     subst hr
     exact⟨g',j4,λt=>by rw[← hd t];simp,rfl⟩
    ·have hr:r≠0:=by simpa using h
     refine run_seq (Qg (r:=⟨.int (QaX g' r),true,[]⟩) (Qb4 (ra:=⟨.int g',true,[]⟩) (rb:=⟨.int r,true,[]⟩) rfl rfl (by show(if r≠0 then some (D.int (QaX g' r))else none)=_;rw[if_pos hr])) ?_)
     rw[Ql]
     refine run_seq (Qg (r:=⟨.int r,false,[]⟩) rfl ?_)
     rw[Qb9 rfl]
     refine run_seq (Qg (r:=⟨.int (QaX g' r),false,[]⟩) rfl (Qu ?_))
     rw[Qb9 rfl]
     exact⟨_,Qvj hr,r,QaX g' r,_,rfl,λt=>Qtn.trans (hd t),rfl⟩
   ·rintro ρ ⟨g',j4,hd,rfl⟩
    refine Qu ⟨g',_,_,_,λt=>?_,rfl⟩
    rw[hd t,hg t,List.take_succ,hk]
    simp only[ZC,Option.toList_some,Zz]
    exact⟨λ⟨a,b⟩ y hy=>hy.elim (a y) λe=>e▸b,λa=>⟨λy hy=>a y (.inl hy),a x (.inr rfl)⟩⟩
  ·rintro ρ ⟨g,j2,j3,j4,hg,rfl⟩
   rw[ZbZ]at hg
   refine Qx (r:=⟨.int (if g<0 then-g else g),true,[]⟩) rfl ⟨rfl,_,rfl,by split<;>omega,λt=>?_⟩
   rw[← hg t]
   split
   ·exact Int.dvd_neg
   ·exact Iff.rfl
 obtain⟨o,h1,h2⟩:=key
 cases o with
 | rt d fr=>
  obtain⟨rfl,g,rfl,g0,hg⟩:=h2
  exact⟨g,by show Option.bind (Qhb [some (Qt xs,false),none,none,none,none]) outD=_;rw[h1];rfl,g0,hg⟩
 | _=>exact h2.elim
noncomputable def Qgg(Qd4:Den):DS:=(Qe (Qs 1 (Qn 1 Qd4 [] (Qc (Qa 0) Qf))) (Qe (sIf (QN (dOp gEq (Qq (Qa 1) (dC (.int 1))) (dC (.int 0)))) (Qe QA Qr) Qr) (Qe (QM (Qa 1)) Qr)))
theorem QjK{fa fb:DE}{ρ:En}{ra:R}{m:Nat}{f:Nat->Int}{x:Int}(ha:fa ρ=some ra)(ea:ra.d=Qb m f)(hb:fb ρ=some ⟨.int x,true,[]⟩)(hm:m<=1000):QJ fa (Qae (Qc fb Qf)) ρ=some ⟨Qb (m+1) (up f m x),true,[]⟩:=by
 have hb:Qae (Qc fb Qf) ρ=some ⟨.lst [.int x],true,[]⟩:=(QnR (rs:=⟨[.int x],true,[]⟩) (Qj hb (QL _)) (by simp)).trans rfl
 unfold QJ
 rw[ha,Za,hb,Za,ea]
 simp only[Qb,Zp,Zu,Qf9]
 rw[if_pos (by simp;omega)]
 unfold QaO
 rw[if_pos (by rw[Qdi,Zh];exact⟨Qb3 (λ_=>rfl) _,rfl⟩)]
 congr 3
 rw[Zcl,ZaN]
 congr 1
 ·refine ZL λi hi=>?_
  rw[QdG,if_neg (by have:=Zk.mp hi;omega)]
 ·show _=[D.int (up f m x m)]
  rw[QdG,if_pos rfl]
theorem Qhm(n:Nat)(f:Nat->Int):Qb n f=Qt ((List.range n).map f):=by unfold Qb Qt;rw[Zag];rfl
theorem QwR{fa fb:DE}{ρ:En}{ra rb:R}{a b:Int}(ha:fa ρ=some ra)(ea:ra.d= .int a)(hb:fb ρ=some rb)(eb:rb.d= .int b)(h:0<b)(h2:b.natAbs<2^2000):dOp Qez fa fb ρ=some ⟨.int (a / b),true,[]⟩:=by
 refine Qb4 ha hb ?_
 rw[ea,eb]
 show(if QbK b=true then some (D.int (QdD a b))else none)=_
 have:QbK b=true:=by
  unfold QbK
  simp only[Zh,decide_eq_true_eq]
  exact⟨by omega,Zq h2 (ZF (by decide) (by decide))⟩
 rw[if_pos this,Qjp _ _ (by omega)]
theorem QrF{n N:Nat}{A:Nat->Nat->Int}(hN:n<=N)(hA:∀j,j<N->∀r,r<n->(A j r).natAbs<=2^200)(hl:Qqn n A):∀k,k<=n->∃m R d,Qho n N k A m R d
 | 0,_=>⟨_,_,_,Qho.start n N A⟩
 | k+1,hk=>by
  obtain⟨m,R,d,C⟩:=QrF hN hA hl k (by omega)
  have pv:=C.QyX (show k<n by omega) (by omega) hl
  have ex:∀i j,∃q,i<n->i≠k->j<N->R k k*R i j-R i k*R k j=d*q:=λi j=>by
   by_cases h:i<n/\i≠k/\j<N
   ·exact⟨_,λh1 h2 h3=>C.clr.exact (by omega) (by omega) h1 h3 h2⟩
   ·exact⟨0,λh1 h2 h3=>absurd ⟨h1,h2,h3⟩ h⟩
  refine⟨_,λi j=>if i=k then R k j else(ex i j).choose,_,C.step (by omega) (by omega) hA pv (λj _=>by rw[if_pos rfl]) λi j hi ne hj q hq=>?_⟩
  rw[if_neg ne]
  exact ZY C.clr.nz (((ex i j).choose_spec hi ne hj).symm.trans hq)
theorem QzE{m:Nat}{f g h:Nat->D}:Qgb ((List.range m).map f) ((List.range m).map g) ((List.range m).map h)=(List.range m).map λi=> .tup [f i,g i,h i]:=by
 unfold Qgb
 refine ZaE λi=>?_
 by_cases hi:i<m
 ·have a:∀(k:Nat->D),((List.range m).map k)[i]? =some (k i):=λk=>by rw[Zl,Zy hi];rfl
  have e1:(((List.range m).map g).zip ((List.range m).map h))[i]? =some (g i,h i):=Zax.mpr ⟨a g,a h⟩
  have e2:(((List.range m).map f).zip (((List.range m).map g).zip ((List.range m).map h)))[i]? =some (f i,(g i,h i)):=Zax.mpr ⟨a f,e1⟩
  rw[Zl,e2,a]
  rfl
 ·rw[Zm (by simp;omega),Zm (by simp;omega)]
theorem Qnl{fa fb fc:DE}{ρ:En}{ra rb rc:R}{m:Nat}{f g h:Nat->D}(ha:fa ρ=some ra)(ea:ra.d= .lst ((List.range m).map f))(hb:fb ρ=some rb)(eb:rb.d= .lst ((List.range m).map g))(hc:fc ρ=some rc)(ec:rc.d= .lst ((List.range m).map h)):QgE fa fb fc ρ=some ⟨(List.range m).map λi=> .tup [f i,g i,h i],ra.M++(rb.M++rc.M)⟩:=by
 unfold QgE
 rw[ha,Za,hb,Za,hc,Za,ea,eb,ec]
 show(if _ then _ else _)=_
 rw[if_pos (by simp),QzE]
noncomputable def Qgj:DS:=(Qe (QM (Qbb (Qc (Qq (Qa 0) (dC (.int 0))) (Qc (dList (Qc (Qq (Qa 0) (dC (.int 1))) Qf)) (Qc (dList (Qc (Qq (Qa 0) (dC (.int 2))) Qf)) Qf))))) Qr)
def QlA(d:Den):Prop:=∀(m:Int) (R L:List (Int×Int)),d [QG m R L]=some (QG m R L,true)
theorem Qs8:QlA (Qo 1 Qgj):=λm R L=>by
 refine QW (Qx (r:=⟨QG m R L,true,[]⟩) ?_ ⟨rfl,rfl⟩)
 obtain⟨h1,h2,h3⟩:=Qd7 (m:=m) (R:=R) (L:=L) (fa:=Qa 0) (ρ:=[some (QG m R L,false)]) (r:=⟨QG m R L,false,[]⟩) rfl rfl
 unfold Qbb
 refine(congrArg (λz=>Option.bind z _) (Qj h1 (Qj (QjY (A:=R) (Qj h2 (QL _)) rfl rfl) (Qj (QjY (A:=L) (Qj h3 (QL _)) rfl rfl) (QL _))))).trans ?_
 rfl
noncomputable def Qcc:DS:=(Qe (Qbt (QcD (Qa 0) (Qa 2)) (.tp [3,4]) (Qe (Qs 1 (QI (QcD (Qa 1) (Qa 3)) (.tp [1,2]) [none,none,none,some 4] QR (QJ (Qa 1) (Qam (Qa 3) (Qa 2))))) Qr)) (Qe (QM (Qa 1)) Qr))
def Qhv(d:Den):Prop:=∀(m:Nat) (T:Nat->Nat->Int) (f c:Nat->Int),0<m->m<=1000->(∀i j,i<m->j<m->(T i j).natAbs<2^64)->d [Qd m m T,Qb m f,Qb m c]=some (Qb m (QfO m T f c),true)
theorem QoK:Qhv (Qo 5 Qcc):=λm T f c m0 hm hT=>by
 have key:Run Qcc [some (Qd m m T,false),some (Qb m f,false),some (Qb m c,false),none,none] λo=>match o with | .rt d fr=>fr=true/\d=Qb m (QfO m T f c) | _=>False:=by
  refine QE (QaI (toD:=λ(i:Nat)=> .tup [Qb m (T i),.int (c i)]) (List.range m) (λk ρ=>∃b j3 j4,(0<k->b=true)/\ρ=[some (Qd m m T,false),some (Qb m (λj=>f j+Qi k λi=>c i*T i j),b),some (Qb m c,false),j3,j4]) (QbP (f:=λi=>Qb m (T i)) (g:=λi=> .int (c i)) (ra:=⟨Qd m m T,false,[]⟩) (rb:=⟨Qb m c,false,[]⟩) rfl rfl rfl rfl) rfl ⟨false,none,none,λh=>by omega,?_⟩ ?_ ?_)
  ·show [some (Qd m m T,false),some (Qb m f,false),some (Qb m c,false),none,none]=_
   rw[show(λj=>f j+Qi 0 λi=>c i*T i j)=f from by funext j;simp[Qi]]
  ·rintro k k' ρ hk ⟨b,j3,j4,_,rfl⟩
   have hk':k<m/\k=k':=by
    obtain⟨h1,h2⟩:=Zf.mp hk
    simp at h1 h2;exact⟨h1,h2⟩
   obtain⟨hkm,rfl⟩:=hk'
   refine⟨[some (Qd m m T,false),some (Qb m (λj=>f j+Qi k λi=>c i*T i j),b),some (Qb m c,false),some (Qb m (T k),false),some (.int (c k),true)],rfl,?_⟩
   refine run_seq (Qg (r:=⟨Qb m (λj=>f j+Qi (k+1) λi=>c i*T i j),true,[]⟩) (QF (toD:=λ(j:Nat)=> .tup [.int (f j+Qi k λi=>c i*T i j),.int (T k j)]) (out:=λ(j:Nat)=> .int (f j+Qi (k+1) λi=>c i*T i j)) (List.range m) (ir:=⟨(List.range m).map λj=> .tup [.int (f j+Qi k λi=>c i*T i j),.int (T k j)],if b=true then [1]else []⟩) (by cases b;exact QbP (f:=λj=> .int (f j+Qi k λi=>c i*T i j)) (g:=λj=> .int (T k j)) (ra:=⟨Qb m (λj=>f j+Qi k λi=>c i*T i j),false,[]⟩) (rb:=⟨Qb m (T k),false,[]⟩) rfl rfl rfl rfl;exact QbP (f:=λj=> .int (f j+Qi k λi=>c i*T i j)) (g:=λj=> .int (T k j)) (ra:=⟨Qb m (λj=>f j+Qi k λi=>c i*T i j),true,[1]⟩) (rb:=⟨Qb m (T k),false,[]⟩) rfl rfl rfl rfl) rfl λj hj=>⟨[none,some (.int (f j+Qi k λi=>c i*T i j),true),some (.int (T k j),true),some (.int (c k),true)],rfl,⟨.int (f j+(Qi k λi=>c i*T i j)+c k*T k j),true,[]⟩,Qaf (a:=f j+Qi k λi=>c i*T i j) (b:=c k*T k j) (ra:=⟨.int (f j+Qi k λi=>c i*T i j),true,[]⟩) rfl rfl (QaC (a:=c k) (b:=T k j) (ra:=⟨.int (c k),true,[]⟩) (rb:=⟨.int (T k j),true,[]⟩) rfl rfl rfl rfl (Qfe (hT k j hkm (Zk.mp hj)))) rfl,by rw[Qag,Int.add_assoc],rfl⟩) (Qu ?_))
   rw[Ql]
   exact⟨true,_,_,λ_=>rfl,rfl⟩
  ·rintro ρ ⟨b,j3,j4,hb,rfl⟩
   rw[Zu]at hb ⊢
   have hb:=hb m0
   subst hb
   exact Qx (r:=⟨Qb m (λj=>f j+Qi m λi=>c i*T i j),true,[1]⟩) rfl ⟨rfl,rfl⟩
 obtain⟨o,h1,h2⟩:=key
 cases o with
 | rt d fr=>
  obtain⟨rfl,rfl⟩:=h2
  show Option.bind (Qcc [some (Qd m m T,false),some (Qb m f,false),some (Qb m c,false),none,none]) outD=_
  rw[h1];rfl
 | _=>exact h2.elim
theorem Qtc{fa fb fc:DE}{ρ:En}{ra rb rc:R}{a b c:Int}(ha:fa ρ=some ra)(ea:ra.d= .int a)(hb:fb ρ=some rb)(eb:rb.d= .int b)(hc:fc ρ=some rc)(ec:rc.d= .int c)(h1:a<=b)(h2:b<c):QfQ gLe gLt fa fb fc ρ=some true:=by
 unfold QfQ
 rw[ha,Za,hb,Za,ea,eb]
 show Option.bind (some (D.bl (decide (a<=b)))) _=_
 rw[decide_eq_true h1,Za]
 dsimp only
 rw[hc,Za,ec]
 show Option.bind (some (D.bl (decide (b<c)))) _=_
 rw[decide_eq_true h2]
 rfl
theorem Qju{fa fb:DE}{ρ:En}{ra rb:R}{m n:Nat}{f:Nat->Int}(ha:fa ρ=some ra)(ea:ra.d=Qb m f)(hb:fb ρ=some rb)(eb:rb.d= .int n)(h:n<=m):Qax fa (QY fb) Qas ρ=some ⟨Qb (m-n) λi=>f (n+i),true,[]⟩:=by
 have cut:cutD ((List.range m).map λi=>D.int (f i)) (some (n:Int)) none=(List.range (m-n)).map λi=>D.int (f (n+i)):=by
  unfold cutD
  simp only[Zp,Zu,HT.Qeu,HT.Qew]
  rw[Zav h,← ZbR,← ZaW]
  have e:((List.range m).drop n).take (m-n)=(List.range (m-n)).map λi=>n+i:=by
   rw[Zaa (by simp)]
   refine ZaE λi=>?_
   rw[ZbK,Zl]
   by_cases hi:i<m-n
   ·rw[Zy (by omega),Zy hi];rfl
   ·rw[Zm (by simp;omega),Zm (by simp;omega)];rfl
  rw[e,Zag]
  rfl
 unfold Qax Qas QY
 simp only[ha,hb,Za,ea,eb,Qb,cut,QaO]
 have:QQ ((List.range (m-n)).map λi=>D.int (f (n+i)))=true:=by
  have:=Qhj ((List.range (m-n)).map λi=>f (n+i))
  rw[Zag]at this
  exact this
 rw[if_pos this]
theorem QoE(ds:List D)(M:List Nat):(QaO ds M).d= .lst ds:=by unfold QaO;split<;>rfl
theorem QnQ{fa fb:DE}{ρ:En}{ra rb:R}{xs:List D}{n:Nat}(ha:fa ρ=some ra)(ea:ra.d= .lst xs)(hb:fb ρ=some rb)(eb:rb.d= .int n)(h:n<=xs.length):∃r:HS.R,Qax fa Qas (QY fb) ρ=some r/\r.d= .lst (xs.take n):=by
 unfold Qax Qas QY
 simp only[ha,hb,Za,ea,eb]
 refine⟨_,rfl,?_⟩
 rw[QoE]
 unfold cutD
 simp only[HT.Qeu,HT.Qew,Zbq,Zbs]
 rw[Zav h]
theorem QoD{fa fb:DE}{ρ:En}{ra rb:R}{xs:List D}{n:Nat}(ha:fa ρ=some ra)(ea:ra.d= .lst xs)(hb:fb ρ=some rb)(eb:rb.d= .int n)(h:n<=xs.length):∃r:HS.R,Qax fa (QY fb) Qas ρ=some r/\r.d= .lst (xs.drop n):=by
 unfold Qax Qas QY
 simp only[ha,hb,Za,ea,eb]
 refine⟨_,rfl,?_⟩
 rw[QoE]
 unfold cutD
 simp only[HT.Qeu,HT.Qew]
 rw[Zav h,Zaa (by simp)]
theorem Qjh{fa fb:DE}{ρ:En}{ra rb:R}{xs ys:List D}(ha:fa ρ=some ra)(ea:ra.d= .lst xs)(hb:fb ρ=some rb)(eb:rb.d= .lst ys)(h:xs.length+ys.length<=1000):∃r:HS.R,QJ fa fb ρ=some r/\r.d= .lst (xs++ys):=by
 unfold QJ
 rw[ha,Za,hb,Za,ea,eb]
 refine⟨_,if_pos (Zx h (by decide)),QoE _ _⟩
theorem QuX{n k:Nat}(hk:k<n+1)(g:Nat->D):((List.range (n+1)).map g).take k++((List.range (n+1)).map g).drop (k+1)=(List.range n).map λc=>g (skp k c):=by
 refine ZaE λi=>?_
 by_cases hi:i<n
 ·rw[Zl (l:=List.range n),Zy hi,List.getElem?_append]
  have l1:(((List.range (n+1)).map g).take k).length=k:=by rw[Zad,Zp,Zu];omega
  rw[l1]
  unfold skp
  by_cases q:i<k
  ·rw[if_pos q,List.getElem?_take,if_pos q,Zl,Zy (by omega)]
   simp[q]
  ·rw[if_neg q,ZbK,Zl,show k+1+(i-k)=i+1 by omega,Zy (by omega)]
   simp[q]
 ·rw[Zm (by simp;omega),Zm (by simp;omega)]
theorem QuM{n k:Nat}(hk:k<n)(A:Nat->Nat->Int)(a:Nat->Int):((List.range n).map λi=>Qb n (A i)).take k++[Qb n a]++((List.range n).map λi=>Qb n (A i)).drop (k+1)=(List.range n).map λi=>Qb n (cup A k a i):=by
 refine ZaE λi=>?_
 have l1:(((List.range n).map λi=>Qb n (A i)).take k++[Qb n a]).length=k+1:=by rw[Zr,Zad,Zp,Zu];simp;omega
 have l2:(((List.range n).map λi=>Qb n (A i)).take k).length=k:=by rw[Zad,Zp,Zu];omega
 by_cases hi:i<n
 ·rw[Zl (l:=List.range n) (f:=λi=>Qb n (cup A k a i)),Zy hi,List.getElem?_append,l1]
  unfold cup
  by_cases q:i<k+1
  ·rw[if_pos q,List.getElem?_append,l2]
   by_cases q2:i<k
   ·rw[if_pos q2,List.getElem?_take,if_pos q2,Zl,Zy hi]
    simp[show ¬i=k by omega]
   ·have e:i=k:=by omega
    subst e
    rw[if_neg q2]
    simp
  ·rw[if_neg q,ZbK,Zl,show k+1+(i-(k+1))=i by omega,Zy hi]
   simp[show ¬i=k by omega]
 ·rw[Zm (by rw[Zr,l1];simp;omega),Zm (by simp;omega)]
noncomputable def Qcg(Qa0:Den):DS:=(Qe (sIf (QN (dOp gEq (dBf Qav (Qc (Qa 0) Qf)) (dC (.int 1)))) (Qe (QM (Qq (Qq (Qa 0) (dC (.int 0))) (dC (.int 0)))) Qr) Qr) (Qe (Qs 1 (dC (.int 0))) (Qe (Qbt (Qay (dBf Qav (Qc (Qa 0) Qf))) (.nm 2) (Qe (sIf (QN (dOp gNe (Qq (Qq (Qa 0) (Qa 2)) (dC (.int 0))) (dC (.int 0)))) (Qe (Qs 3 (Qn 1 Qa0 [] (Qc (QI (Q3 (QJ (Qax (Qa 0) Qas (QY (Qa 2))) (Qax (Qa 0) (QY (QJ (Qa 2) (dC (.int 1)))) Qas))) (.nm 1) [none,none] QR (Qax (Qa 1) (QY (dC (.int 1))) Qas)) Qf))) (Qe (Qs 1 (QJ (Qa 1) (Qam (Qam (dOp QaJ (dC (.int 1)) (Qam (dC (.int 2)) (dOp QaV (Qa 2) (dC (.int 2))))) (Qq (Qq (Qa 0) (Qa 2)) (dC (.int 0)))) (Qa 3)))) Qr)) Qr) Qr)) (Qe (QM (Qa 1)) Qr))))
def Qeg(N:Nat)(d:Den):Prop:=∀(n:Nat) (A:Nat->Nat->Int),1<=n->n<=N->n<=8->(∀j,j<n->∀r,r<n->(A j r).natAbs<=2^200)->d [Qd n n A]=some (.int (det n A),true)
theorem Qxu:Qeg 0 (λ_=>none):=λn A h1 h2=>by omega
theorem QwY(k:Nat):1-2*((k:Int) % 2)=sgn k:=by
 unfold sgn
 split<;>omega
set_option maxHeartbeats 0 in
theorem Qf1{N:Nat}{d:Den}(ih:Qeg N d):Qeg (N+1) (Qo 4 (Qcg d)):=λn A h1 hN h8 hA=>by
 have len:∀{ρ:En},ρ[0]? =some (some (Qd n n A,false))->dBf Qav (Qc (Qa 0) Qf) ρ=some ⟨.int n,true,[]⟩:=λ{ρ} h=>Qdz (n:=n) (m:=n) (f:=A) (Qbi h) rfl
 have entry:∀{ρ:En}{fk:DE}{k:Nat},ρ[0]? =some (some (Qd n n A,false))->fk ρ=some ⟨.int k,true,[]⟩->k<n->Qq (Qq (Qa 0) fk) (dC (.int 0)) ρ=some ⟨.int (A k 0),true,[]⟩:=λ{ρ fk k} h hk hkn=>Qaq (m:=n) (f:=A k) (i:=0) (Qfh (m:=n) (n:=n) (f:=A) (i:=k) (Qbi h) rfl hk rfl (by omega) (by omega)) rfl (Qdd _ _) rfl (by omega)
 refine QW ?_
 refine QE (Qab (QO (Qba (a:=n) (b:=1) (len rfl) rfl (Qdd _ _) rfl) rfl) (λh=>?_) (λh=>Qu ?_))
 ·have e:n=1:=by have:=of_decide_eq_true h;omega
  subst e
  refine QE (QbX (entry (k:=0) rfl (Qdd _ _) (by decide)) ⟨?_,rfl⟩)
  show D.int (A 0 0)= .int (sm 1 λj=>sgn j*A j 0*1)
  congr 1
  show A 0 0=0+1*A 0 0*1
  omega
 have n2:2<=n:=by have:=of_decide_eq_false h;omega
 obtain⟨p,rfl⟩:∃p,n=p+1:=⟨n-1,by omega⟩
 refine run_seq (Qg (r:=⟨.int 0,true,[]⟩) rfl ?_)
 rw[Ql]
 refine QaK (P:=λρ=>∃j2 j3,ρ=[some (Qd (p+1) (p+1) A,false),some (.int (det (p+1) A),true),j2,j3]) ?_ ?_
 ·refine QaI (toD:=λ(k:Nat)=> .int (k:Int)) (List.range (p+1)) (λi ρ=>∃j2 j3,ρ=[some (Qd (p+1) (p+1) A,false),some (.int (sm i λj=>sgn j*A j 0*det p λc r=>A (skp j c) (r+1)),true),j2,j3]) (QaL (n:=p+1) (len rfl) rfl (by omega)) rfl ⟨none,none,rfl⟩ ?_ ?_
  ·rintro k k' ρ hk ⟨j2,j3,rfl⟩
   have hk':k<p+1/\k=k':=by
    obtain⟨h1,h2⟩:=Zf.mp hk
    simp at h1 h2;exact⟨h1,h2⟩
   obtain⟨hkp,rfl⟩:=hk'
   have bm:(det p λc r=>A (skp k c) (r+1)).natAbs<2^2000:=Zap (Qfi λc hc r hr=>hA (skp k c) (by unfold skp;split<;>omega) (r+1) (by omega)) (Qr4 (by omega))
   refine⟨_,rfl,?_⟩
   refine run_seq (Qab (QO (QdF (a:=A k 0) (b:=0) (entry (k:=k) rfl rfl hkp) rfl (Qdd _ _) rfl) rfl) (λh=>?_) (λh=>?_))
   ·obtain⟨r1,q1,d1⟩:=QnQ (fa:=Qa 0) (fb:=Qa 2) (ρ:=[some (Qd (p+1) (p+1) A,false),some (.int (sm k λj=>sgn j*A j 0*det p λc r=>A (skp j c) (r+1)),true),some (.int k,true),j3]) (ra:=⟨Qd (p+1) (p+1) A,false,[]⟩) (xs:=(List.range (p+1)).map λi=>Qb (p+1) (A i)) (n:=k) rfl rfl (rb:=⟨.int k,true,[]⟩) rfl rfl (by simp;omega)
    obtain⟨r2,q2,d2⟩:=QoD (fa:=Qa 0) (fb:=QJ (Qa 2) (dC (.int 1))) (ρ:=[some (Qd (p+1) (p+1) A,false),some (.int (sm k λj=>sgn j*A j 0*det p λc r=>A (skp j c) (r+1)),true),some (.int k,true),j3]) (ra:=⟨Qd (p+1) (p+1) A,false,[]⟩) (xs:=(List.range (p+1)).map λi=>Qb (p+1) (A i)) (n:=k+1) rfl rfl (Qaf (a:=(k:Int)) (b:=1) (ra:=⟨.int k,true,[]⟩) rfl rfl (Qdd _ _) rfl) rfl (by simp;omega)
    obtain⟨r3,q3,d3⟩:=Qjh q1 d1 q2 d2 (by simp;omega)
    rw[QuX hkp]at d3
    refine run_seq (Qg (Qm (Qj (QF (toD:=λ(c:Nat)=>Qb (p+1) (A (skp k c))) (out:=λ(c:Nat)=>Qb p λr=>A (skp k c) (1+r)) (List.range p) (Q6 q3 d3) rfl λc _=>⟨[none,some (Qb (p+1) (A (skp k c)),false)],rfl,⟨Qb p λr=>A (skp k c) (1+r),true,[]⟩,Qju (m:=p+1) (n:=1) (f:=A (skp k c)) (ra:=⟨Qb (p+1) (A (skp k c)),false,[]⟩) rfl rfl (Qdd _ _) rfl (by omega),rfl,rfl⟩) (QL _)) (d:= .int (det p λc r=>A (skp k c) (r+1))) ?_ rfl) ?_)
    ·have:=ih p (λc r=>A (skp k c) (r+1)) (by omega) (by omega) (by omega) λc hc r hr=>hA (skp k c) (by unfold skp;split<;>omega) (r+1) (by omega)
     have e:(List.range p).map (λc=>Qb p λr=>A (skp k c) (1+r))=(List.range p).map λc=>Qb p λr=>A (skp k c) (r+1):=ZL λc _=>Qd0 λr _=>by rw[Nat.add_comm]
     show d [.lst ((List.range p).map λc=>Qb p λr=>A (skp k c) (1+r))]=_
     rw[e]
     exact this
    rw[Ql]
    refine run_seq (Qg (Qaf (a:=sm k λj=>sgn j*A j 0*det p λc r=>A (skp j c) (r+1)) (b:=sgn k*A k 0*det p λc r=>A (skp k c) (r+1)) rfl rfl (QaC (a:=sgn k*A k 0) (b:=det p λc r=>A (skp k c) (r+1)) (QaC (a:=sgn k) (b:=A k 0) ((Qfw (a:=1) (b:=2*((k:Int) % 2)) (ra:=⟨.int 1,true,[]⟩) rfl rfl (QaC (a:=2) (b:=(k:Int) % 2) rfl rfl (QaD (a:=(k:Int)) (b:=2) (ra:=⟨.int k,true,[]⟩) rfl rfl (Qdd _ _) rfl (by decide)) rfl (QdB (by decide))) rfl).trans (by rw[QwY])) rfl (entry (k:=k) rfl rfl hkp) rfl (QdB (by unfold sgn;split<;>decide))) rfl (rb:=⟨.int (det p λc r=>A (skp k c) (r+1)),true,[]⟩) rfl rfl (QeI (QaU ?_) (QaU bm))) rfl) (Qu (Qu ?_)))
    ·have:=hA k hkp 0 (by omega)
     have b:(2:Nat)^200<2^2000:=Nat.pow_lt_pow_right (by decide) (by decide)
     rw[Zao]
     have s:(sgn k).natAbs=1:=by unfold sgn;split<;>rfl
     rw[s,Nat.one_mul]
     omega
    rw[Ql]
    exact⟨_,_,rfl⟩
   ·have z:A k 0=0:=by simpa using h
    refine Qu (Qu ⟨some (.int k,true),j3,?_⟩)
    have e:(sm (k+1) λj=>sgn j*A j 0*det p λc r=>A (skp j c) (r+1))=sm k λj=>sgn j*A j 0*det p λc r=>A (skp j c) (r+1):=by
     show(sm k λj=>sgn j*A j 0*det p λc r=>A (skp j c) (r+1))+sgn k*A k 0*(det p λc r=>A (skp k c) (r+1))=_
     rw[z,ZG,ZI,ZbH]
    rw[e]
    rfl
  ·rintro ρ ⟨j2,j3,rfl⟩
   rw[Zu]
   exact⟨_,_,rfl⟩
 rintro ρ ⟨j2,j3,rfl⟩
 exact Qx (r:=⟨.int (det (p+1) A),true,[]⟩) rfl ⟨rfl,rfl⟩
noncomputable def QcI(Qa0:Den):DS:=(Qe (Qs 2 (Qn 1 Qa0 [] (Qc (Qa 0) Qf))) (Qe (Qbt (Qay (dBf Qav (Qc (Qa 0) Qf))) (.nm 3) (Qe (sIf (QN (dOp gNe (dOp QaV (Qn 1 Qa0 [] (Qc (QJ (QJ (Qax (Qa 0) Qas (QY (Qa 3))) (Qae (Qc (Qa 1) Qf))) (Qax (Qa 0) (QY (QJ (Qa 3) (dC (.int 1)))) Qas)) Qf)) (Qa 2)) (dC (.int 0)))) (Qe (QM (dC (.bl false))) Qr) Qr) Qr)) (Qe (QM (dC (.bl true))) Qr)))
theorem QtE{n:Nat}{A:Nat->Nat->Int}{g v:Nat->Int}{l:Nat}(hl:l<n)(h:∀r,r<n->g r=sm n λi=>v i*A i r):det n (cup A l g)=v l*det n A:=by
 have e:det n (cup A l g)=det n (cup A l λr=>sm n λi=>v i*A i r):=by
  refine Qah λj hj r hr=>?_
  by_cases q:j=l
  ·subst q;rw[QD,QD];exact h r hr
  ·rw[Qy _ _ q,Qy _ _ q]
 rw[e,Qeo hl v A n,Qek (c:=l) hl λi hi ne=>by rw[QeN hl hi (Ne.symm ne) (by rw[QD,Qy _ _ ne]),ZG],Qal]
theorem Qpx{n:Nat}{A:Nat->Nat->Int}(hA:∀j,j<n->∀r,r<n->(A j r).natAbs<=2^200)(hl:Qqn n A):det n A≠0:=by
 obtain⟨m,R,d,C⟩:=QrF (Zi n) hA hl n (Zi n)
 have e2:det n A=d:=by
  rw[← C.clr.det]
  exact Qah λj hj r _=>by rw[C.clr.own j hj]
 rw[e2]
 exact C.clr.nz
theorem Qc7.small{m:Nat}{R L:List (Int×Int)}(hw:Qc7 m R L){i j:Nat}(hi:i<m)(hj:j<m):(QH m (QK R L) i j).natAbs<=600:=by
 have g:=hw.good
 have gs:=Qe8 g.1 g.2.1
 rw[Qem hi hj λs hs=>⟨(gs s hs).1,(gs s hs).2.1⟩]
 refine Zx (Qgs i j _) ?_
 unfold QK
 rw[Zr,Zr,Zp]
 omega
noncomputable def QaF(T:Nat->Nat->Int):Nat->Nat->Int:=λi j=>0-T i j
theorem Qc7.big{m:Nat}{R L:List (Int×Int)}(hw:Qc7 m R L):∀j,j<m->∀r,r<m->(QaF (QH m (QK R L)) j r).natAbs<=2^200:=λj hj r hr=>by
 have:=hw.small hj hr
 have:(600:Nat)<=2^200:=by decide
 unfold QaF
 omega
theorem QuQ{ρ:En}{fi:DI}{m:Nat}{T:Nat->Nat->Int}{ir:IR}(h:fi ρ=some ir)(hx:ir.items=(List.range m).map λi=>Qb m (T i)):QI fi (.nm 1) [none,none] QR (QI (Q3 (Qa 1)) (.nm 1) [none,none] QR (dOp QaJ (dC (.int 0)) (Qa 1))) ρ=some ⟨Qd m m (QaF T),true,[]⟩:=
 QF (toD:=λ(i:Nat)=>Qb m (T i)) (out:=λ(i:Nat)=>Qb m (QaF T i)) (List.range m) h hx λi _=>⟨[none,some (Qb m (T i),false)],rfl,⟨Qb m (QaF T i),true,[]⟩,QF (toD:=λ(j:Nat)=> .int (T i j)) (out:=λ(j:Nat)=> .int (QaF T i j)) (List.range m) (Q6 (r:=⟨Qb m (T i),false,[]⟩) rfl rfl) rfl λj _=>⟨[none,some (.int (T i j),true)],rfl,⟨.int (QaF T i j),true,[]⟩,rfl,rfl,rfl⟩,rfl,rfl⟩
noncomputable def Qkx:DS:=(Qe (QM (QI (Qay (Qa 0)) (.nm 1) [none,none,some 1] QR (dIf (QN (dOp gEq (Qa 1) (Qa 2))) (dC (.int 1)) (dC (.int 0))))) Qr)
def QkE(d:Den):Prop:=∀(n p:Nat),n<=1000->d [.int n,.int p]=some (Qb n λi=>if i=p then 1 else 0,true)
theorem QvG:QkE (Qo 2 Qkx):=λn p hn=>by
 refine QW (Qx (r:=⟨Qb n λi=>if i=p then 1 else 0,true,[]⟩) (QF (toD:=λ(i:Nat)=> .int (i:Int)) (out:=λ(i:Nat)=> .int (if i=p then 1 else 0)) (List.range n) (QaL (n:=n) (r:=⟨.int n,true,[]⟩) rfl rfl (by omega)) rfl λi _=>⟨[none,some (.int i,true),some (.int p,true)],rfl,⟨.int (if i=p then 1 else 0),true,[]⟩,?_,rfl,rfl⟩) ⟨rfl,rfl⟩)
 unfold dIf
 rw[QO (Qba (a:=(i:Int)) (b:=(p:Int)) (ra:=⟨.int i,true,[]⟩) (rb:=⟨.int p,true,[]⟩) rfl rfl rfl rfl) rfl,Za]
 by_cases z:i=p
 ·rw[if_pos z,if_pos (by rw[z];simp)];rfl
 ·rw[if_neg z,if_neg (by simp;omega)];rfl
structure Alt (n:Nat) (φ:(Nat->Nat->Int)->Int):Prop where
 congr:∀{m k:Nat->Nat->Int},(∀j,j<n->∀r,r<n->m j r=k j r)->φ m=φ k
 lin:∀(m:Nat->Nat->Int) (c:Nat),c<n->∀(x y:Int) (a b:Nat->Int),φ (cup m c λr=>x*a r+y*b r)=x*φ (cup m c a)+y*φ (cup m c b)
 alt:∀{m:Nat->Nat->Int}{i j:Nat},i<n->j<n->i≠j->m i=m j->φ m=0
section
variable {n:Nat}{φ:(Nat->Nat->Int)->Int}{m:Nat->Nat->Int}
theorem Alt.add(h:Alt n φ){c:Nat}(hc:c<n)(a b:Nat->Int):φ (cup m c λr=>a r+b r)=φ (cup m c a)+φ (cup m c b):=by
 have:=h.lin m c hc 1 1 a b
 simpa only[ZQ]using this
theorem Alt.mul(h:Alt n φ){c:Nat}(hc:c<n)(x:Int)(a:Nat->Int):φ (cup m c λr=>x*a r)=x*φ (cup m c a):=by
 have:=h.lin m c hc x 0 a a
 simpa only[ZI,ZbH]using this
theorem Alt.swap(h:Alt n φ){c d:Nat}(hc:c<n)(hd:d<n)(hcd:c≠d)(a b:Nat->Int):φ (cup (cup m c a) d b)= -φ (cup (cup m c b) d a):=by
 have z:=h.alt (m:=cup (cup m c λr=>a r+b r) d λr=>a r+b r) hc hd hcd (by rw[QD,Qy _ _ hcd,QD])
 have za:=h.alt (m:=cup (cup m c a) d a) hc hd hcd (by rw[QD,Qy _ _ hcd,QD])
 have zb:=h.alt (m:=cup (cup m c b) d b) hc hd hcd (by rw[QD,Qy _ _ hcd,QD])
 rw[h.add hd,Qak _ _ _ hcd,h.add hc,Qak _ _ _ hcd,h.add hc,Qak _ _ _ (Ne.symm hcd),Qak _ _ _ (Ne.symm hcd),Qak _ _ _ (Ne.symm hcd),Qak _ _ _ (Ne.symm hcd),za,zb]at z
 omega
theorem Alt.sum(h:Alt n φ){c:Nat}(hc:c<n)(x:Nat->Int)(E:Nat->Nat->Int):∀k,φ (cup m c λr=>sm k λs=>x s*E s r)=sm k λs=>x s*φ (cup m c (E s))
 | 0=>by
  have:=h.mul (m:=m) hc 0 λ_=>0
  rw[ZI]at this
  unfold sm
  simpa using this
 | k+1=>by
  unfold sm
  rw[h.add hc,h.sum hc x E k,h.mul hc]
theorem QpR(n:Nat):Alt n (det n):=⟨Qah,λm c hc x y a b=>QgX x y a b n m c hc a b,λhi hj hij e=>QeN hi hj hij e⟩
theorem Qjq(h:Alt n φ):∀(g t:Nat) (σ:Nat->Nat),t+g=n->(∀j,j<t->σ j=j)->(∀j,j<n->σ j<n)->φ (λj=>QB (σ j))=det n (λj=>QB (σ j))*φ QB
 | 0,t,σ,e,hp,hn=>by
  have h1:∀j,j<n->∀r,r<n->QB (σ j) r=QB j r:=λj hj r _=>by rw[hp j (by omega)]
  rw[h.congr h1,Qah h1,Qes,ZQ]
 | g+1,t,σ,e,hp,hn=>by
  by_cases ht:σ t=t
  ·exact Qjq h g (t+1) σ (by omega) (λj hj=>by
    by_cases z:j=t
    ·rw[z];exact ht
    ·exact hp j (by omega)) hn
  ·by_cases ex:∃i,i<n/\σ i=t
   ·obtain⟨i,hi,hs⟩:=ex
    have hti:t<i:=by
     rcases Nat.lt_trichotomy i t with z | z | z
     ·have:=hp i z;omega
     ·subst z;exact absurd hs ht
     ·exact z
    have hne:t≠i:=by omega
    have sw:∀{ψ:(Nat->Nat->Int)->Int},Alt n ψ->ψ (λj=>QB (σ j))= -ψ (λj=>QB (if j=t then σ i else if j=i then σ t else σ j)):=λ{ψ} hψ=>by
     have:=hψ.swap (m:=λj=>QB (σ j)) (c:=t) (d:=i) (by omega) hi hne (QB (σ t)) (QB (σ i))
     have e1:cup (cup (λj=>QB (σ j)) t (QB (σ t))) i (QB (σ i))=λj=>QB (σ j):=by
      rw[Qal (λj=>QB (σ j)) t,Qal (λj=>QB (σ j)) i]
     have e2:cup (cup (λj=>QB (σ j)) t (QB (σ i))) i (QB (σ t))=λj=>QB (if j=t then σ i else if j=i then σ t else σ j):=by
      funext j
      by_cases z1:j=i
      ·subst z1;rw[QD,if_neg (Ne.symm hne),if_pos rfl]
      ·rw[Qy _ _ z1]
       by_cases z2:j=t
       ·subst z2;rw[QD,if_pos rfl]
       ·rw[Qy _ _ z2,if_neg z2,if_neg z1]
     rw[e1,e2]at this
     exact this
    rw[sw h,sw (QpR n),Zaw]
    congr 1
    refine Qjq h g (t+1) _ (by omega) (λj hj=>?_) (λj hj=>?_)
    ·by_cases z:j=t
     ·rw[if_pos z,hs,z]
     ·rw[if_neg z,if_neg (by omega)];exact hp j (by omega)
    ·split
     ·exact hn i hi
     ·split
      ·exact hn t (by omega)
      ·exact hn j hj
   ·obtain⟨k,hk⟩:∃k,n=k+1:=⟨n-1,by omega⟩
    obtain⟨i,j,hi,hj,hij,he⟩:=Qm6 (n:=k) (λj=>if σ j<t then σ j else σ j-1) λj hj=>by
     have h1:=hn j (by omega)
     have h2:σ j≠t:=λz=>ex ⟨j,by omega,z⟩
     split<;>omega
    have hs:σ i=σ j:=by
     have h1:σ i≠t:=λz=>ex ⟨i,by omega,z⟩
     have h2:σ j≠t:=λz=>ex ⟨j,by omega,z⟩
     split at he<;>split at he<;>omega
    have e1:(λj=>QB (σ j)) i=(λj=>QB (σ j)) j:=by show QB (σ i)=QB (σ j);rw[hs]
    rw[h.alt (by omega) (by omega) hij e1,(QpR n).alt (by omega) (by omega) hij e1,ZI]
theorem Qj5(h:Alt n φ)(m:Nat->Nat->Int):φ m=det n m*φ QB:=by
 have key:∀k,k<=n->∀m:Nat->Nat->Int,(∃σ:Nat->Nat,∀j,k<=j->j<n->σ j<n/\m j=QB (σ j))->φ m=det n m*φ QB:=by
  intro k
  induction k with
  | zero=>
   rintro _ m ⟨σ,hσ⟩
   have h1:∀j,j<n->∀r,r<n->m j r=(λj=>QB (σ j)) j r:=λj hj r _=>by rw[(hσ j (by omega) hj).2]
   rw[h.congr h1,Qah h1]
   exact Qjq h n 0 σ (by omega) (λj hj=>by omega) λj hj=>(hσ j (by omega) hj).1
  | succ k ih=>
   rintro hk m ⟨σ,hσ⟩
   have hcol:∀j,j<n->∀r,r<n->m j r=cup m k (λr=>sm n λs=>m k s*QB s r) j r:=λj hj r hr=>by
    by_cases z:j=k
    ·subst z
     rw[QD,Qek (c:=r) hr λi _ ne=>by rw[show QB i r=0 by unfold QB;rw[if_neg ne],ZG],show QB r r=1 by unfold QB;rw[if_pos rfl],Zah]
    ·rw[Qy _ _ z]
   rw[h.congr hcol,Qah hcol,h.sum (by omega),Qeo (by omega),← QpY]
   refine QbG λs hs=>?_
   rw[ZJ]
   congr 1
   refine ih (by omega) _ ⟨λj=>if j=k then s else σ j,λj h1 h2=>?_⟩
   show(if j=k then s else σ j)<n/\cup m k (QB s) j=QB (if j=k then s else σ j)
   by_cases z:j=k
   ·subst z;rw[if_pos rfl,QD];exact⟨hs,rfl⟩
   ·rw[if_neg z,Qy _ _ z];exact hσ j (by omega) h2
 exact key n (Zi n) m ⟨id,λj h1 h2=>by omega⟩
end
noncomputable def rup(m:Nat->Nat->Int)(c:Nat)(a:Nat->Int):Nat->Nat->Int:=λj r=>if r=c then a j else m j r
theorem QpO(x y:Int):∀(n:Nat) (m:Nat->Nat->Int) (c:Nat),c<n->∀(a b:Nat->Int),det n (rup m c λj=>x*a j+y*b j)=x*det n (rup m c a)+y*det n (rup m c b)
 | 0,_,_,h,_,_=>by omega
 | n+1,m,c,h,a,b=>by
  unfold det
  rw[← Qh6]
  refine QbG λj hj=>?_
  cases c with
  | zero=>
   have e:∀a:Nat->Int,(λc' r=>rup m 0 a (skp j c') (r+1))=λc' r=>m (skp j c') (r+1):=λa=>by
    funext c' r
    unfold rup
    rw[if_neg (by omega)]
   rw[e,e,e]
   unfold rup
   simp only[if_pos]
   generalize det n _=q
   generalize sgn j=s
   simp only[ZaA,ZaB,ZJ,ZK]
  | succ c=>
   have e:∀a:Nat->Int,(λc' r=>rup m (c+1) a (skp j c') (r+1))=rup (λc' r=>m (skp j c') (r+1)) c λc'=>a (skp j c'):=λa=>by
    funext c' r
    unfold rup
    by_cases z:r=c
    ·rw[if_pos (by omega),if_pos z]
    ·rw[if_neg (by omega),if_neg z]
   rw[e,e,e,QpO x y n _ c (by omega) (λc'=>a (skp j c')) λc'=>b (skp j c')]
   have e0:∀a:Nat->Int,rup m (c+1) a j 0=m j 0:=λa=>by unfold rup;rw[if_neg (by omega)]
   rw[e0,e0,e0]
   generalize det n _=q
   generalize det n _=q'
   generalize sgn j*m j 0=s
   simp only[ZaA,ZK]
noncomputable def trp(a b r:Nat):Nat:=if r=a then b else if r=b then a else r
theorem QuU{n:Nat}(m:Nat->Nat->Int){a b:Nat}(ha:a<n)(hb:b<n)(hab:a≠b):det n (λj r=>m j (trp a b r))= -det n m:=by
 have tb:∀r,r<n->trp a b r<n:=λr hr=>by
  unfold trp
  split
  ·exact hb
  ·split
   ·exact ha
   ·exact hr
 have h:Alt n λm=>det n λj r=>m j (trp a b r):=by
  have hcup:∀(m:Nat->Nat->Int) (c:Nat) (v:Nat->Int),(λj r=>cup m c v j (trp a b r))=cup (λj r=>m j (trp a b r)) c λr=>v (trp a b r):=λm c v=>by
   funext j r
   by_cases z:j=c
   ·subst z;rw[QD,QD]
   ·rw[Qy _ _ z,Qy _ _ z]
  refine⟨λhm=>Qah λj hj r hr=>hm j hj _ (tb r hr),λm c hc x y v w=>?_,λ{m i j} hi hj hij e=>QeN hi hj hij (by funext r;rw[e])⟩
  rw[hcup,hcup,hcup,← QgX x y (λr=>v (trp a b r)) (λr=>w (trp a b r)) n _ c hc]
 have e:=Qj5 h m
 rw[e]
 have u:det n (λj r=>QB j (trp a b r))= -1:=by
  have e1:=QdN (m:=QB) ha hb hab (QB b) (QB a)
  rw[show cup (cup QB a (QB a)) b (QB b)=QB by rw[Qal,Qal],Qes]at e1
  rw[← e1]
  refine Qah λj hj r hr=>?_
  by_cases z1:j=b
  ·subst z1
   rw[QD]
   unfold QB trp
   by_cases q1:r=a
   ·rw[if_pos q1,if_pos rfl,if_pos q1.symm]
   ·rw[if_neg q1]
    by_cases q2:r=j
    ·rw[if_pos q2,if_neg (Ne.symm hab),if_neg (by omega)]
    ·rw[if_neg q2,if_neg (λz=>q2 z.symm),if_neg (λz=>q1 z.symm)]
  ·rw[Qy _ _ z1]
   by_cases z2:j=a
   ·subst z2
    rw[QD]
    unfold QB trp
    by_cases q1:r=j
    ·rw[if_pos q1,if_neg hab,if_neg (by omega)]
    ·rw[if_neg q1]
     by_cases q2:r=b
     ·rw[if_pos q2,if_pos rfl,if_pos q2.symm]
     ·rw[if_neg q2,if_neg (λz=>q1 z.symm),if_neg (λz=>q2 z.symm)]
   ·rw[Qy _ _ z2]
    unfold QB trp
    by_cases q1:r=a
    ·rw[if_pos q1,if_neg z1,if_neg (by omega)]
    ·rw[if_neg q1]
     by_cases q2:r=b
     ·rw[if_pos q2,if_neg z2,if_neg (by omega)]
     ·rw[if_neg q2]
 rw[u];omega
theorem Qxq{n:Nat}{m:Nat->Nat->Int}{a b:Nat}(ha:a<n)(hb:b<n)(hab:a≠b)(e:∀j,j<n->m j a=m j b):det n m=0:=by
 have h:=QuU m ha hb hab
 have:det n (λj r=>m j (trp a b r))=det n m:=Qah λj hj r hr=>by
  unfold trp
  split
  ·rename_i z;rw[z];exact(e j hj).symm
  ·split
   ·rename_i z;rw[z];exact e j hj
   ·rfl
 omega
theorem Qtv(n:Nat)(m:Nat->Nat->Int):det n (λj r=>m r j)=det n m:=by
 have h:Alt n λm=>det n λj r=>m r j:=by
  have hcup:∀(m:Nat->Nat->Int) (c:Nat) (v:Nat->Int),(λj r=>cup m c v r j)=rup (λj r=>m r j) c v:=λm c v=>by
   funext j r
   unfold rup
   by_cases z:r=c
   ·subst z;rw[QD,if_pos rfl]
   ·rw[Qy _ _ z,if_neg z]
  refine⟨λhm=>Qah λj hj r hr=>hm r hr j hj,λm c hc x y v w=>?_,λ{m i j} hi hj hij e=>Qxq hi hj hij λk _=>by rw[e]⟩
  rw[hcup,hcup,hcup,QpO x y n _ c hc v w]
 have e:=Qj5 h m
 rw[e,Qah (m:=λj r=>QB r j) (k:=QB) λj _ r _=>by
  unfold QB
  by_cases z:r=j
  ·rw[if_pos z,if_pos z.symm]
  ·rw[if_neg z,if_neg (Ne.symm z)],Qes,Zah]
end HS
namespace HS
open PySem L2
theorem QyS{g1 g2:DT}{ρ:En}(h:g1 ρ=some true):bOr g1 g2 ρ=some true:=by unfold bOr;rw[h];rfl
noncomputable def Qc9(f:Nat->Nat->Int)(k:Nat)(p:Nat->Int)(i:Nat)(q:Nat->Int):Nat->Nat->Int:=λl j=>if l=i then q j else if l=k then p j else f l j
theorem QeC{n N k:Nat}{g:Nat->Nat->Int}{p:Nat->Int}(hk:k<n):((List.range n).map λi=>Qb N (g i)).set k (Qb N p)=(List.range n).map λi=>Qb N (λj=>if i=k then p j else g i j):=by
 refine ZaE λi=>?_
 rw[ZbL]
 by_cases h:k=i
 ·subst h
  rw[if_pos rfl,if_pos (by simpa using hk),Zl,Zy hk]
  simp
 ·rw[if_neg h,Zl,Zl]
  by_cases h2:i<n
  ·rw[Zy h2]
   simp only[Zab,if_neg (Ne.symm h)]
  ·rw[Zm (by simpa using h2)];rfl
theorem QwN{x n N k i:Nat}{f:Nat->Nat->Int}{p q:Nat->Int}{fy f1 g1 f2 g2:DE}{ρ:En}{by' b1 b2:Bool}{Q:Out->Prop}(hx:x<ρ.length)(ey:fy (ρ.set x none)=some ⟨Qd n N f,by',[]⟩)(e1:f1 (ρ.set x none)=some ⟨.int k,true,[]⟩)(e2:g1 (ρ.set x none)=some ⟨Qb N p,b1,[]⟩)(e3:f2 (ρ.set x none)=some ⟨.int i,true,[]⟩)(e4:g2 (ρ.set x none)=some ⟨Qb N q,b2,[]⟩)(hk:k<n)(hi:i<n)
  (h:Q (.nx ((ρ.set x none).set x (some (Qd n N (Qc9 f k p i q),false))))):Run (Qjn x fy f1 g1 f2 g2) ρ Q:=by
 refine⟨_,?_,h⟩
 unfold Qjn QqC
 rw[if_pos (by simpa using hx),ey,Za]
 simp only[Qd,e1,e2,e3,e4,Za,Zp,Zu]
 rw[QbB (show(0:Int)<=k by omega) (by omega),QbB (show(0:Int)<=i by omega) (by omega)]
 simp only[Za,ZW,QeC hk]
 rw[QeC (g:=λl j=>if l=k then p j else f l j) hi]
 rfl
noncomputable def QgN(Qbl:Den):DS:=(Qe (Qs 2 (QI (Qeq (Qa 1) (dBf Qav (Qc (Qa 0) Qf))) (.nm 1) [none,none,some 1,some 0] (QN (dOp gNe (Qq (Qq (Qa 3) (Qa 1)) (Qa 2)) (dC (.int 0)))) (Qa 1))) (Qe (sIf (bOr (Qcy (QN (Qa 2))) (QN (dOp gEq (Qq (Qa 2) (dC (.int 0))) (Qa 1)))) (Qe (QM (Qa 0)) Qr) Qr) (Qe (Qjn 3 (Qa 0) (Qa 1) (Qq (Qa 0) (Qq (Qa 2) (dC (.int 0)))) (Qq (Qa 2) (dC (.int 0))) (Qn 1 Qbl [] (Qc (Qq (Qa 0) (Qa 1)) Qf))) (Qe (QM (Qa 3)) Qr))))
def Qjg(d:Den):Prop:=∀(n N k:Nat) (f:Nat->Nat->Int),k<n->n<=1000->k<N->∃g,d [Qd n N f,.int k]=some (Qd n N g,false)∧
 ((g=f/\(f k k=0->∀i,k<=i->i<n->f i k=0))∨∃i,k<i/\i<n/\f i k≠0/\g=Qc9 f k (f i) i λj=>0-f k j)
theorem Qsw{dop:Den}(ho:QmP dop):Qjg (Qo 4 (QgN dop)):=λn N k f hk hn kN=>by
 have eI:=QdX (fi:=Qeq (Qa 1) (dBf Qav (Qc (Qa 0) Qf))) (t:= .nm 1) (cap:=[none,none,some 1,some 0]) (ft:=QN (dOp gNe (Qq (Qq (Qa 3) (Qa 1)) (Qa 2)) (dC (.int 0)))) (fe:=Qa 1) (ρ:=[some (Qd n N f,false),some (.int k,true),none,none])
  (toD:=λ(i:Nat)=> .int ((k:Int)+i)) (keep:=λi=> !decide (f (k+i) k=0)) (out:=λ(i:Nat)=> .int ((k:Int)+i)) (List.range (n-k)) (Ql6 (i:=k) (j:=n) (n:=n-k) (ra:=⟨.int k,true,[]⟩) rfl rfl (Qdz (n:=n) (m:=N) (f:=f) (r:=⟨Qd n N f,false,[]⟩) rfl rfl) rfl (by omega) (by omega) (by omega) (by omega)) rfl λi hi=>⟨[none,some (.int ((k:Int)+i),true),some (.int k,true),some (Qd n N f,false)],rfl,by
   have hi':=Zk.mp hi
   refine QO (QdF (a:=f (k+i) k) (b:=0) (Qaq (m:=N) (f:=f (k+i)) (i:=k) ((Qfh (m:=n) (n:=N) (f:=f) (i:=(k:Int)+i) (ra:=⟨Qd n N f,false,[]⟩) (rb:=⟨.int ((k:Int)+i),true,[]⟩) rfl rfl rfl rfl (by omega) (by omega)).trans (by rw[show((k:Int)+i).toNat=k+i by omega])) rfl (rb:=⟨.int k,true,[]⟩) rfl rfl kN) rfl rfl rfl) rfl,λ_=>⟨⟨.int ((k:Int)+i),true,[]⟩,rfl,rfl,rfl⟩⟩
 have hmem:∀i,i∈(List.range (n-k)).filter (λi=> !decide (f (k+i) k=0))↔i<n-k/\f (k+i) k≠0:=λi=>by simp
 have hfst:∀i,f (k+i) k≠0->i<n-k->∀a l,(List.range (n-k)).filter (λi=> !decide (f (k+i) k=0))=a::l->f k k≠0->a=0:=λi _ hi a l e h0=>by
  have hr:List.range (n-k)=0::(List.range (n-k-1)).map (· +1):=by
   rw[show n-k=(n-k-1)+1 by omega,Zbr];rfl
  rw[hr,List.filter_cons,if_pos (by show(!decide (f (k+0) k=0))=true;rw[Nat.add_zero,decide_eq_false h0];rfl)]at e
  exact(List.cons.inj e).1.symm
 generalize (List.range (n-k)).filter (λi=> !decide (f (k+i) k=0))=xs at eI hmem hfst
 cases xs with
 | nil=>
  refine⟨f,?_,.inl ⟨rfl,λ_ i h1 h2=>?_⟩⟩
  ·refine QW ?_
   refine run_seq (Qg eI ?_)
   rw[Ql]
   refine QE (Qab (b:=true) ((QyS (QbF (b:=false) (show QN (Qa 2) _=some false from rfl)))) (λ_=>?_) (λh=>by cases h))
   exact QE (QbX (r:=⟨Qd n N f,false,[]⟩) rfl ⟨rfl,rfl⟩)
  ·by_cases z:f i k=0
   ·exact z
   ·have:=(hmem (i-k)).mpr ⟨by omega,by rw[show k+(i-k)=i by omega];exact z⟩
    simp at this
 | cons a l=>
  obtain⟨ha,hz⟩:=(hmem a).mp Zo
  have eidx:∀ρ:En,ρ[2]? =some (some (.lst ((a::l).map λ(i:Nat)=>D.int ((k:Int)+i)),true))->Qq (Qa 2) (dC (.int 0)) ρ=some ⟨.int ((k:Int)+a),true,[]⟩:=λρ hρ=>by
   unfold Qq
   rw[show Qa 2 ρ=some ⟨.lst ((a::l).map λ(i:Nat)=>D.int ((k:Int)+i)),true,[2]⟩ by unfold Qa;rw[hρ];rfl,Za,show dC (.int 0) ρ=some ⟨.int 0,true,[]⟩from rfl,Za]
   dsimp only
   simp only[D.items,ZM,Za]
   rw[Qio (show(0:Int)<=0 by decide) (by simp)]
   rfl
  by_cases h0:a=0
  ·subst h0
   refine⟨f,?_,.inl ⟨rfl,λz=>absurd z (by simpa using hz)⟩⟩
   refine QW ?_
   refine run_seq (Qg eI ?_)
   rw[Ql]
   refine QE (Qab (b:=true) ((Qdf (a:=false) (b:=true) (QbF (b:=true) (show QN (Qa 2) _=some true from rfl)) (QO (b:=true) (Qba (a:=k) (b:=k) (ra:=⟨.int k,true,[]⟩) ?_ rfl (rb:=⟨.int k,true,[]⟩) rfl rfl) (by simp))).trans rfl) (λ_=>?_) (λh=>by cases h))
   ·rw[eidx _ rfl]
    show some (HS.R.mk (.int ((k:Int)+(0:Nat))) true [])=_
    rw[show(k:Int)+(0:Nat)=k by omega]
   ·exact QE (QbX (r:=⟨Qd n N f,false,[]⟩) rfl ⟨rfl,rfl⟩)
  ·have hkk:f k k=0:=by
    by_cases z:f k k=0
    ·exact z
    ·exact absurd (hfst a hz ha a l rfl z) h0
   refine⟨_,?_,.inr ⟨k+a,by omega,by omega,hz,rfl⟩⟩
   refine QW ?_
   refine run_seq (Qg eI ?_)
   rw[Ql]
   refine QE (Qab (b:=false) ((Qdf (a:=false) (b:=false) (QbF (b:=true) (show QN (Qa 2) _=some true from rfl)) (QO (b:=false) (Qba (a:=(k:Int)+a) (b:=k) (eidx _ rfl) rfl (rb:=⟨.int k,true,[]⟩) rfl rfl) ?_)).trans rfl) (λh=>by cases h) (λ_=>Qu ?_))
   ·show D.bl _=_
    rw[decide_eq_false (by omega)]
   refine run_seq (QwN (n:=n) (N:=N) (k:=k) (i:=k+a) (f:=f) (p:=f (k+a)) (q:=λj=>0-f k j) (by':=false) (b1:=false) (b2:=true) (show 3<4 by decide) rfl rfl ?_ ?_ ?_ hk (by omega) ?_)
   ·exact(Qfh (m:=n) (n:=N) (f:=f) (i:=(k:Int)+a) (ra:=⟨Qd n N f,false,[]⟩) rfl rfl (eidx _ rfl) rfl (by omega) (by omega)).trans (by rw[show((k:Int)+a).toNat=k+a by omega])
   ·exact(eidx _ rfl).trans (by rw[show((k+a:Nat):Int)=(k:Int)+a by simp])
   ·exact Qm (r:=⟨[Qb N (f k)],false,[]⟩) (Qj ((Qfh (m:=n) (n:=N) (f:=f) (i:=k) (ra:=⟨Qd n N f,false,[]⟩) (rb:=⟨.int k,true,[]⟩) rfl rfl rfl rfl (by omega) (by omega)).trans (by rw[ZW])) (QL _)) (ho N (f k)) rfl
   ·exact QE (QbX (r:=⟨Qd n N (Qc9 f k (f (k+a)) (k+a) λj=>0-f k j),false,[]⟩) rfl ⟨rfl,rfl⟩)
def QqF(n:Nat)(m:Nat->Nat->Int):Prop:=∀j,j<n->∀r,r<n->(m j r).natAbs<=2^240
theorem QqU{n:Nat}(hn:n<=8):bnd (2^240) n<2^2000:=by
 have h:∀k,k<9->bnd (2^240) k<2^2000:=by decide+kernel
 exact h n (by omega)
theorem QqF.put{n:Nat}{m:Nat->Nat->Int}(h:QqF n m){i:Nat}{a:Nat->Int}(ha:∀r,r<n->(a r).natAbs<=2^240):QqF n (cup m i a):=λj hj r hr=>by
 by_cases e:j=i
 ·subst e;rw[QD];exact ha r hr
 ·rw[Qy _ _ e];exact h j hj r hr
structure Qc6 (n N k:Nat) (A m R:Nat->Nat->Int) (d:Int):Prop where
 clr:Clr n N k A m R d
 col:QqF n m
theorem Qc6.start(n N:Nat)(A:Nat->Nat->Int):Qc6 n N 0 A QB (λi j=>A j i) 1:=⟨Clr.start n N A,λj _ r _=>by unfold QB;split<;>decide⟩
theorem Qc6.small{n N k:Nat}{A m R:Nat->Nat->Int}{d:Int}(h:Qc6 n N k A m R d)(hn:n<=8)(hA:∀j,j<N->∀r,r<n->(A j r).natAbs<=2^240):d.natAbs<2^2000/\∀i j,i<n->j<N->(R i j).natAbs<2^2000:=by
 have b:=QqU hn
 refine⟨?_,λi j hi hj=>?_⟩
 ·rw[← h.clr.det];exact Zap (Qfi h.col) b
 ·rw[h.clr.ent i j hi hj];exact Zap (Qfi (h.col.put (hA j hj))) b
theorem Qc6.step{n N k:Nat}{A m R R':Nat->Nat->Int}{d:Int}(h:Qc6 n N k A m R d)(hk:k<n)(kN:k<N)(hA:∀j,j<N->∀r,r<n->(A j r).natAbs<=2^240)(hp:R k k≠0)(h1:∀j,j<N->R' k j=R k j)(h2:∀i j,i<n->i≠k->j<N->∀q,R k k*R i j-R i k*R k j=d*q->R' i j=q):Qc6 n N (k+1) A (cup m k (A k)) R' (R k k):=
 ⟨h.clr.step hk kN hp h1 h2,h.col.put (hA k kN)⟩
theorem Qc6.swap{n N k:Nat}{A m R:Nat->Nat->Int}{d:Int}(h:Qc6 n N k A m R d){i:Nat}(hk:k<n)(hi:i<n)(hki:k<i):∃m',Qc6 n N k A m' (Qc9 R k (R i) i λj=>0-R k j) d:=by
 have ne:k≠i:=by omega
 have neg:∀(c:Nat),c<n->∀(M:Nat->Nat->Int) (a:Nat->Int),HS.det n (cup M c λr=> -a r)= -HS.det n (cup M c a):=λc hc M a=>by
  have:=Qfd (m:=M) hc (-1) a
  simpa only[Zaw,ZQ]using this
 obtain⟨c1,c2⟩:=h
 refine⟨cup (cup m k (m i)) i λr=> -m k r,⟨c1.le,?_,c1.nz,λl j hl hj=>?_,λj hj=>?_⟩,λj hj r hr=>?_⟩
 ·rw[neg i hi,QdN hk hi ne,Zco,Qal,Qal];exact c1.det
 ·unfold Qc9
  by_cases e2:l=i
  ·subst e2
   rw[if_pos rfl]
   show 0-R k j=_
   rw[c1.ent k j hk hj,QlF,QdN hk hl ne,Qak _ _ _ ne]
   have:=Qal m l
   rw[this];omega
  ·rw[if_neg e2]
   by_cases e1:l=k
   ·subst e1
    rw[if_pos rfl,c1.ent i j hi hj,Qak _ _ _ (Ne.symm ne),QlF,neg i hi,QdN hl hi ne,Zco,Qal]
   ·rw[if_neg e1,c1.ent l j hl hj,Qak _ _ _ (Ne.symm e2),neg i hi,Qak _ _ _ (Ne.symm e1),QdN hk hi ne,Zco]
    rw[Qak _ _ _ e1,Qal,Qak _ _ _ e2,Qal]
 ·rw[Qy _ _ (by omega),Qy _ _ (by omega)];exact c1.own j hj
 ·by_cases e1:j=i
  ·subst e1;rw[QD,Int.natAbs_neg];exact c2 k hk r hr
  ·rw[Qy _ _ e1]
   by_cases e2:j=k
   ·subst e2;rw[QD];exact c2 i hi r hr
   ·rw[Qy _ _ e2];exact c2 j hj r hr
theorem Clr.stuck{n N k:Nat}{A m R:Nat->Nat->Int}{d:Int}(h:Clr n N k A m R d)(hk:k<n)(kN:k<N)(hz:∀i,k<=i->i<n->R i k=0):HS.det n A=0:=by
 have t:∀r,r<n->d*A k r=sm k λl=>R l k*A l r:=λr hr=>by
  rw[h.tell kN hr,Qhx (k:=k) (by omega) λl h1 h2=>by rw[hz l h1 h2,ZI]]
  exact QbG λl hl=>by rw[h.own l hl]
 have e:d*HS.det n A=0:=by
  have e1:HS.det n (cup A k λr=>d*A k r)=d*HS.det n A:=by rw[Qfd hk,Qal]
  rw[← e1]
  have e2:HS.det n (cup A k λr=>d*A k r)=HS.det n (cup A k λr=>sm k λl=>R l k*A l r):=Qah λj hj r hr=>by
   by_cases q:j=k
   ·subst q;rw[QD,QD];exact t r hr
   ·rw[Qy _ _ q,Qy _ _ q]
  rw[e2,Qeo hk (λl=>R l k) A k]
  exact QiF λi hi=>by rw[QeN (show i<n by omega) hk (by omega) (by rw[QD,Qy _ _ (by omega)]),ZG]
 rcases Int.mul_eq_zero.mp e with z | z
 ·exact absurd z h.nz
 ·exact z
theorem Clr.all{n N:Nat}{A m R:Nat->Nat->Int}{d:Int}(h:Clr n N n A m R d):d=HS.det n A:=by
 rw[← h.det]
 exact Qah λj hj r _=>by rw[h.own j hj]
def Qhg(d:Den):Prop:=∀(n N:Nat) (A:Nat->Nat->Int),n<=8->n<=N->(∀j,j<N->∀r,r<n->(A j r).natAbs<=2^240)->∃R,d [Qd n N (λi j=>A j i)]=some (.tup [Qd n N R,.int (det n A)],false)/\(det n A≠0->∃m,Qc6 n N n A m R (det n A))
theorem Qo1{dp dt:Den}(hp:Qjg dp)(ht:QlD dt):Qhg (Qo 5 (Qf7 dp dt)):=λn N A n8 hN hA=>by
 have key:Run (Qf7 dp dt) [some (Qd n N (λi j=>A j i),false),none,none,none,none] λo=>match o with | .rt d fr=>fr=false/\∃R,d= .tup [Qd n N R,.int (det n A)]/\(det n A≠0->∃m,Qc6 n N n A m R (det n A)) | _=>False:=by
  refine run_seq (Qg (QaG (r:=⟨Qd n N (λi j=>A j i),false,[]⟩) rfl) ?_)
  refine run_seq (Qg (r:=⟨.int 1,true,[]⟩) rfl ?_)
  rw[Ql]
  refine QE (QaI (toD:=λ(k:Nat)=> .int (k:Int)) (List.range n) (λk ρ=>∃m R b j3 j4,Qc6 n N k A m R b/\ρ=[some (Qd n N (λi j=>A j i),false),some (Qd n N R,false),some (.int b,true),j3,j4]) (QaL (n:=n) (Qdz (n:=n) (m:=N) (f:=λi j=>A j i) (r:=⟨Qd n N (λi j=>A j i),false,[]⟩) rfl rfl) rfl (by omega)) rfl ⟨_,_,_,none,none,Qc6.start n N A,rfl⟩ ?_ ?_)
  ·rintro k k' ρ hk ⟨m0,R0,b,j3,j4,C0,rfl⟩
   have hk':k<n/\k=k':=by
    obtain⟨h1,h2⟩:=Zf.mp hk
    simp at h1 h2;exact⟨h1,h2⟩
   obtain⟨hkn,rfl⟩:=hk'
   have kN:k<N:=by omega
   obtain⟨R,ep,hR⟩:=hp n N k R0 hkn (by omega) kN
   have hC:∃m,Qc6 n N k A m R b/\(R k k=0->det n A=0):=by
    rcases hR with⟨rfl,hz⟩ | ⟨i,h1,h2,h3,rfl⟩
    ·exact⟨m0,C0,λz=>C0.clr.stuck hkn kN (hz z)⟩
    ·obtain⟨m',C'⟩:=C0.swap hkn h2 h1
     refine⟨m',C',λz=>absurd z ?_⟩
     unfold Qc9
     rw[if_neg (by omega),if_pos rfl]
     exact h3
   obtain⟨m,C,hzero⟩:=hC
   obtain⟨sb,sR⟩:=C.small n8 hA
   refine⟨[some (Qd n N (λi j=>A j i),false),some (Qd n N R0,false),some (.int b,true),some (.int k,true),j4],rfl,?_⟩
   refine run_seq (Qg (r:=⟨Qd n N R,false,[]⟩) ((QfM (r:=⟨[Qd n N R0,.int k],false,[]⟩) rfl ep rfl).trans rfl) ?_)
   refine run_seq (Qg (r:=⟨Qb N (R k),false,[]⟩) ((QaG (Qfh (m:=n) (n:=N) (f:=R) (i:=k) (ra:=⟨Qd n N R,false,[]⟩) (rb:=⟨.int k,true,[]⟩) rfl rfl rfl rfl (by omega) (by omega))).trans rfl) ?_)
   refine QE (Qab (b:=decide (R k k=0)) (QO (Qba (a:=R k k) (b:=0) (Qaq (m:=N) (f:=R k) (i:=k) (ra:=⟨Qb N (R k),false,[]⟩) (rb:=⟨.int k,true,[]⟩) rfl rfl rfl rfl kN) rfl rfl rfl) rfl) (λh=>?_) (λh=>Qu ?_))
   ·have dz:=hzero (of_decide_eq_true h)
    refine QE (QbX (r:=⟨.tup [Qd n N R,.int 0],false,[]⟩) rfl ?_)
    exact⟨rfl,R,by rw[dz],λz=>absurd dz z⟩
   have pv:R k k≠0:=of_decide_eq_false h
   have ex:∀i j,∃q,i<n->i≠k->j<N->R k k*R i j-R i k*R k j=b*q:=λi j=>by
    by_cases h:i<n/\i≠k/\j<N
    ·exact⟨_,λh1 h2 h3=>C.clr.exact hkn kN h1 h3 h2⟩
    ·exact⟨0,λh1 h2 h3=>absurd ⟨h1,h2,h3⟩ h⟩
   have zz:∀j,R k k*R k j-R k k*R k j=b*0:=λj=>by rw[Zbt,ZG]
   have eT:∀i,i<n->dt [Qb N (R i),Qb N (R k),.int k,.int b]=some (Qb N (λj=>if i=k then 0 else(ex i j).choose),true):=λi hi=>
    ht N k (R i) (R k) _ b kN C.clr.nz sb (λj hj=>⟨sR i j hi hj,sR k j hkn hj⟩) λj hj=>by
     by_cases e:i=k
     ·rw[if_pos e,e];exact zz j
     ·rw[if_neg e];exact(ex i j).choose_spec hi e hj
   refine run_seq (Qg (r:=⟨Qd n N (λi j=>if i=k then 0 else(ex i j).choose),true,[]⟩) (QF (toD:=λ(i:Nat)=>Qb N (R i)) (out:=λ(i:Nat)=>Qb N (λj=>if i=k then 0 else(ex i j).choose)) (List.range n) (Q6 (r:=⟨Qd n N R,false,[]⟩) rfl rfl) rfl λi hi=>⟨[none,some (Qb N (R i),false),some (.int k,true),some (.int b,true),some (Qb N (R k),false)],rfl,⟨Qb N (λj=>if i=k then 0 else(ex i j).choose),true,[]⟩,Qm (r:=⟨[Qb N (R i),Qb N (R k),.int k,.int b],false,[]⟩) rfl (eT i (Zk.mp hi)) rfl,rfl,rfl⟩) ?_)
   rw[Ql]
   refine run_seq (QsS (n:=n) (N:=N) (k:=k) (p:=R k) (g:=λi j=>if i=k then 0 else(ex i j).choose) rfl rfl rfl hkn ?_)
   refine run_seq (Qg (r:=⟨.int (R k k),false,[]⟩) ((QaG (Qaq (m:=N) (f:=R k) (i:=k) (ra:=⟨Qb N (R k),false,[]⟩) (rb:=⟨.int k,true,[]⟩) rfl rfl rfl rfl kN)).trans rfl) (Qu ?_))
   rw[Qb9 rfl]
   refine⟨_,_,_,_,_,C.step (R':=λi j=>if i=k then R k j else(λi j=>if i=k then 0 else(ex i j).choose) i j) hkn kN hA pv (λj _=>by show(if k=k then R k j else _)=_;rw[if_pos rfl]) (λi j hi ne hj q hq=>?_),rfl⟩
   show(if i=k then R k j else if i=k then 0 else(ex i j).choose)=q
   rw[if_neg ne,if_neg ne]
   exact ZY C.clr.nz (((ex i j).choose_spec hi ne hj).symm.trans hq)
  ·rintro ρ ⟨m,R,b,j3,j4,C,rfl⟩
   rw[Zu]at C
   have hb:=C.clr.all
   subst hb
   exact Qx (r:=⟨.tup [Qd n N R,.int (det n A)],false,[]⟩) rfl ⟨rfl,R,rfl,λ_=>⟨m,C⟩⟩
 obtain⟨o,h1,h2⟩:=key
 cases o with
 | rt d fr=>
  obtain⟨rfl,R,rfl,C⟩:=h2
  exact⟨R,by show Option.bind (Qf7 dp dt [some (Qd n N (λi j=>A j i),false),none,none,none,none]) outD=_;rw[h1];rfl,C⟩
 | _=>exact h2.elim
end HS
namespace HS
open PySem PySem.Spec L2
end HS
namespace HS
open PySem L2
def Qgn(d:Den):Prop:=∀(n N:Nat) (A:Nat->Nat->Int),n<=8->n<=N->(∀j,j<N->∀r,r<n->(A j r).natAbs<=2^240)->det n A≠0->∃m R b,d [Qd n N (λi j=>A j i)]=some (.tup [Qd n N R,.int b],false)/\Qc6 n N n A m R b
theorem Qnh{dc:Den}(hc:Qhg dc):Qgn (Qo 2 (Qgg dc)):=λn N A n8 hN hA hd=>by
 obtain⟨R,ec,hC⟩:=hc n N A n8 hN hA
 obtain⟨m,C⟩:=hC hd
 refine⟨m,R,det n A,QW ?_,C⟩
 refine run_seq (Qg (r:=⟨.tup [Qd n N R,.int (det n A)],false,[]⟩) ((QfM (r:=⟨[Qd n N (λi j=>A j i)],false,[]⟩) rfl ec rfl).trans rfl) ?_)
 refine QE (Qab (b:=false) (QO (Qba (a:=det n A) (b:=0) (ra:=⟨.int (det n A),true,[]⟩) rfl rfl rfl rfl) (by simp[hd])) (λh=>by cases h) (λ_=>Qu ?_))
 exact Qx (r:=⟨.tup [Qd n N R,.int (det n A)],false,[]⟩) rfl ⟨rfl,rfl⟩
theorem QtH{n:Nat}{f g:Nat->Int}{a b:Nat}(ha:a<n)(hb:b<n)(hab:a≠b)(h:∀k,k<n->k≠a->k≠b->f k=g k)(e:f a+f b=g a+g b):Qi n f=Qi n g:=by
 have e1:Qi n f=Qi n λk=>g k+((if k=a then f a-g a else 0)*1+(if k=b then f b-g b else 0)*1):=Qk λk hk=>by
  by_cases k1:k=a
  ·subst k1;rw[if_pos rfl,if_neg hab];omega
  ·by_cases k2:k=b
   ·subst k2;rw[if_neg k1,if_pos rfl];omega
   ·rw[if_neg k1,if_neg k2,h k hk k1 k2];omega
 rw[e1,QbI,QbI,QaQ ha _ λ_=>1,QaQ hb _ λ_=>1]
 omega
theorem Qbh{n:Nat}{f:Nat->Int}{a:Nat}(ha:a<n)(h:∀k,k<n->k≠a->f k=0):Qi n f=f a:=by
 have e1:Qi n f=Qi n λk=>(if k=a then f a else 0)*1:=Qk λk hk=>by
  by_cases k1:k=a
  ·subst k1;rw[if_pos rfl];omega
  ·rw[if_neg k1,h k hk k1];omega
 rw[e1,QaQ ha _ λ_=>1];omega
theorem QeO(n:Nat)(c:Int)(f:Nat->Int):Qi n (λi=>f i*c)=Qi n f*c:=by
 rw[Zat,← Q1]
 exact Qk λi _=>Zat _ _
theorem Qg8(n:Nat)(f g:Nat->Int):Qi n (λi=>f i-g i)=Qi n f-Qi n g:=by
 have:=QbI n (λi=>f i-g i) g
 rw[Qk (g:=f) λi _=>by omega]at this
 omega
theorem Qfr{n:Nat}{f:Nat->Int}{t:Int}(h:∀k,k<n->t∣f k):t∣Qi n f:=by
 induction n with
 | zero=>exact Int.dvd_zero t
 | succ n ih=>rw[Qag];exact ZaG (ih λk hk=>h k (by omega)) (h n (by omega))
theorem Qoc{n:Nat}{f:Nat->Int}{C:Nat}(h:∀k,k<n->(f k).natAbs<=C):(Qi n f).natAbs<=n*C:=by
 induction n with
 | zero=>exact ZX _
 | succ n ih=>
  rw[Qag,Nat.succ_mul]
  have h1:=ih λk hk=>h k (by omega)
  have h2:=h n (by omega)
  have h3:=ZaZ (Qi n f) (f n)
  omega
noncomputable def idF(i j:Nat):Int:=if i=j then 1 else 0
theorem Qar(n:Nat)(a b c:Nat->Nat->Int):prodF n (prodF n a b) c=prodF n a (prodF n b c):=by
 funext i j
 unfold prodF
 have e1:(Qi n λk=>(Qi n λl=>a i l*b l k)*c k j)=Qi n λk=>Qi n λl=>a i l*(b l k*c k j):=Qk λk _=>by
  rw[← QeO];exact Qk λl _=>ZJ _ _ _
 rw[e1,Qdk]
 exact Qk λl _=>Q1 n _ _
theorem Qai{n:Nat}{a a' b b':Nat->Nat->Int}{i j:Nat}(h1:∀k,k<n->a i k=a' i k)(h2:∀k,k<n->b k j=b' k j):prodF n a b i j=prodF n a' b' i j:=
 Qk λk hk=>by rw[h1 k hk,h2 k hk]
theorem Qcb{n:Nat}(a:Nat->Nat->Int){i:Nat}(j:Nat)(hi:i<n):prodF n idF a i j=a i j:=by
 unfold prodF idF
 rw[Qbh hi λk _ hk=>by rw[if_neg (Ne.symm hk),ZI],if_pos rfl,ZQ]
theorem QfD{n:Nat}(a:Nat->Nat->Int)(i:Nat){j:Nat}(hj:j<n):prodF n a idF i j=a i j:=by
 unfold prodF idF
 rw[Qbh hj λk _ hk=>by rw[if_neg hk,ZG],if_pos rfl,Zah]
def Qbk(n:Nat)(a b:Nat->Nat->Int):Prop:=∀i j,i<n->j<n->prodF n a b i j=idF i j
theorem Qbk.prod{n:Nat}{a b c d:Nat->Nat->Int}(h1:Qbk n a b)(h2:Qbk n c d):Qbk n (prodF n a c) (prodF n d b):=λi j hi hj=>by
 rw[Qar,Qai (a':=a) (b':=prodF n (prodF n c d) b) (λ_ _=>rfl) λk hk=>by rw[Qar]]
 rw[Qai (a':=a) (b':=b) (λ_ _=>rfl) λk hk=>?_]
 ·exact h1 i j hi hj
 ·rw[Qai (a':=idF) (b':=b) (λl hl=>h2 k l hk hl) λ_ _=>rfl,Qcb b j hk]
theorem split_len:∀(L h:Nat),0<L->∃L1 L2 N,L=L1*L2/\Nat.Coprime L1 h/\L2∣h^N:=by
 intro L
 induction L using Nat.strongRecOn with
 | _ L ih=>
  intro h hL
  by_cases g:Nat.gcd L h=1
  ·exact⟨L,1,0,by omega,g,Nat.one_dvd _⟩
  ·have hg:0<Nat.gcd L h:=Nat.gcd_pos_of_pos_left h hL
   obtain⟨M,hM⟩:=Nat.gcd_dvd_left L h
   have hM0:0<M:=by
    rcases Nat.eq_zero_or_pos M with z | z
    ·rw[z,Nat.mul_zero]at hM;omega
    ·exact z
   have hlt:M<L:=by
    have:2*M<=Nat.gcd L h*M:=Zbb M (by omega)
    omega
   obtain⟨L1,L2,N,e,c,d⟩:=ih M hlt h hM0
   refine⟨L1,Nat.gcd L h*L2,N+1,?_,c,?_⟩
   ·rw[Nat.mul_left_comm,← e];exact hM
   ·rw[Zcg,ZaQ (h^N)]
    exact Nat.mul_dvd_mul (Nat.gcd_dvd_right L h) d
theorem QgK{t:Nat}{x:Int}:(t:Int)∣x↔t∣x.natAbs:=by rw[← ZaK,Int.natAbs_natCast]
noncomputable def QbL:Nat->(Nat->Int)->Nat
 | 0,_=>0
 | n+1,u=>Nat.gcd (QbL n u) (u n).natAbs
theorem Qbu{u:Nat->Int}{t:Nat}:∀{n:Nat},t∣QbL n u↔∀i,i<n->(t:Int)∣u i
 | 0=>⟨λ_ i hi=>by omega,λ_=>Nat.dvd_zero t⟩
 | n+1=>by
  unfold QbL
  rw[Nat.dvd_gcd_iff,Qbu (n:=n)]
  constructor
  ·rintro⟨h1,h2⟩ i hi
   by_cases e:i=n
   ·subst e;exact QgK.mpr h2
   ·exact h1 i (by omega)
  ·exact λh=>⟨λi hi=>h i (by omega),QgK.mp (h n (by omega))⟩
theorem QtL{n:Nat}{u v:Nat->Int}{L:Nat}(hL:0<L)(hc:∀t:Nat,t∣L->(∀i,i<n->(t:Int)∣u i)->(∀i,i<n->(t:Int)∣v i)->t=1):
  ∃T:Nat,∀t:Nat,t∣L->(∀i,i<n->(t:Int)∣u i+T*v i)->t=1:=by
 obtain⟨L1,L2,N,e,c,d⟩:=split_len L (Nat.gcd (QbL n u) L) hL
 refine⟨L1,λt ht hu=>?_⟩
 have c1:Nat.Coprime t L1:=by
  have a1:Nat.gcd t L1∣t:=Nat.gcd_dvd_left _ _
  have a2:Nat.gcd t L1∣L1:=Nat.gcd_dvd_right _ _
  have hui:∀i,i<n->((Nat.gcd t L1:Nat):Int)∣u i:=λi hi=>by
   have h1:=Int.dvd_trans (Int.natCast_dvd_natCast.mpr a1) (hu i hi)
   have h2:((Nat.gcd t L1:Nat):Int)∣(L1:Int)*v i:=Zar (Int.natCast_dvd_natCast.mpr a2)
   have:=Zbl h1 h2
   rwa[Int.add_sub_cancel]at this
  have h3:Nat.gcd t L1∣Nat.gcd (QbL n u) L:=Nat.dvd_gcd (Qbu.mpr hui) (Nat.dvd_trans a1 ht)
  exact Nat.eq_one_of_dvd_one (by rw[← c];exact Nat.dvd_gcd a2 h3)
 have t2:t∣L2:=by
  rw[e]at ht
  exact Nat.Coprime.dvd_of_dvd_mul_left c1 ht
 have c2:Nat.Coprime t (Nat.gcd (QbL n u) L):=by
  have a1:Nat.gcd t (Nat.gcd (QbL n u) L)∣t:=Nat.gcd_dvd_left _ _
  have a2:Nat.gcd t (Nat.gcd (QbL n u) L)∣QbL n u:=Nat.dvd_trans (Nat.gcd_dvd_right _ _) (Nat.gcd_dvd_left _ _)
  show Nat.gcd t (Nat.gcd (QbL n u) L)=1
  generalize Nat.gcd t (Nat.gcd (QbL n u) L)=D at a1 a2 ⊢
  have hui:=Qbu.mp a2
  have cD:Nat.Coprime D L1:=Nat.Coprime.coprime_dvd_left a1 c1
  refine hc D (Nat.dvd_trans a1 ht) hui λi hi=>?_
  have h1:=Zbl (Int.dvd_trans (Int.natCast_dvd_natCast.mpr a1) (hu i hi)) (hui i hi)
  rw[show u i+(L1:Int)*v i-u i=(L1:Int)*v i by omega]at h1
  have h2:=QgK.mp h1
  rw[Zao,Int.natAbs_natCast]at h2
  exact QgK.mpr (Nat.Coprime.dvd_of_dvd_mul_left cD h2)
 exact Nat.Coprime.eq_one_of_dvd (Nat.Coprime.pow_right N c2) (Nat.dvd_trans t2 d)
theorem QxW{n:Nat}(u v:Nat->Int){L:Nat}(hL:0<L):
  ∃T:Nat,∀t:Nat,t∣L->(∀i,i<n->(t:Int)∣u i+T*v i)->(∀i,i<n->(t:Int)∣u i)/\∀i,i<n->(t:Int)∣v i:=by
 obtain⟨g,hg⟩:∃g,g=Nat.gcd (Nat.gcd (QbL n u) (QbL n v)) L:=⟨_,rfl⟩
 have gL:g∣L:=by rw[hg];exact Nat.gcd_dvd_right _ _
 have gu:∀i,i<n->(g:Int)∣u i:=Qbu.mp (by rw[hg];exact Nat.dvd_trans (Nat.gcd_dvd_left _ _) (Nat.gcd_dvd_left _ _))
 have gv:∀i,i<n->(g:Int)∣v i:=Qbu.mp (by rw[hg];exact Nat.dvd_trans (Nat.gcd_dvd_left _ _) (Nat.gcd_dvd_right _ _))
 have g0:0<g:=Nat.pos_of_dvd_of_pos gL hL
 obtain⟨L',eL⟩:=gL
 have hL':0<L':=by
  rcases Nat.eq_zero_or_pos L' with z | z
  ·rw[z,Nat.mul_zero]at eL;omega
  ·exact z
 have eu:∀i,i<n->u i=(g:Int)*(u i / g):=λi hi=>(Int.mul_ediv_cancel' (gu i hi)).symm
 have ev:∀i,i<n->v i=(g:Int)*(v i / g):=λi hi=>(Int.mul_ediv_cancel' (gv i hi)).symm
 have gz:(g:Int)≠0:=by omega
 obtain⟨T,hT⟩:=QtL (n:=n) (u:=λi=>u i / g) (v:=λi=>v i / g) hL' λt h1 h2 h3=>by
  have a1:g*t∣L:=by rw[eL];exact Nat.mul_dvd_mul_left g h1
  have a2:g*t∣QbL n u:=Qbu.mpr λi hi=>by rw[eu i hi,Zac];exact Int.mul_dvd_mul_left _ (h2 i hi)
  have a3:g*t∣QbL n v:=Qbu.mpr λi hi=>by rw[ev i hi,Zac];exact Int.mul_dvd_mul_left _ (h3 i hi)
  have a4:g*t∣g:=by
   have:=Nat.dvd_gcd (Nat.dvd_gcd a2 a3) a1
   rwa[← hg]at this
  exact Nat.eq_one_of_dvd_one (Nat.dvd_of_mul_dvd_mul_left g0 (by rw[Nat.mul_one];exact a4))
 refine⟨T,λt ht hu=>?_⟩
 have hD:Nat.gcd (QbL n λi=>u i+T*v i) L∣g:=by
  obtain⟨D',hD'⟩:g∣Nat.gcd (QbL n λi=>u i+T*v i) L:=Nat.dvd_gcd (Qbu.mpr λi hi=>ZaG (gu i hi) (Int.dvd_mul_of_dvd_right (gv i hi))) ⟨L',eL⟩
  have b1:D'∣L':=by
   have:=Nat.gcd_dvd_right (QbL n λi=>u i+T*v i) L
   rw[hD',eL]at this
   exact Nat.dvd_of_mul_dvd_mul_left g0 this
  have b2:=hT D' b1 λi hi=>by
   have h1:((g*D':Nat):Int)∣u i+T*v i:=by rw[← hD'];exact(Qbu (n:=n) (u:=λi=>u i+T*v i)).mp (Nat.gcd_dvd_left _ _) i hi
   rw[eu i hi,ev i hi,show(g:Int)*(u i / g)+T*((g:Int)*(v i / g))=g*(u i / g+T*(v i / g)) by rw[ZaA,ZK],Zac]at h1
   exact Int.dvd_of_mul_dvd_mul_left gz h1
  rw[hD',b2,Nat.mul_one];exact Nat.dvd_refl g
 have tg:t∣g:=Nat.dvd_trans (Nat.dvd_gcd (Qbu.mpr hu) ht) hD
 exact⟨λi hi=>Int.dvd_trans (Int.natCast_dvd_natCast.mpr tg) (gu i hi),λi hi=>Int.dvd_trans (Int.natCast_dvd_natCast.mpr tg) (gv i hi)⟩
theorem QwV{L g y:Int}(h:∀t:Int,t∣L->t∣g->t.natAbs=1)(hd:L∣g*y):L∣y:=by
 have c:Nat.Coprime L.natAbs g.natAbs:=by
  have:=h (Nat.gcd L.natAbs g.natAbs) (QgK.mpr (Nat.gcd_dvd_left _ _)) (QgK.mpr (Nat.gcd_dvd_right _ _))
  rwa[Int.natAbs_natCast]at this
 have h2:=ZaK.mpr hd
 rw[Zao]at h2
 exact ZaK.mp (Nat.Coprime.dvd_of_dvd_mul_left c h2)
structure QiM (n:Nat) (A P:Nat->Nat->Int) (w:Int) (R Rb:Nat->Nat->Int) (len:Nat->Int):Prop where
 u1:Qbk n R Rb
 u2:Qbk n Rb R
 pos:∀j,j<n->0<len j
 col:∀i j,i<n->j<n->len j∣prodF n A R i j
 row:∀i j,i<n->j<n->w∣len j*prodF n Rb P j i
 nxt:∀j,j+1<n->len j∣len (j+1)
structure RT (n k:Nat) (A P:Nat->Nat->Int) (w c L:Int) (R Rb S:Nat->Nat->Int) (len:Nat->Int):Prop where
 kn:k<=n
 u1:Qbk n R Rb
 u2:Qbk n Rb R
 L0:0<L
 cL:c*L=w
 low:∀i j,k<=i->i<n->j<n->S i j=0
 i1:∀i j,i<n->j<n->L∣prodF n (prodF n A R) S i j
 i2:∀i j,i<k->j<n->w∣prodF n Rb P i j-c*S i j
 one:∀j,j<k->len j=1
 pos:∀j,k<=j->j<n->0<len j
 col:∀i j,k<=j->j<n->i<n->len j∣prodF n A R i j
 row:∀i j,k<=j->j<n->i<n->w∣len j*prodF n Rb P j i
 nxt:∀j,k<=j->j+1<n->len j∣len (j+1)
 top:k<n->len k=L
theorem RT.stop{n k:Nat}{A P:Nat->Nat->Int}{w c L:Int}{R Rb S:Nat->Nat->Int}{len:Nat->Int}(h:RT n k A P w c L R Rb S len)(hp:∀i j,i<n->j<n->L∣S i j):QiM n A P w R Rb len where
 u1:=h.u1
 u2:=h.u2
 pos:=λj hj=>by
  by_cases z:j<k
  ·rw[h.one j z];decide
  ·exact h.pos j (by omega) hj
 col:=λi j hi hj=>by
  by_cases z:j<k
  ·rw[h.one j z];exact Int.one_dvd _
  ·exact h.col i j (by omega) hj hi
 row:=λi j hi hj=>by
  by_cases z:j<k
  ·rw[h.one j z,ZQ]
   have h1:=h.i2 j i z hi
   have h2:w∣c*S j i:=by rw[← h.cL];exact Int.mul_dvd_mul_left c (hp j i hj hi)
   have:=ZaG h1 h2
   rwa[ZaJ]at this
  ·exact h.row i j (by omega) hj hi
 nxt:=λj hj=>by
  by_cases z:j<k
  ·rw[h.one j z];exact Int.one_dvd _
  ·exact h.nxt j (by omega) hj
theorem RT.done{n:Nat}{A P:Nat->Nat->Int}{w c L:Int}{R Rb S:Nat->Nat->Int}{len:Nat->Int}(h:RT n 0 A P w c L R Rb S len):QiM n A P w R Rb len:=
 ⟨h.u1,h.u2,λj hj=>h.pos j (by omega) hj,λi j hi hj=>h.col i j (by omega) hj hi,λi j hi hj=>h.row i j (by omega) hj hi,λj hj=>h.nxt j (by omega) hj⟩
structure QmR (n last:Nat) (x:Nat->Int) (T B:Nat->Nat->Int) (g:Int):Prop where
 u1:Qbk n T B
 u2:Qbk n B T
 tl:∀i j,last<i->i<n->j<n->T i j=idF i j
 tu:∀i j,i<=last->last<j->j<n->T i j=0
 bl:∀i j,i<n->last<j->j<n->B i j=idF i j
 hit:∀i,i<=last->Qi n (λj=>T i j*x j)=if i=last then g else 0
theorem RT.step{n last:Nat}{A P:Nat->Nat->Int}{w c L part L':Int}{R Rb S Sq S1:Nat->Nat->Int}{len x cc:Nat->Int}{T B:Nat->Nat->Int}{g:Int}(h:RT n (last+1) A P w c L R Rb S len)
  (p0:0<part) (eL:L=part*L') (hS:∀i j,i<n->j<n->S i j=part*Sq i j) (h1:∀i j,i<n->j<n->L'∣Sq i j-S1 i j) (hz:∀i j,last<i->i<n->j<n->S1 i j=0)
  (cop:∀t,t∣L'->(∀i j,i<n->j<n->t∣Sq i j)->t.natAbs=1) (hx:∀i,i<n->L'∣x i-Qi n λj=>cc j*S1 i j) (hx0:∀i,last<i->i<n->x i=0)
  (hxc:∀t,t∣L'->(∀i,i<n->t∣x i)->∀i j,i<n->j<n->t∣S1 i j) (sp:QmR n last x T B g):
  RT n last A P w (c*part) L' (prodF n R B) (prodF n T Rb) (λi j=>if i=last then 0 else prodF n T S1 i j) (λj=>if j=last then L' else len j):=by
 have hn:last<n:=h.kn
 have L0':0<L':=by
  refine Zbe λz=>?_
  have:=Zbj (a:=part) (b:=L') (by omega) (by omega)
  have:=h.L0
  omega
 have pz:part≠0:=by omega
 have ew:w=c*part*L':=by rw[← h.cL,eL,ZJ]
 obtain⟨M,hM⟩:∃M,M=prodF n A R:=⟨_,rfl⟩
 obtain⟨Q,hQ⟩:∃Q,Q=prodF n Rb P:=⟨_,rfl⟩
 have aM:prodF n A (prodF n R B)=prodF n M B:=by rw[hM,Qar]
 have aQ:prodF n (prodF n T Rb) P=prodF n T Q:=by rw[hQ,Qar]
 have i1:=h.i1
 have i2:=h.i2
 have col:=h.col
 have row:=h.row
 rw[← hM]at i1 col
 rw[← hQ]at i2 row
 have F1:∀i j,i<n->j<n->L'∣prodF n M S1 i j:=λi j hi hj=>by
  have a1:=i1 i j hi hj
  have a2:prodF n M S i j=part*prodF n M Sq i j:=by
   unfold prodF
   rw[← Q1]
   exact Qk λl hl=>by rw[hS l j hl hj,ZK]
  rw[a2,eL]at a1
  have a3:=Int.dvd_of_mul_dvd_mul_left pz a1
  have a4:L'∣Qi n λl=>M i l*(Sq l j-S1 l j):=Qfr λl hl=>Int.dvd_mul_of_dvd_right (h1 l j hl hj)
  have a5:(Qi n λl=>M i l*(Sq l j-S1 l j))=prodF n M Sq i j-prodF n M S1 i j:=by
   unfold prodF
   rw[← Qg8]
   exact Qk λl _=>Zcp _ _ _
  rw[a5]at a4
  have:=Zbl a3 a4
  rwa[Int.sub_sub_self]at this
 have F2:∀i,i<n->L'∣Qi n λl=>M i l*x l:=λi hi=>by
  have a1:L'∣Qi n λl=>M i l*(x l-Qi n λj=>cc j*S1 l j):=Qfr λl hl=>Int.dvd_mul_of_dvd_right (hx l hl)
  have a2:L'∣Qi n λj=>cc j*prodF n M S1 i j:=Qfr λj hj=>Int.dvd_mul_of_dvd_right (F1 i j hi hj)
  have a3:(Qi n λj=>cc j*prodF n M S1 i j)=Qi n λl=>M i l*Qi n λj=>cc j*S1 l j:=by
   unfold prodF
   rw[Qk (g:=λj=>Qi n λl=>M i l*(cc j*S1 l j)) λj _=>by rw[← Q1];exact Qk λl _=>ZK _ _ _,Qdk]
   exact Qk λl _=>Q1 n _ _
  rw[a3]at a2
  have:=ZaG a1 a2
  rw[← QbI,Qk (g:=λl=>M i l*x l) λl _=>by rw[← ZaA,ZaJ]]at this
  exact this
 have F3:∀l,l<n->x l=g*B l last:=λl hl=>by
  have a1:(Qi n λj=>prodF n B T l j*x j)=x l:=by
   rw[Qbh hl λj hj e=>by rw[sp.u2 l j hl hj];unfold idF;rw[if_neg (Ne.symm e),ZI],sp.u2 l l hl hl]
   unfold idF
   rw[if_pos rfl,ZQ]
  have a2:(Qi n λj=>prodF n B T l j*x j)=Qi n λm=>B l m*Qi n λj=>T m j*x j:=by
   unfold prodF
   rw[Qk (g:=λj=>Qi n λm=>B l m*(T m j*x j)) λj _=>by rw[← QeO];exact Qk λm _=>ZJ _ _ _,Qdk]
   exact Qk λm _=>Q1 n _ _
  rw[← a1,a2,Qbh hn λm hm ne=>?_]
  ·rw[sp.hit last (Zi _),if_pos rfl,Zat]
  ·by_cases z:m<=last
   ·rw[sp.hit m z,if_neg ne,ZG]
   ·have:(Qi n λj=>T m j*x j)=0:=by
     rw[Qbh hm λj hj e=>by rw[sp.tl m j (by omega) hm hj];unfold idF;rw[if_neg (Ne.symm e),ZI],hx0 m (by omega) hm,ZG]
    rw[this,ZG]
 have F4:∀t,t∣L'->t∣g->t.natAbs=1:=λt t1 t2=>cop t t1 λi j hi hj=>by
  have a1:=hxc t t1 (λl hl=>by rw[F3 l hl];exact Zar t2) i j hi hj
  have a2:=ZaG (Int.dvd_trans t1 (h1 i j hi hj)) a1
  rwa[ZaJ]at a2
 have F5:∀i,i<n->L'∣prodF n M B i last:=λi hi=>QwV F4 (by
  have:g*prodF n M B i last=Qi n λl=>M i l*x l:=by
   unfold prodF
   rw[← Q1]
   exact Qk λl hl=>by rw[F3 l hl,ZK]
  rw[this];exact F2 i hi)
 have F6:∀i j,i<=last->j<n->w∣prodF n T Q i j-c*part*prodF n T S1 i j:=λi j hi hj=>by
  have e:prodF n T Q i j-c*part*prodF n T S1 i j=Qi n λl=>T i l*(Q l j-c*part*S1 l j):=by
   unfold prodF
   rw[← Q1,← Qg8]
   exact Qk λl _=>by rw[Zcp,ZK (c*part)]
  rw[e]
  refine Qfr λl hl=>?_
  by_cases z:l<=last
  ·refine Int.dvd_mul_of_dvd_right ?_
   have a1:=i2 l j (by omega) hj
   have a2:w∣c*S l j-c*part*S1 l j:=by
    rw[hS l j hl hj,← ZJ,← Zcp,ew]
    exact Int.mul_dvd_mul_left _ (h1 l j hl hj)
   have:=ZaG a1 a2
   rwa[show Q l j-c*S l j+(c*S l j-c*part*S1 l j)=Q l j-c*part*S1 l j by omega]at this
  ·rw[sp.tu i l hi (by omega) hl,ZI];exact Int.dvd_zero _
 refine⟨by omega,Qbk.prod h.u1 sp.u2,Qbk.prod sp.u1 h.u2,L0',ew.symm,λi j hi hin hj=>?_,λi j hi hj=>?_,λi j hi hj=>?_,λj hj=>?_,λj hj hjn=>?_,λi j hj hjn hi=>?_,λi j hj hjn hi=>?_,λj hj hjn=>?_,λ_=>by rw[if_pos rfl]⟩
 ·by_cases z:i=last
  ·show(if i=last then 0 else _)=(0:Int);rw[if_pos z]
  ·show(if i=last then 0 else prodF n T S1 i j)=0
   rw[if_neg z,Qai (a':=idF) (b':=S1) (λl hl=>sp.tl i l (by omega) hin hl) (λ_ _=>rfl),Qcb _ _ hin]
   exact hz i j (by omega) hin hj
 ·rw[aM]
  have e1:prodF n (prodF n M B) (λi j=>if i=last then 0 else prodF n T S1 i j) i j=prodF n (prodF n M B) (prodF n T S1) i j-prodF n M B i last*prodF n T S1 last j:=by
   have s1:prodF n (prodF n M B) (prodF n T S1) i j=Qi n (λl=>prodF n M B i l*(if l=last then 0 else prodF n T S1 l j))+Qi n (λl=>(if l=last then prodF n M B i last*prodF n T S1 last j else 0)*1):=by
    rw[← QbI]
    show(Qi n λl=>prodF n M B i l*prodF n T S1 l j)=_
    exact Qk λl _=>by
     by_cases z:l=last
     ·subst z;rw[if_pos rfl,if_pos rfl];omega
     ·rw[if_neg z,if_neg z];omega
   rw[s1,QaQ hn _ λ_=>1]
   show(Qi n λl=>prodF n M B i l*(if l=last then 0 else prodF n T S1 l j))=_
   omega
  rw[e1,← Qar]
  refine Zbl ?_ (Zar (F5 i hi))
  rw[Qai (a':=M) (b':=S1) (λl hl=>?_) (λ_ _=>rfl)]
  ·exact F1 i j hi hj
  ·rw[Qar,Qai (a':=M) (b':=idF) (λ_ _=>rfl) (λm hm=>sp.u2 m l hm hl),QfD _ _ hl]
 ·rw[aQ,if_neg (by omega)]
  exact F6 i j (by omega) hj
 ·rw[if_neg (by omega)];exact h.one j (by omega)
 ·by_cases z:j=last
  ·rw[if_pos z];exact L0'
  ·rw[if_neg z];exact h.pos j (by omega) hjn
 ·rw[aM]
  by_cases z:j=last
  ·rw[if_pos z,z];exact F5 i hi
  ·rw[if_neg z,Qai (a':=M) (b':=idF) (λ_ _=>rfl) (λl hl=>sp.bl l j hl (by omega) hjn),QfD _ _ hjn]
   exact col i j (by omega) hjn hi
 ·rw[aQ]
  by_cases z:j=last
  ·rw[if_pos z,z]
   have a1:w∣L'*(prodF n T Q last i-c*part*prodF n T S1 last i):=Int.dvd_mul_of_dvd_right (F6 last i (Zi _) hi)
   have a2:w∣L'*(c*part*prodF n T S1 last i):=by rw[ew];exact⟨prodF n T S1 last i,by rw[← ZJ,Zat L']⟩
   have:=ZaG a1 a2
   rwa[← ZaA,ZaJ]at this
  ·rw[if_neg z,Qai (a':=idF) (b':=Q) (λl hl=>sp.tl j l (by omega) hjn hl) (λ_ _=>rfl),Qcb _ _ hjn]
   exact row i j (by omega) hjn hi
 ·by_cases z:j=last
  ·rw[if_pos z,if_neg (by omega),z]
   rw[h.top (by omega),eL]
   exact Int.dvd_mul_left _ _
  ·rw[if_neg z,if_neg (by omega)]
   exact h.nxt j (by omega) hjn
theorem QmZ{i:Int}{k:Nat}(h:i.natAbs<2^k)(hk:k<=2^20):Qbq i:=Zx (Zbk h) hk
noncomputable def QhP(Qbj:Den):DS:=(Qe (QM (QI (Qay (Qa 0)) (.nm 1) [none,none,some 0] QR (Qn 2 Qbj [] (Qc (Qa 2) (Qc (Qa 1) Qf))))) Qr)
def Qg2(d:Den):Prop:=∀n:Nat,n<=1000->d [.int n]=some (Qd n n idF,true)
theorem Qtx{du:Den}(hu:QkE du):Qg2 (Qo 1 (QhP du)):=λn hn=>by
 have e:Qd n n idF=Qd n n λi j=>if j=i then 1 else 0:=by
  unfold Qd
  refine congrArg D.lst (ZL λi _=>Qd0 λj _=>?_)
  show idF i j=if j=i then 1 else 0
  unfold idF
  by_cases z:i=j
  ·rw[if_pos z,if_pos z.symm]
  ·rw[if_neg z,if_neg (Ne.symm z)]
 rw[e]
 exact QW (Qx (r:=⟨Qd n n λi j=>if j=i then 1 else 0,true,[]⟩) (QF (toD:=λ(k:Nat)=> .int (k:Int)) (out:=λ(i:Nat)=>Qb n λj=>if j=i then 1 else 0) (List.range n) (QaL (n:=n) (r:=⟨.int n,true,[]⟩) rfl rfl (by omega)) rfl λi _=>⟨[none,some (.int i,true),some (.int n,true)],rfl,⟨Qb n λj=>if j=i then 1 else 0,true,[]⟩,Qm (r:=⟨[.int n,.int i],true,[]⟩) rfl (hu n i hn) rfl,rfl,rfl⟩) ⟨rfl,rfl⟩)
noncomputable def QpA:DS:=(Qe (QM (QI (QcD (Qa 1) (Qa 3)) (.tp [1,2]) [none,none,none,some 0,some 2] QR (QJ (Qam (Qa 3) (Qa 1)) (Qam (Qa 4) (Qa 2))))) Qr)
def QiD(d:Den):Prop:=∀(n:Nat) (p q:Int) (a b:Nat->Int),Qbq p->Qbq q->(∀i,i<n->Qbq (a i)/\Qbq (b i))->d [.int p,Qb n a,.int q,Qb n b]=some (Qb n λi=>p*a i+q*b i,true)
theorem QtC:QiD (Qo 4 QpA):=λn p q a b hp hq hb=>
 QW (Qx (r:=⟨Qb n λi=>p*a i+q*b i,true,[]⟩) (QF (toD:=λ(i:Nat)=> .tup [.int (a i),.int (b i)]) (out:=λi=> .int (p*a i+q*b i)) (List.range n) (QbP (f:=λi=> .int (a i)) (g:=λi=> .int (b i)) (ra:=⟨Qb n a,false,[]⟩) (rb:=⟨Qb n b,false,[]⟩) rfl rfl rfl rfl) rfl λi hi=>⟨[none,some (.int (a i),true),some (.int (b i),true),some (.int p,true),some (.int q,true)],rfl,⟨.int (p*a i+q*b i),true,[]⟩,Qaf (a:=p*a i) (b:=q*b i) (QaC (a:=p) (b:=a i) rfl rfl rfl rfl (QeI hp (hb i (Zk.mp hi)).1)) rfl (QaC (a:=q) (b:=b i) rfl rfl rfl rfl (QeI hq (hb i (Zk.mp hi)).2)) rfl,rfl,rfl⟩) ⟨rfl,rfl⟩)
noncomputable def Qa9(r x y:Int):Nat->Int
 | 0=>r
 | 1=>x
 | _=>y
theorem Qmc{r x y:Int}(h1:r.natAbs<2^2000)(h2:x.natAbs<2^2000)(h3:y.natAbs<2^2000):∀i,Qbq (Qa9 r x y i)
 | 0=>QaU h1
 | 1=>QaU h2
 | _+2=>QaU h3
noncomputable def Qf6(QbY:Den):DS:=(Qe (Qs 2 (Qae (Qc (Qa 0) (Qc (dC (.int 1)) (Qc (dC (.int 0)) Qf))))) (Qe (Qs 3 (Qae (Qc (Qa 1) (Qc (dC (.int 0)) (Qc (dC (.int 1)) Qf))))) (Qe (QcK (QN (dOp gNe (Qq (Qa 3) (dC (.int 0))) (dC (.int 0)))) (Qe (Qs 4 (Qn 4 QbY [] (Qc (dC (.int 1)) (Qc (Qa 2) (Qc (dOp QaJ (dC (.int 0)) (dOp Qez (Qq (Qa 2) (dC (.int 0))) (Qq (Qa 3) (dC (.int 0))))) (Qc (Qa 3) Qf)))))) (Qe (Qs 2 (Qao (Qa 3))) (Qe (Qs 3 (Qao (Qa 4))) Qr)))) (Qe (QM (Qq3 (Qc (Qa 2) Qf))) Qr))))
structure Wgh (a b R0 R1:Nat) (x0 y0 x1 y1:Int):Prop where
 e0:(R0:Int)=x0*a+y0*b
 e1:(R1:Int)=x1*a+y1*b
 dv:∀t:Nat,(t∣R0/\t∣R1)↔(t∣a/\t∣b)
 l0:R0<2^2000
 l1:R1<2^2000
 bx:x1.natAbs*R0+x0.natAbs*R1<=b
 by':y1.natAbs*R0+y0.natAbs*R1<=a
 x0l:x0.natAbs<=b+1
 x1l:x1.natAbs<=b+1
 y0l:y0.natAbs<=a+1
 y1l:y1.natAbs<=a+1
theorem QpF{p0 p1:Int}{q R0 R1 R2 c:Nat}(e:q*R1+R2=R0)(h:p1.natAbs*R0+p0.natAbs*R1<=c):(1*p0+(0-(q:Int))*p1).natAbs*R1+p1.natAbs*R2<=c:=by
 have h1:(1*p0+(0-(q:Int))*p1).natAbs<=p0.natAbs+q*p1.natAbs:=by
  have:=ZaZ (1*p0) ((0-(q:Int))*p1)
  rw[ZQ,ZaF,Zaw,Int.natAbs_neg,Zao,Int.natAbs_natCast]at this
  rw[ZQ,ZaF,Zaw]
  exact this
 have h2:=Zbb R1 h1
 have h3:(p0.natAbs+q*p1.natAbs)*R1+p1.natAbs*R2=p1.natAbs*R0+p0.natAbs*R1:=by
  rw[← e,Nat.add_mul,Nat.mul_add]
  have:q*p1.natAbs*R1=p1.natAbs*(q*R1):=by rw[ZaQ q,Nat.mul_assoc]
  omega
 omega
theorem Wgh.step{a b R0 R1:Nat}{x0 y0 x1 y1:Int}(h:Wgh a b R0 R1 x0 y0 x1 y1)(hr:R1≠0):Wgh a b R1 (R0 % R1) x1 y1 (1*x0+(0-((R0 / R1:Nat):Int))*x1) (1*y0+(0-((R0 / R1:Nat):Int))*y1):=by
 have e:R0 / R1*R1+R0 % R1=R0:=by rw[ZaQ];exact Nat.div_add_mod R0 R1
 have bx:=QpF e h.bx
 have by':=QpF e h.by'
 have r1:1<=R1:=by omega
 refine⟨h.e1,?_,λt=>?_,h.l1,Zq (Nat.mod_lt _ (by omega)) (Zbc h.l1),bx,by',h.x1l,?_,h.y1l,?_⟩
 ·have e':((R0 / R1:Nat):Int)*R1+((R0 % R1:Nat):Int)=R0:=by rw[← Zac,← Zbh,e]
  have h0:=h.e0
  have h1:=h.e1
  generalize ((R0 / R1:Nat):Int)=q at *
  generalize ((R0 % R1:Nat):Int)=z at *
  grind
 ·rw[← h.dv t]
  constructor
  ·rintro⟨h1,h2⟩
   exact⟨(Nat.dvd_mod_iff h1).mp h2,h1⟩
  ·rintro⟨h1,h2⟩
   exact⟨h2,(Nat.dvd_mod_iff h2).mpr h1⟩
 ·have:=Nat.mul_le_mul_left (1*x0+(0-((R0 / R1:Nat):Int))*x1).natAbs r1
  omega
 ·have:=Nat.mul_le_mul_left (1*y0+(0-((R0 / R1:Nat):Int))*y1).natAbs r1
  omega
def Qln(d:Den):Prop:=∀a b:Nat,a<2^1999->b<2^1999->∃(g:Nat) (x y:Int),d [.int a,.int b]=some (.tup [.int g,.int x,.int y],true)/\(g:Int)=x*a+y*b/\g∣a/\g∣b/\x.natAbs<=2^1999/\y.natAbs<=2^1999
theorem Quj{da:Den}(ha:QiD da):Qln (Qo 5 (Qf6 da)):=λa b la lb=>by
 have p:(2:Nat)^2000=2*2^1999:=by rw[Zcg,ZaQ]
 have key:Run (Qf6 da) [some (.int a,true),some (.int b,true),none,none,none] λo=>match o with | .rt d fr=>fr=true/\∃(g:Nat) (x y:Int),d= .tup [.int g,.int x,.int y]/\(g:Int)=x*a+y*b/\g∣a/\g∣b/\x.natAbs<=2^1999/\y.natAbs<=2^1999 | _=>False:=by
  refine run_seq (Qg (r:=⟨Qb 3 (Qa9 a 1 0),true,[]⟩) rfl ?_)
  rw[Ql]
  refine run_seq (Qg (r:=⟨Qb 3 (Qa9 b 0 1),true,[]⟩) rfl ?_)
  rw[Ql]
  refine QaK (P:=λρ=>∃(g:Nat) (x y z u:Int) (b2:Bool) (j3 j4:Option (D×Bool)),Wgh a b g 0 x y z u/\ρ=[some (.int a,true),some (.int b,true),some (Qb 3 (Qa9 g x y),b2),j3,j4]) ?_ ?_
  ·refine QhQ (λn ρ=>∃(R0 R1:Nat) (x0 y0 x1 y1:Int) (b2 b3:Bool) (j4:Option (D×Bool)),R1=n/\Wgh a b R0 R1 x0 y0 x1 y1/\ρ=[some (.int a,true),some (.int b,true),some (Qb 3 (Qa9 R0 x0 y0),b2),some (Qb 3 (Qa9 R1 x1 y1),b3),j4]) ?_ b _ ⟨a,b,1,0,0,1,true,true,none,rfl,⟨by omega,by omega,λt=>Iff.rfl,by omega,by omega,by simp,by simp,by simp,by simp,by simp,by simp⟩,rfl⟩
   rintro n ρ ⟨R0,R1,x0,y0,x1,y1,b2,b3,j4,rfl,W,rfl⟩
   obtain⟨r2,v2,d2⟩:∃r:HS.R,Qa 2 [some (.int a,true),some (.int b,true),some (Qb 3 (Qa9 R0 x0 y0),b2),some (Qb 3 (Qa9 R1 x1 y1),b3),j4]=some r/\r.d=Qb 3 (Qa9 R0 x0 y0):=by cases b2<;>exact⟨_,rfl,rfl⟩
   obtain⟨r3,v3,d3⟩:∃r:HS.R,Qa 3 [some (.int a,true),some (.int b,true),some (Qb 3 (Qa9 R0 x0 y0),b2),some (Qb 3 (Qa9 R1 x1 y1),b3),j4]=some r/\r.d=Qb 3 (Qa9 R1 x1 y1):=by cases b3<;>exact⟨_,rfl,rfl⟩
   refine⟨!decide ((R1:Int)=0),QO (QdF (a:=R1) (b:=0) (Qaq (m:=3) (f:=Qa9 R1 x1 y1) (i:=0) (rb:=⟨.int 0,true,[]⟩) v3 d3 rfl rfl (by decide)) rfl rfl rfl) rfl,λh=>?_,λh=>?_⟩
   ·have hr:R1=0:=by
     have:(R1:Int)=0:=by simpa using h
     omega
    subst hr
    exact⟨R0,x0,y0,x1,y1,b2,_,_,W,rfl⟩
   ·have hr:R1≠0:=by
     have:¬(R1:Int)=0:=by simpa using h
     omega
    have hq:(R0 / R1)<2^2000:=Zap (Nat.div_le_self R0 R1) W.l0
    have x0l:=W.x0l
    have x1l:=W.x1l
    have y0l:=W.y0l
    have y1l:=W.y1l
    have W':=W.step hr
    have er:(Qb 3 λi=>1*Qa9 R0 x0 y0 i+(0-((R0 / R1:Nat):Int))*Qa9 R1 x1 y1 i)=Qb 3 (Qa9 ((R0 % R1:Nat):Int) (1*x0+(0-((R0 / R1:Nat):Int))*x1) (1*y0+(0-((R0 / R1:Nat):Int))*y1)):=Qd0 λi hi=>by
     match i,hi with
     | 0,_=>
      show 1*(R0:Int)+(0-((R0 / R1:Nat):Int))*R1=((R0 % R1:Nat):Int)
      have e:R0 / R1*R1+R0 % R1=R0:=by rw[ZaQ];exact Nat.div_add_mod R0 R1
      have e':((R0 / R1:Nat):Int)*R1+((R0 % R1:Nat):Int)=R0:=by rw[← Zac,← Zbh,e]
      generalize ((R0 / R1:Nat):Int)=q at *
      generalize ((R0 % R1:Nat):Int)=z at *
      grind
     | 1,_=>rfl
     | 2,_=>rfl
    have ec:=ha 3 1 (0-((R0 / R1:Nat):Int)) (Qa9 R0 x0 y0) (Qa9 R1 x1 y1) (QaU (by decide)) (QaU (by rw[ZaF,Int.natAbs_neg,Int.natAbs_natCast];exact hq)) λi _=>⟨Qmc (by have:=W.l0;omega) (by omega) (by omega) i,Qmc (by have:=W.l1;omega) (by omega) (by omega) i⟩
    rw[er]at ec
    refine run_seq (Qg (r:=⟨Qb 3 (Qa9 ((R0 % R1:Nat):Int) (1*x0+(0-((R0 / R1:Nat):Int))*x1) (1*y0+(0-((R0 / R1:Nat):Int))*y1)),true,[]⟩) (Qm (r:=⟨[.int 1,Qb 3 (Qa9 R0 x0 y0),.int (0-((R0 / R1:Nat):Int)),Qb 3 (Qa9 R1 x1 y1)],_,_⟩) ((Qj rfl (Qj v2 (Qj (Qfw (a:=0) (b:=((R0 / R1:Nat):Int)) rfl rfl (QwR (a:=R0) (b:=R1) (Qaq (m:=3) (f:=Qa9 R0 x0 y0) (i:=0) (rb:=⟨.int 0,true,[]⟩) v2 d2 rfl rfl (by decide)) rfl (Qaq (m:=3) (f:=Qa9 R1 x1 y1) (i:=0) (rb:=⟨.int 0,true,[]⟩) v3 d3 rfl rfl (by decide)) rfl (by omega) (by have:=W.l1;omega)) rfl) (Qj v3 (QL _))))).trans (by rw[d2,d3])) ec rfl) ?_)
    rw[Ql]
    generalize hnf:Qa9 ((R0 % R1:Nat):Int) (1*x0+(0-((R0 / R1:Nat):Int))*x1) (1*y0+(0-((R0 / R1:Nat):Int))*y1)=nf at ec er ⊢
    cases b3
    ·refine run_seq (Qg (QaG (r:=⟨Qb 3 (Qa9 R1 x1 y1),false,[]⟩) rfl) ?_)
     refine run_seq (Qg (QaG (r:=⟨Qb 3 nf,true,[4]⟩) rfl) (Qu ?_))
     refine⟨R0 % R1,Nat.mod_lt _ (by omega),R1,R0 % R1,x1,y1,_,_,false,false,some (Qb 3 nf,false),rfl,W',?_⟩
     rw[hnf];rfl
    ·refine run_seq (Qg (QaG (r:=⟨Qb 3 (Qa9 R1 x1 y1),true,[3]⟩) rfl) ?_)
     refine run_seq (Qg (QaG (r:=⟨Qb 3 nf,true,[4]⟩) rfl) (Qu ?_))
     refine⟨R0 % R1,Nat.mod_lt _ (by omega),R1,R0 % R1,x1,y1,_,_,false,false,some (Qb 3 nf,false),rfl,W',?_⟩
     rw[hnf];rfl
  ·rintro ρ ⟨g,x,y,z,u,b2,j3,j4,W,rfl⟩
   have hd:=(W.dv g).mp ⟨Nat.dvd_refl g,Nat.dvd_zero g⟩
   have x0l:=W.x0l
   have y0l:=W.y0l
   refine QE (QbX (r:=⟨.tup [.int g,.int x,.int y],true,[]⟩) (by cases b2<;>rfl) ⟨rfl,g,x,y,rfl,W.e0,hd.1,hd.2,by omega,by omega⟩)
 obtain⟨o,h1,h2⟩:=key
 cases o with
 | rt d fr=>
  obtain⟨rfl,g,x,y,rfl,h⟩:=h2
  exact⟨g,x,y,by show Option.bind (Qf6 da [some (.int a,true),some (.int b,true),none,none,none]) outD=_;rw[h1];rfl,h⟩
 | _=>exact h2.elim
noncomputable def Qgr(T:Nat->Nat->Int)(l a:Nat)(p q r s:Int):Nat->Nat->Int:=Qc9 T l (λj=>p*T l j+q*T a j) a λj=>r*T l j+s*T a j
noncomputable def QdC(B:Nat->Nat->Int)(l a:Nat)(p q r s:Int):Nat->Nat->Int:=λi j=>if j=a then(0-q)*B i l+p*B i a else if j=l then s*B i l+(0-r)*B i a else B i j
theorem Qh2{T:Nat->Nat->Int}{l a:Nat}{p q r s:Int}(j:Nat):Qgr T l a p q r s a j=r*T l j+s*T a j:=by unfold Qgr Qc9;rw[if_pos rfl]
theorem QhZ{T:Nat->Nat->Int}{l a:Nat}{p q r s:Int}(h:l≠a)(j:Nat):Qgr T l a p q r s l j=p*T l j+q*T a j:=by unfold Qgr Qc9;rw[if_neg h,if_pos rfl]
theorem Qfo{T:Nat->Nat->Int}{l a i:Nat}{p q r s:Int}(h1:i≠a)(h2:i≠l)(j:Nat):Qgr T l a p q r s i j=T i j:=by unfold Qgr Qc9;rw[if_neg h1,if_neg h2]
theorem Qn2{B:Nat->Nat->Int}{l a:Nat}{p q r s:Int}(i:Nat):QdC B l a p q r s i a=(0-q)*B i l+p*B i a:=by unfold QdC;rw[if_pos rfl]
theorem Qnp{B:Nat->Nat->Int}{l a:Nat}{p q r s:Int}(h:l≠a)(i:Nat):QdC B l a p q r s i l=s*B i l+(0-r)*B i a:=by unfold QdC;rw[if_neg h,if_pos rfl]
theorem Qj8{B:Nat->Nat->Int}{l a j:Nat}{p q r s:Int}(h1:j≠a)(h2:j≠l)(i:Nat):QdC B l a p q r s i j=B i j:=by unfold QdC;rw[if_neg h1,if_neg h2]
theorem QpQ(n:Nat)(α β:Int)(f g:Nat->Int):(Qi n λk=>α*f k+β*g k)=α*Qi n f+β*Qi n g:=by rw[QbI,Q1,Q1]
theorem Qfq(n:Nat)(α β:Int)(f g h:Nat->Int):(Qi n λk=>(α*f k+β*g k)*h k)=α*(Qi n λk=>f k*h k)+β*Qi n λk=>g k*h k:=by
 rw[← QpQ];exact Qk λk _=>by rw[ZaB,ZJ,ZJ]
theorem QlY(n:Nat)(α β:Int)(f g h:Nat->Int):(Qi n λk=>h k*(α*f k+β*g k))=α*(Qi n λk=>h k*f k)+β*Qi n λk=>h k*g k:=by
 rw[← QpQ];exact Qk λk _=>by rw[ZaA,ZK,ZK (h k)]
theorem QvE{n:Nat}{T B:Nat->Nat->Int}{l a:Nat}{p q r s:Int}(hl:l<n)(ha:a<n)(hla:l≠a)(hd:p*s-q*r=1)(u1:Qbk n T B)(u2:Qbk n B T):
  Qbk n (Qgr T l a p q r s) (QdC B l a p q r s)/\Qbk n (QdC B l a p q r s) (Qgr T l a p q r s):=by
 constructor
 ·intro i j hi hj
  have two:∀c d:Nat,c<n->d<n->(Qi n λk=>T c k*B k d)=idF c d:=λc d hc hd=>u1 c d hc hd
  have right:∀c,c<n->(Qi n λk=>T c k*QdC B l a p q r s k j)=if j=a then(0-q)*idF c l+p*idF c a else if j=l then s*idF c l+(0-r)*idF c a else idF c j:=λc hc=>by
   by_cases ja:j=a
   ·subst ja
    rw[if_pos rfl,Qk (g:=λk=>T c k*((0-q)*B k l+p*B k j)) λk _=>by rw[Qn2],QlY,two c l hc hl,two c j hc hj]
   ·by_cases jl:j=l
    ·subst jl
     rw[if_neg ja,if_pos rfl,Qk (g:=λk=>T c k*(s*B k j+(0-r)*B k a)) λk _=>by rw[Qnp hla],QlY,two c j hc hj,two c a hc ha]
    ·rw[if_neg ja,if_neg jl,Qk (g:=λk=>T c k*B k j) λk _=>by rw[Qj8 ja jl],two c j hc hj]
  have ll:idF l l=1:=by unfold idF;rw[if_pos rfl]
  have aa:idF a a=1:=by unfold idF;rw[if_pos rfl]
  have la:idF l a=0:=by unfold idF;rw[if_neg hla]
  have al:idF a l=0:=by unfold idF;rw[if_neg (Ne.symm hla)]
  have ne:∀c d:Nat,c≠d->idF c d=0:=λc d h=>by unfold idF;rw[if_neg h]
  show(Qi n λk=>Qgr T l a p q r s i k*QdC B l a p q r s k j)=idF i j
  by_cases ia:i=a
  ·subst ia
   rw[Qk (g:=λk=>(r*T l k+s*T i k)*QdC B l i p q r s k j) λk _=>by rw[Qh2],Qfq,right l hl,right i hi]
   by_cases ja:j=i
   ·subst ja;rw[if_pos rfl,if_pos rfl,ll,la,al,aa];grind
   ·rw[if_neg ja,if_neg ja]
    by_cases jl:j=l
    ·subst jl;rw[if_pos rfl,if_pos rfl,ll,la,al,aa];grind
    ·rw[if_neg jl,if_neg jl,ne l j (Ne.symm jl),ne i j (Ne.symm ja)];omega
  ·by_cases il:i=l
   ·subst il
    rw[Qk (g:=λk=>(p*T i k+q*T a k)*QdC B i a p q r s k j) λk _=>by rw[QhZ hla],Qfq,right i hi,right a ha]
    by_cases ja:j=a
    ·subst ja;rw[if_pos rfl,if_pos rfl,ll,la,al,aa];grind
    ·rw[if_neg ja,if_neg ja]
     by_cases jl:j=i
     ·subst jl;rw[if_pos rfl,if_pos rfl,ll,la,al,aa];grind
     ·rw[if_neg jl,if_neg jl,ne i j (Ne.symm jl),ne a j (Ne.symm ja)];omega
   ·rw[Qk (g:=λk=>T i k*QdC B l a p q r s k j) λk _=>by rw[Qfo ia il],right i hi,ne i l il,ne i a ia]
    by_cases ja:j=a
    ·subst ja;rw[if_pos rfl,ne i j ia];omega
    ·rw[if_neg ja]
     by_cases jl:j=l
     ·subst jl;rw[if_pos rfl,ne i j il];omega
     ·rw[if_neg jl]
 ·intro i j hi hj
  rw[← u2 i j hi hj]
  refine QtH hl ha hla (λk _ k1 k2=>by rw[Qj8 k2 k1,Qfo k2 k1]) ?_
  rw[Qnp hla,Qn2,QhZ hla,Qh2]
  generalize B i l=bl
  generalize B i a=ba
  generalize T l j=tl
  generalize T a j=ta
  grind
structure QeV (n last at':Nat) (x:Nat->Int) (T B:Nat->Nat->Int) (wh:Nat):Prop where
 u1:Qbk n T B
 u2:Qbk n B T
 tl:∀i j,last<i->i<n->j<n->T i j=idF i j
 tu:∀i j,i<=last->last<j->j<n->T i j=0
 bl:∀i j,i<n->last<j->j<n->B i j=idF i j
 un:∀i j,at'<=i->i<last->j<n->T i j=idF i j
 h0:∀i,i<at'->(Qi n λj=>T i j*x j)=0
 hl:(Qi n λj=>T last j*x j)=wh
 wl:wh<2^1999
 bT:∀i j,i<n->j<n->(T i j).natAbs<=2^(2000*at')
 bB:∀i j,i<n->j<n->(B i j).natAbs<=2^(2000*at')
theorem QqO{p q a b:Int}{k:Nat}(hp:p.natAbs<=2^1999)(hq:q.natAbs<=2^1999)(ha:a.natAbs<=2^(2000*k))(hb:b.natAbs<=2^(2000*k)):(p*a+q*b).natAbs<=2^(2000*(k+1)):=by
 have h1:=ZaZ (p*a) (q*b)
 rw[Zao,Zao]at h1
 have h2:=Zbv hp ha
 have h3:=Zbv hq hb
 have h4:(2:Nat)^(2000*(k+1))=2*(2^1999*2^(2000*k)):=by
  rw[← Nat.pow_add,← Nat.pow_succ']
  congr 1;omega
 omega
theorem QeV.skip{n last at':Nat}{x:Nat->Int}{T B:Nat->Nat->Int}{wh:Nat}(h:QeV n last at' x T B wh)(hl:last<n)(ha:at'<last)(hx:x at'=0):QeV n last (at'+1) x T B wh:=by
 have up:(2:Nat)^(2000*at')<=2^(2000*(at'+1)):=ZF (by decide) (by omega)
 refine⟨h.u1,h.u2,h.tl,h.tu,h.bl,λi j h1 h2=>h.un i j (by omega) h2,λi hi=>?_,h.hl,h.wl,λi j hi hj=>Zx (h.bT i j hi hj) up,λi j hi hj=>Zx (h.bB i j hi hj) up⟩
 by_cases e:i=at'
 ·subst e
  rw[Qbh (a:=i) (by omega) λj hj ne=>by rw[h.un i j (Zi _) ha hj];unfold idF;rw[if_neg (Ne.symm ne),ZI],hx,ZG]
 ·exact h.h0 i (by omega)
theorem QeV.step{n last at':Nat}{x:Nat->Int}{T B:Nat->Nat->Int}{wh g one other:Nat}{p q:Int}(h:QeV n last at' x T B wh)(hl:last<n)(ha:at'<last)(g0:g≠0)(hw:wh=g*one)(hx:x at'=(g*other:Nat))(hxl:g*other<2^1999)(hg:(g:Int)=p*wh+q*x at')
  (pl:p.natAbs<=2^1999) (ql:q.natAbs<=2^1999):QeV n last (at'+1) x (Qgr T last at' p q (0-(other:Int)) one) (QdC B last at' p q (0-(other:Int)) one) g:=by
 have hla:last≠at':=by omega
 have an:at'<n:=by omega
 have g0':(g:Int)≠0:=by omega
 have onel:one<2^1999:=by
  have:=h.wl
  have:one<=g*one:=Nat.le_mul_of_pos_left one (by omega)
  omega
 have otherl:other<2^1999:=by
  have:other<=g*other:=Nat.le_mul_of_pos_left other (by omega)
  omega
 have gl:g<2^1999∨one=0:=by
  by_cases z:one=0
  ·exact .inr z
  ·have:=h.wl
   have:g<=g*one:=Zcb g (by omega)
   exact .inl (by omega)
 have hd:p*one-q*(0-(other:Int))=1:=by
  rw[hw,hx,Zac,Zac]at hg
  have:(g:Int)*(p*one-q*(0-(other:Int)))=g*1:=by grind
  exact ZY g0' this
 have gl:g<2^1999:=by
  rcases gl with z | z
  ·exact z
  ·rw[z]at hd
   have:other≠0:=λz=>by rw[z]at hd;simp at hd
   have:g<=g*other:=Zcb g (by omega)
   omega
 obtain⟨v1,v2⟩:=QvE (p:=p) (q:=q) (r:=0-(other:Int)) (s:=one) hl an hla hd h.u1 h.u2
 have tA:∀j,j<n->T at' j=idF at' j:=λj hj=>h.un at' j (Zi _) ha hj
 have hA:(Qi n λj=>T at' j*x j)=x at':=by
  rw[Qbh an λj hj ne=>by rw[tA j hj];unfold idF;rw[if_neg (Ne.symm ne),ZI],tA at' an]
  unfold idF;rw[if_pos rfl,ZQ]
 have ol:(0-(other:Int)).natAbs<=2^1999:=by rw[ZaF,Int.natAbs_neg,Int.natAbs_natCast];omega
 have ol':(0-(0-(other:Int))).natAbs<=2^1999:=by rw[ZaF,Int.natAbs_neg];exact ol
 have ql':(0-q).natAbs<=2^1999:=by rw[ZaF,Int.natAbs_neg];exact ql
 have oneb:(one:Int).natAbs<=2^1999:=by rw[Int.natAbs_natCast];omega
 have up:(2:Nat)^(2000*at')<=2^(2000*(at'+1)):=ZF (by decide) (by omega)
 refine⟨v1,v2,λi j h1 h2 h3=>by rw[Qfo (by omega) (by omega)];exact h.tl i j h1 h2 h3,λi j h1 h2 h3=>?_,λi j h1 h2 h3=>by rw[Qj8 (by omega) (by omega)];exact h.bl i j h1 h2 h3,λi j h1 h2 h3=>by rw[Qfo (by omega) (by omega)];exact h.un i j (by omega) h2 h3,λi hi=>?_,?_,gl,λi j hi hj=>?_,λi j hi hj=>?_⟩
 ·by_cases e1:i=at'
  ·subst e1;rw[Qh2,h.tu last j (Zi _) h2 h3,h.tu i j (by omega) h2 h3];omega
  ·by_cases e2:i=last
   ·subst e2;rw[QhZ hla,h.tu i j (Zi _) h2 h3,h.tu at' j (by omega) h2 h3];omega
   ·rw[Qfo e1 e2];exact h.tu i j h1 h2 h3
 ·by_cases e1:i=at'
  ·subst e1
   rw[Qk (g:=λj=>((0-(other:Int))*T last j+one*T i j)*x j) λj _=>by rw[Qh2],Qfq,h.hl,hA,hw,hx,Zac,Zac]
   grind
  ·rw[Qk (g:=λj=>T i j*x j) λj _=>by rw[Qfo e1 (by omega)]]
   exact h.h0 i (by omega)
 ·rw[Qk (g:=λj=>(p*T last j+q*T at' j)*x j) λj _=>by rw[QhZ hla],Qfq,h.hl,hA]
  exact hg.symm
 ·by_cases e1:i=at'
  ·subst e1;rw[Qh2];exact QqO ol oneb (h.bT last j hl hj) (h.bT i j hi hj)
  ·by_cases e2:i=last
   ·subst e2;rw[QhZ hla];exact QqO pl ql (h.bT i j hi hj) (h.bT at' j an hj)
   ·rw[Qfo e1 e2];exact Zx (h.bT i j hi hj) up
 ·by_cases e1:j=at'
  ·subst e1;rw[Qn2];exact QqO ql' pl (h.bB i last hi hl) (h.bB i j hi hj)
  ·by_cases e2:j=last
   ·subst e2;rw[Qnp hla];exact QqO oneb ol' (h.bB i j hi hj) (h.bB i at' hi an)
   ·rw[Qj8 e1 e2];exact Zx (h.bB i j hi hj) up
theorem QeV.start{n last:Nat}{x:Nat->Int}(hl:last<n){wh:Nat}(hw:x last=wh)(wl:wh<2^1999):QeV n last 0 x idF idF wh:=by
 have u:Qbk n idF idF:=λi j hi hj=>Qcb _ _ hi
 have b1:∀i j,(idF i j).natAbs<=2^(2000*0):=λi j=>by unfold idF;split<;>decide
 refine⟨u,u,λ_ _ _ _ _=>rfl,λi j h1 h2 _=>by unfold idF;rw[if_neg (by omega)],λ_ _ _ _ _=>rfl,λ_ _ _ _ _=>rfl,λi hi=>by omega,?_,wl,λi j _ _=>b1 i j,λi j _ _=>b1 i j⟩
 rw[Qbh hl λj _ ne=>by unfold idF;rw[if_neg (Ne.symm ne),ZI]]
 unfold idF
 rw[if_pos rfl,ZQ];exact hw
theorem QeV.tell{n last:Nat}{x:Nat->Int}{T B:Nat->Nat->Int}{wh:Nat}(h:QeV n last last x T B wh):QmR n last x T B wh:=⟨h.u1,h.u2,h.tl,h.tu,h.bl,λi hi=>by
 by_cases e:i=last
 ·rw[if_pos e,e];exact h.hl
 ·rw[if_neg e];exact h.h0 i (by omega)⟩
theorem Qhw{n N i:Nat}{f:Nat->Nat->Int}(h:i<n):((List.range n).map λi=>Qb N (f i))[i]? =some (Qb N (f i)):=by
 rw[Zl,Zy h];rfl
theorem QvM{t b ln n i k:Nat}{T B:Nat->Nat->Int}{a1 a2 a3 a4:Nat->Int}{fi fk g1 g2 g3 g4:DE}{ρ ρ1:En}{Q:Out->Prop}(ht:ρ[t]? =some (some (Qd n n T,true)))(hb:ρ[b]? =some (some (Qd n n B,true)))(h1:t≠b)(h2:ln≠t)(h3:ln≠b)(h4:ln<ρ.length)
  (ei:fi ρ=some ⟨.int i,true,[]⟩) (ek:fk ρ=some ⟨.int k,true,[]⟩) (hi:i<n) (hk:k<n) (e1:(((ρ.set t none).set b none).set ln none).set ln (some (.tup [Qb n (T i),Qb n (T k),Qb n (B i),Qb n (B k)],false))=ρ1)
  (ei':fi ρ1=some ⟨.int i,true,[]⟩) (ek':fk ρ1=some ⟨.int k,true,[]⟩) (c1:g1 ρ1=some ⟨Qb n a1,true,[]⟩) (c2:g2 ρ1=some ⟨Qb n a2,true,[]⟩) (c3:g3 ρ1=some ⟨Qb n a3,true,[]⟩) (c4:g4 ρ1=some ⟨Qb n a4,true,[]⟩)
  (q:Q (.nx (((((ρ.set t none).set b none).set ln none).set t (some (Qd n n (Qc9 T i a1 k a2),true))).set b (some (Qd n n (Qc9 B i a3 k a4),true))))):Run (Qjr t b ln fi fk g1 g2 g3 g4) ρ Q:=by
 refine⟨_,?_,q⟩
 unfold Qjr
 rw[ht,hb]
 simp only[Qd]
 rw[if_pos ⟨h1,h2,h3,h4⟩,ei,Za,ek,Za]
 simp only[Zp,Zu]
 rw[QbB (show(0:Int)<=i by omega) (by omega),QbB (show(0:Int)<=k by omega) (by omega)]
 simp only[Za,ZW]
 rw[Qhw hi,Qhw hk,Qhw hi,Qhw hk]
 simp only[Za]
 have fl:(D.tup [Qb n (T i),Qb n (T k),Qb n (B i),Qb n (B k)]).flat=false:=rfl
 rw[fl,e1]
 unfold QnX
 rw[ei',Za,ek',Za,c1,Za,c2,Za,c3,Za,c4,Za]
 have o0:∀a:Nat->Int,QhS (HS.R.mk (Qb n a) true [])=true:=λa=>rfl
 simp only[o0,and_self,if_true]
 rw[QeC hi,QeC (g:=λi' j=>if i'=i then a1 j else T i' j) hk,QeC hi,QeC (g:=λi' j=>if i'=i then a3 j else B i' j) hk]
 rfl
noncomputable def Qdx(Qad:Den)(Qd6:Den)(QbY:Den)(QaE:Den):DS:=(Qe (Qs 2 (Qn 1 Qad [] (Qc (dBf Qav (Qc (Qa 0) Qf)) Qf))) (Qe (Qs 3 (Qn 1 Qad [] (Qc (dBf Qav (Qc (Qa 0) Qf)) Qf))) (Qe (Qs 4 (Qao (Qq (Qa 0) (Qa 1)))) (Qe (Qbt (Qay (Qa 1)) (.nm 5) (Qe (Qs 6 (Qn 2 Qd6 [] (Qc (Qa 4) (Qc (Qq (Qa 0) (Qa 5)) Qf)))) (Qe (sIf (QN (dOp gEq (Qq (Qa 6) (dC (.int 0))) (dC (.int 0)))) (Qe Qqg Qr) Qr) (Qe (Qs 7 (dOp Qez (Qa 4) (Qq (Qa 6) (dC (.int 0))))) (Qe (Qs 8 (dOp Qez (Qq (Qa 0) (Qa 5)) (Qq (Qa 6) (dC (.int 0))))) (Qe (Qjr 2 3 9 (Qa 1) (Qa 5) (Qn 4 QbY [] (Qc (Qq (Qa 6) (dC (.int 1))) (Qc (Qq (Qa 9) (dC (.int 0))) (Qc (Qq (Qa 6) (dC (.int 2))) (Qc (Qq (Qa 9) (dC (.int 1))) Qf))))) (Qn 4 QbY [] (Qc (dOp QaJ (dC (.int 0)) (Qa 8)) (Qc (Qq (Qa 9) (dC (.int 0))) (Qc (Qa 7) (Qc (Qq (Qa 9) (dC (.int 1))) Qf))))) (Qn 4 QbY [] (Qc (Qa 7) (Qc (Qq (Qa 9) (dC (.int 2))) (Qc (Qa 8) (Qc (Qq (Qa 9) (dC (.int 3))) Qf))))) (Qn 4 QbY [] (Qc (dOp QaJ (dC (.int 0)) (Qq (Qa 6) (dC (.int 2)))) (Qc (Qq (Qa 9) (dC (.int 2))) (Qc (Qq (Qa 6) (dC (.int 1))) (Qc (Qq (Qa 9) (dC (.int 3))) Qf)))))) (Qe (Qs 4 (Qao (Qq (Qa 6) (dC (.int 0))))) Qr))))))) (Qe (QM (Qbb (Qc (Qa 2) (Qc (Qn 1 QaE [] (Qc (Qa 3) Qf)) Qf)))) Qr)))))
def Qk0(d:Den):Prop:=∀(n last:Nat) (x:Nat->Int),last<n->n<=8->(∀i,i<n->0<=x i/\x i<2^1999)->∃(T B:Nat->Nat->Int) (g:Nat),d [Qb n x,.int last]=some (.tup [Qd n n T,Qd n n B],true)/\QmR n last x T B g/\(∀i j,i<n->j<n->(T i j).natAbs<=2^16000)/\(∀i j,i<n->j<n->(B i j).natAbs<=2^16000)
theorem Qti{du dw da dt:Den}(hu:Qg2 du)(hw:Qln dw)(ha:QiD da)(ht:Qet dt):Qk0 (Qo 10 (Qdx du dw da dt)):=λn last x hl n8 hx=>by
 obtain⟨X,hX⟩:∃X:Nat->Nat,∀i,i<n->x i=X i:=⟨λi=>(x i).toNat,λi hi=>by have:=(hx i hi).1;show x i=((x i).toNat:Int);omega⟩
 have hXl:∀i,i<n->X i<2^1999:=λi hi=>by have:=(hx i hi).2;rw[hX i hi]at this;omega
 have key:Run (Qdx du dw da dt) [some (Qb n x,false),some (.int last,true),none,none,none,none,none,none,none,none] λo=>match o with | .rt d fr=>fr=true/\∃(T B:Nat->Nat->Int) (g:Nat),d= .tup [Qd n n T,Qd n n B]/\QmR n last x T B g/\(∀i j,i<n->j<n->(T i j).natAbs<=2^16000)/\(∀i j,i<n->j<n->(B i j).natAbs<=2^16000) | _=>False:=by
  have elen:∀ρ:En,ρ[0]? =some (some (Qb n x,false))->dBf Qav (Qc (Qa 0) Qf) ρ=some ⟨.int n,true,[]⟩:=λρ hρ=>Qd2 (m:=n) (f:=x) (Qbi hρ) rfl
  refine run_seq (Qg (r:=⟨Qd n n idF,true,[]⟩) (Qm (r:=⟨[.int n],true,[]⟩) (Qj (elen _ rfl) (QL _)) (hu n (by omega)) rfl) ?_)
  rw[Ql]
  refine run_seq (Qg (r:=⟨Qd n n idF,true,[]⟩) (Qm (r:=⟨[.int n],true,[]⟩) (Qj (elen _ rfl) (QL _)) (hu n (by omega)) rfl) ?_)
  rw[Ql]
  refine run_seq (Qg (r:=⟨.int (X last),false,[]⟩) ((QaG (Qaq (m:=n) (f:=x) (i:=last) (ra:=⟨Qb n x,false,[]⟩) (rb:=⟨.int last,true,[]⟩) rfl rfl rfl rfl hl)).trans (by rw[hX last hl])) ?_)
  rw[Qb9 rfl]
  have symm:(λi j=>idF j i)=idF:=by
   funext i j;unfold idF
   by_cases z:i=j
   ·rw[if_pos z,if_pos z.symm]
   ·rw[if_neg z,if_neg (Ne.symm z)]
  refine QE (QaI (toD:=λ(k:Nat)=> .int (k:Int)) (List.range last) (λat' ρ=>∃(T B:Nat->Nat->Int) (wh:Nat) (j5 j6 j7 j8 j9:Option (D×Bool)),QeV n last at' x T B wh/\ρ=[some (Qb n x,false),some (.int last,true),some (Qd n n T,true),some (Qd n n (λi j=>B j i),true),some (.int wh,true),j5,j6,j7,j8,j9]) (QaL (n:=last) (r:=⟨.int last,true,[]⟩) rfl rfl (by omega)) rfl ⟨idF,idF,X last,none,none,none,none,none,QeV.start hl (hX last hl) (hXl last hl),by rw[symm];rfl⟩ ?_ ?_)
  ·rintro k k' ρ hk ⟨T,B,wh,j5,j6,j7,j8,j9,C,rfl⟩
   have hk':k<last/\k=k':=by
    obtain⟨h1,h2⟩:=Zf.mp hk
    simp at h1 h2;exact⟨h1,h2⟩
   obtain⟨hkl,rfl⟩:=hk'
   have kn:k<n:=by omega
   obtain⟨g,p,q,ew,eg,g1,g2,pl,ql⟩:=hw wh (X k) C.wl (hXl k kn)
   refine⟨[some (Qb n x,false),some (.int last,true),some (Qd n n T,true),some (Qd n n (λi j=>B j i),true),some (.int wh,true),some (.int k,true),j6,j7,j8,j9],rfl,?_⟩
   refine run_seq (Qg (r:=⟨.tup [.int g,.int p,.int q],true,[]⟩) (Qm (r:=⟨[.int wh,.int (X k)],true,[]⟩) (Qj (r:=⟨.int wh,true,[]⟩) rfl (Qj ((Qaq (m:=n) (f:=x) (i:=k) (ra:=⟨Qb n x,false,[]⟩) (rb:=⟨.int k,true,[]⟩) rfl rfl rfl rfl kn).trans (by rw[hX k kn])) (QL _))) ew rfl) ?_)
   rw[Ql]
   change Nx _ (.nx [some (Qb n x,false),some (.int last,true),some (Qd n n T,true),some (Qd n n (λi j=>B j i),true),some (.int wh,true),some (.int k,true),some (.tup [.int g,.int p,.int q],true),j7,j8,j9])
   refine QE (Qab (b:=decide ((g:Int)=0)) (QO (Qba (a:=g) (b:=0) (ra:=⟨.int g,true,[]⟩) rfl rfl rfl rfl) rfl) (λh=>?_) (λh=>Qu ?_))
   ·have hg:g=0:=by
     have:(g:Int)=0:=of_decide_eq_true h
     omega
    subst hg
    have hxk:x k=0:=by rw[hX k kn,Nat.eq_zero_of_zero_dvd g2];rfl
    exact QE ⟨_,rfl,T,B,wh,_,_,_,_,_,C.skip hl hkl hxk,rfl⟩
   have g0:g≠0:=λz=>by
    have:=of_decide_eq_false h
    omega
   obtain⟨one,hone⟩:=g1
   obtain⟨other,hother⟩:=g2
   have gl:g<2^2000:=by
    have p:(2:Nat)^2000=2*2^1999:=by rw[Zcg,ZaQ]
    have w1:=C.wl
    have w2:=hXl k kn
    by_cases z:wh=0
    ·by_cases z2:X k=0
     ·rw[z,z2]at eg;simp at eg;omega
     ·have:=Nat.le_of_dvd (by omega) (⟨other,hother⟩:g∣X k);omega
    ·have:=Nat.le_of_dvd (by omega) (⟨one,hone⟩:g∣wh);omega
   refine run_seq (Qg (r:=⟨.int one,true,[]⟩) (QgW (a:=wh) (b:=g) (q:=one) rfl rfl (rb:=⟨.int g,true,[]⟩) rfl rfl (by omega) (by rw[Int.natAbs_natCast];exact gl) (by rw[hone,Zac])) ?_)
   rw[Ql]
   refine run_seq (Qg (r:=⟨.int other,true,[]⟩) (QgW (a:=(X k:Int)) (b:=g) (q:=other) ((Qaq (m:=n) (f:=x) (i:=k) (ra:=⟨Qb n x,false,[]⟩) (rb:=⟨.int k,true,[]⟩) rfl rfl rfl rfl kn).trans (by rw[hX k kn])) rfl (rb:=⟨.int g,true,[]⟩) rfl rfl (by omega) (by rw[Int.natAbs_natCast];exact gl) (by rw[hother,Zac])) ?_)
   rw[Ql]
   change Nx _ (.nx [some (Qb n x,false),some (.int last,true),some (Qd n n T,true),some (Qd n n (λi j=>B j i),true),some (.int wh,true),some (.int k,true),some (.tup [.int g,.int p,.int q],true),some (.int one,true),some (.int other,true),j9])
   have C':=C.step (g:=g) (one:=one) (other:=other) (p:=p) (q:=q) hl hkl g0 hone (by rw[hX k kn,hother]) (by rw[← hother];exact hXl k kn) (by rw[hX k kn];exact eg) pl ql
   have b8:∀z:Int,z.natAbs<=2^(2000*k)->Qbq z:=λz hz=>QmZ (k:=16001) (by
    have:(2:Nat)^(2000*k)<2^16001:=Nat.pow_lt_pow_right (by decide) (by omega)
    omega) (by decide)
   have bS:∀z:Int,z.natAbs<=2^1999->Qbq z:=λz hz=>QaU (by
    have:(2:Nat)^1999<2^2000:=Nat.pow_lt_pow_right (by decide) (by decide)
    omega)
   have w1:=C.wl
   have onel:(one:Int).natAbs<=2^1999:=by
    rw[Int.natAbs_natCast]
    have:one<=g*one:=Nat.le_mul_of_pos_left one (by omega)
    omega
   have otherl:(other:Int).natAbs<=2^1999:=by
    rw[Int.natAbs_natCast]
    have:other<=g*other:=Nat.le_mul_of_pos_left other (by omega)
    have:=hXl k kn
    omega
   have neg:∀z:Int,z.natAbs<=2^1999->(0-z).natAbs<=2^1999:=λz hz=>by rw[ZaF,Int.natAbs_neg];exact hz
   have eb:Qc9 (λi j=>B j i) last (λj=>(one:Int)*B j last+(other:Int)*B j k) k (λj=>(0-q)*B j last+p*B j k)=λi j=>QdC B last k p q (0-(other:Int)) one j i:=by
    funext i j
    unfold Qc9 QdC
    by_cases e1:i=k
    ·rw[if_pos e1,if_pos e1]
    ·rw[if_neg e1,if_neg e1]
     by_cases e2:i=last
     ·rw[if_pos e2,if_pos e2,show(0-(0-(other:Int)))=other by omega]
     ·rw[if_neg e2,if_neg e2]
   refine run_seq (QvM (n:=n) (i:=last) (k:=k) (T:=T) (B:=λi j=>B j i) (a1:=λj=>p*T last j+q*T k j) (a2:=λj=>(0-(other:Int))*T last j+one*T k j) (a3:=λj=>(one:Int)*B j last+(other:Int)*B j k) (a4:=λj=>(0-q)*B j last+p*B j k)
    (ρ1:=[some (Qb n x,false),some (.int last,true),none,none,some (.int wh,true),some (.int k,true),some (.tup [.int g,.int p,.int q],true),some (.int one,true),some (.int other,true),some (.tup [Qb n (T last),Qb n (T k),Qb n λj=>B j last,Qb n λj=>B j k],false)]) rfl rfl (by decide) (by decide) (by decide) (show 9<10 by decide) rfl rfl hl kn rfl rfl rfl
    (Qm (r:=⟨[.int p,Qb n (T last),.int q,Qb n (T k)],false,[]⟩) rfl (ha n p q (T last) (T k) (bS p pl) (bS q ql) λi hi=>⟨b8 _ (C.bT last i hl hi),b8 _ (C.bT k i kn hi)⟩) rfl)
    (Qm (r:=⟨[.int (0-other),Qb n (T last),.int one,Qb n (T k)],false,[]⟩) rfl (ha n (0-other) one (T last) (T k) (bS _ (neg _ otherl)) (bS _ onel) λi hi=>⟨b8 _ (C.bT last i hl hi),b8 _ (C.bT k i kn hi)⟩) rfl)
    (Qm (r:=⟨[.int one,Qb n λj=>B j last,.int other,Qb n λj=>B j k],false,[]⟩) rfl (ha n one other (λj=>B j last) (λj=>B j k) (bS _ onel) (bS _ otherl) λi hi=>⟨b8 _ (C.bB i last hi hl),b8 _ (C.bB i k hi kn)⟩) rfl)
    (Qm (r:=⟨[.int (0-q),Qb n λj=>B j last,.int p,Qb n λj=>B j k],false,[]⟩) rfl (ha n (0-q) p (λj=>B j last) (λj=>B j k) (bS _ (neg _ ql)) (bS p pl) λi hi=>⟨b8 _ (C.bB i last hi hl),b8 _ (C.bB i k hi kn)⟩) rfl) ?_)
   rw[eb]
   refine run_seq (Qg (r:=⟨.int g,false,[]⟩) rfl (Qu ?_))
   rw[Qb9 rfl]
   exact⟨_,_,g,_,_,_,_,_,C',rfl⟩
  ·rintro ρ ⟨T,B,wh,j5,j6,j7,j8,j9,C,rfl⟩
   rw[Zu]at C
   have bound:(2:Nat)^(2000*last)<=2^16000:=ZF (by decide) (by omega)
   refine Qx (r:=⟨.tup [Qd n n T,Qd n n B],true,[2]⟩) ?_ ⟨rfl,T,B,wh,rfl,C.tell,λi j hi hj=>Zx (C.bT i j hi hj) bound,λi j hi hj=>Zx (C.bB i j hi hj) bound⟩
   have ec:Qn 1 dt [] (Qc (Qa 3) Qf) [some (Qb n x,false),some (.int last,true),some (Qd n n T,true),some (Qd n n λi j=>B j i,true),some (.int wh,true),j5,j6,j7,j8,j9]=some ⟨Qd n n B,true,[]⟩:=Qm (r:=⟨[Qd n n λi j=>B j i],true,[3]⟩) rfl (ht n _ (by omega)) rfl
   unfold Qbb
   rw[Qj (r:=⟨Qd n n T,true,[2]⟩) rfl (Qj ec (QL _))]
   rfl
 obtain⟨o,h1,h2⟩:=key
 cases o with
 | rt d fr=>
  obtain⟨rfl,T,B,g,rfl,h⟩:=h2
  exact⟨T,B,g,by show Option.bind (Qdx du dw da dt [some (Qb n x,false),some (.int last,true),none,none,none,none,none,none,none,none]) outD=_;rw[h1];rfl,h⟩
 | _=>exact h2.elim
noncomputable def QiQ(QdT:Den):DS:=(Qe (QM (Qn 1 QdT [] (Qc (QJ (QI (Q3 (Qa 0)) (.nm 1) [none,none] QR (Qn 1 QdT [] (Qc (Qa 1) Qf))) (Qae (Qc (Qa 1) Qf))) Qf))) Qr)
def Qiw(d:Den):Prop:=∀(k n:Nat) (f:Nat->Nat->Int) (L:Int),k<=100->∃g:Int,d [Qd k n f,.int L]=some (.int g,true)/\0<=g/\∀t,t∣g↔((∀i j,i<k->j<n->t∣f i j)/\t∣L)
theorem Qu2{dc:Den}(hc:QjR dc):Qiw (Qo 2 (QiQ dc)):=λk n f L hk=>by
 obtain⟨gi,hgi⟩:=Zca λi:Nat=>hc ((List.range n).map (f i))
 have hrow:∀i t,t∣gi i↔∀j,j<n->t∣f i j:=λi t=>by
  rw[(hgi i).2.2 t]
  exact⟨λh j hj=>h _ (ZT.mpr ⟨j,Zk.mpr hj,rfl⟩),λh x hx=>by obtain⟨j,hj,rfl⟩:=ZT.mp hx;exact h j (Zk.mp hj)⟩
 obtain⟨g,eg,g0,hg⟩:=hc ((List.range (k+1)).map (up gi k L))
 rw[← Qhm]at eg
 refine⟨g,QW (Qx (r:=⟨.int g,true,[]⟩) (Qm (r:=⟨[Qb (k+1) (up gi k L)],true,[]⟩) (Qj (QjK (m:=k) (f:=gi) (x:=L) (QF (toD:=λ(i:Nat)=>Qb n (f i)) (out:=λ(i:Nat)=> .int (gi i)) (List.range k) (Q6 (r:=⟨Qd k n f,false,[]⟩) rfl rfl) rfl λi _=>⟨[none,some (Qb n (f i),false)],rfl,⟨.int (gi i),true,[]⟩,Qm (r:=⟨[Qb n (f i)],false,[]⟩) rfl (by rw[Qhm];exact(hgi i).1) rfl,rfl,rfl⟩) rfl rfl (by omega)) (QL _)) eg rfl) ⟨rfl,rfl⟩),g0,λt=>?_⟩
 rw[hg t]
 constructor
 ·intro h
  refine⟨λi j hi hj=>(hrow i t).mp (h _ (ZT.mpr ⟨i,Zk.mpr (by omega),by rw[QdG,if_neg (by omega)]⟩)) j hj,h _ (ZT.mpr ⟨k,Zk.mpr (by omega),by rw[QdG,if_pos rfl]⟩)⟩
 ·rintro⟨h1,h2⟩ x hx
  obtain⟨i,hi,rfl⟩:=ZT.mp hx
  have hi:=Zk.mp hi
  rw[QdG]
  by_cases e:i=k
  ·rw[if_pos e];exact h2
  ·rw[if_neg e];exact(hrow i t).mpr λj hj=>h1 i j (by omega) hj
noncomputable def Qny:DS:=(Qe (QM (QI (Q3 (Qa 0)) (.nm 1) [none,none,some 1] QR (dOp QaV (Qa 1) (Qa 2)))) Qr)
def Qhl(d:Den):Prop:=∀(n:Nat) (a:Nat->Int) (L:Int),0<L->d [Qb n a,.int L]=some (Qb n λi=>a i % L,true)
theorem QsY:Qhl (Qo 2 Qny):=λn a L hL=>
 QW (Qx (r:=⟨Qb n λi=>a i % L,true,[]⟩) (QF (toD:=λ(i:Nat)=> .int (a i)) (out:=λ(i:Nat)=> .int (a i % L)) (List.range n) (Q6 (r:=⟨Qb n a,false,[]⟩) rfl rfl) rfl λi _=>⟨[none,some (.int (a i),true),some (.int L,true)],rfl,⟨.int (a i % L),true,[]⟩,QaD (a:=a i) (b:=L) rfl rfl rfl rfl hL,rfl,rfl⟩) ⟨rfl,rfl⟩)
noncomputable def QnZ:DS:=(Qe (QM (QI (Q3 (Qa 0)) (.nm 1) [none,none,some 1] QR (dOp Qez (Qa 1) (Qa 2)))) Qr)
def Qha(d:Den):Prop:=∀(n:Nat) (a q:Nat->Int) (b:Int),b≠0->b.natAbs<2^2000->(∀i,i<n->a i=b*q i)->d [Qb n a,.int b]=some (Qb n q,true)
theorem Qr9:Qha (Qo 2 QnZ):=λn a q b b0 bl h=>
 QW (Qx (r:=⟨Qb n q,true,[]⟩) (QF (toD:=λ(i:Nat)=> .int (a i)) (out:=λ(i:Nat)=> .int (q i)) (List.range n) (Q6 (r:=⟨Qb n a,false,[]⟩) rfl rfl) rfl λi hi=>⟨[none,some (.int (a i),true),some (.int b,true)],rfl,⟨.int (q i),true,[]⟩,QgW (a:=a i) (b:=b) (q:=q i) rfl rfl rfl rfl b0 bl (h i (Zk.mp hi)),rfl,rfl⟩) ⟨rfl,rfl⟩)
noncomputable def QiR:DS:=(Qe (QM (QI (Q3 (Qa 0)) (.nm 1) [none,none,some 1] QR (Qam (Qa 2) (Qa 1)))) Qr)
def Qk6(d:Den):Prop:=∀(n:Nat) (a:Nat->Int) (c:Int),Qbq c->(∀i,i<n->Qbq (a i))->d [Qb n a,.int c]=some (Qb n λi=>c*a i,true)
theorem Qus:Qk6 (Qo 2 QiR):=λn a c hc ha=>
 QW (Qx (r:=⟨Qb n λi=>c*a i,true,[]⟩) (QF (toD:=λ(i:Nat)=> .int (a i)) (out:=λ(i:Nat)=> .int (c*a i)) (List.range n) (Q6 (r:=⟨Qb n a,false,[]⟩) rfl rfl) rfl λi hi=>⟨[none,some (.int (a i),true),some (.int c,true)],rfl,⟨.int (c*a i),true,[]⟩,QaC (a:=c) (b:=a i) rfl rfl rfl rfl (QeI hc (ha i (Zk.mp hi))),rfl,rfl⟩) ⟨rfl,rfl⟩)
noncomputable def pairF(u v:Nat->Int):Nat->Nat->Int
 | 0=>u
 | _=>v
noncomputable def QiA(QaP:Den)(QcE:Den):DS:=(Qe (Qs 3 (Qn 2 QaP [] (Qc (Qae (Qc (Qa 0) (Qc (Qa 1) Qf))) (Qc (Qa 2) Qf)))) (Qe (Qs 4 (Qao (Qa 0))) (Qe (QcK (QN (dOp gNe (Qn 2 QaP [] (Qc (Qae (Qc (Qa 4) Qf)) (Qc (Qa 2) Qf))) (Qa 3))) (Qe (Qs 4 (Qn 2 QcE [] (Qc (QI (QcD (Qa 4) (Qa 1)) (.tp [1,2]) [none,none,none] QR (QJ (Qa 1) (Qa 2))) (Qc (Qa 2) Qf)))) Qr)) (Qe (QM (Qa 4)) Qr))))
def Qlp(d:Den):Prop:=∀(n:Nat) (u v:Nat->Int) (L:Int),0<L->(∀i,i<n->0<=u i/\u i<L)->∃(x:Nat->Int) (fr:Bool) (k:Nat),d [Qb n u,Qb n v,.int L]=some (Qb n x,fr)/\(∀i,i<n->0<=x i/\x i<L)/\(∀i,i<n->L∣x i-(u i+k*v i))/\∀t,t∣L->(∀i,i<n->t∣x i)->(∀i,i<n->t∣u i)/\∀i,i<n->t∣v i
theorem Qtq{di dw:Den}(hi:Qiw di)(hw:Qhl dw):Qlp (Qo 5 (QiA di dw)):=λn u v L hL hu=>by
 obtain⟨w,ew,w0,hwd⟩:=hi 2 n (pairF u v) L (by decide)
 have hwd:∀t,t∣w↔((∀i,i<n->t∣u i)/\(∀i,i<n->t∣v i)/\t∣L):=λt=>by
  rw[hwd t]
  constructor
  ·rintro⟨h1,h2⟩
   exact⟨λi hi=>h1 0 i (by decide) hi,λi hi=>h1 1 i (by decide) hi,h2⟩
  ·rintro⟨h1,h2,h3⟩
   refine⟨λi j hi hj=>?_,h3⟩
   match i,hi with
   | 0,_=>exact h1 j hj
   | 1,_=>exact h2 j hj
 obtain⟨Ln,hLn⟩:∃Ln:Nat,L=Ln:=⟨L.toNat,by omega⟩
 obtain⟨T,hT⟩:=QxW (n:=n) u v (L:=Ln) (by omega)
 have hT:∀t:Int,t∣L->(∀i,i<n->t∣u i+T*v i)->(∀i,i<n->t∣u i)/\∀i,i<n->t∣v i:=λt h1 h2=>by
  have:=hT t.natAbs (by rw[hLn]at h1;have:=ZaK.mpr h1;rwa[Int.natAbs_natCast]at this) λi hi=>Int.natAbs_dvd.mpr (h2 i hi)
  exact⟨λi hi=>Int.natAbs_dvd.mp (this.1 i hi),λi hi=>Int.natAbs_dvd.mp (this.2 i hi)⟩
 have key:Run (QiA di dw) [some (Qb n u,false),some (Qb n v,false),some (.int L,true),none,none] λo=>match o with | .rt d fr=>∃(x:Nat->Int) (k:Nat),d=Qb n x/\(∀i,i<n->0<=x i/\x i<L)/\(∀i,i<n->L∣x i-(u i+k*v i))/\∀t,t∣L->(∀i,i<n->t∣x i)->(∀i,i<n->t∣u i)/\∀i,i<n->t∣v i | _=>False:=by
  refine run_seq (Qg (r:=⟨.int w,true,[]⟩) (Qm (r:=⟨[Qd 2 n (pairF u v),.int L],false,[]⟩) rfl ew rfl) ?_)
  rw[Ql]
  refine run_seq (Qg (QaG (r:=⟨Qb n u,false,[]⟩) rfl) ?_)
  refine QaK (P:=λρ=>∃(x:Nat->Int) (k:Nat) (b4:Bool),(∀i,i<n->0<=x i/\x i<L)/\(∀i,i<n->L∣x i-(u i+k*v i))/\(∀t,t∣L->(∀i,i<n->t∣x i)->(∀i,i<n->t∣u i)/\∀i,i<n->t∣v i)/\ρ=[some (Qb n u,false),some (Qb n v,false),some (.int L,true),some (.int w,true),some (Qb n x,b4)]) ?_ ?_
  ·refine QhQ (λm ρ=>∃(x:Nat->Int) (k:Nat) (b4:Bool),k+m=T/\(∀i,i<n->0<=x i/\x i<L)/\(∀i,i<n->L∣x i-(u i+k*v i))/\ρ=[some (Qb n u,false),some (Qb n v,false),some (.int L,true),some (.int w,true),some (Qb n x,b4)]) ?_ T _ ⟨u,0,false,by omega,hu,λi hi=>by simp,rfl⟩
   rintro m ρ ⟨x,k,b4,hk,hx,hd,rfl⟩
   obtain⟨g,eg,g0,hg⟩:=hi 1 n (pairF x x) L (by decide)
   have hg:∀t,t∣g↔((∀i,i<n->t∣x i)/\t∣L):=λt=>by
    rw[hg t]
    refine⟨λh=>⟨λi hi=>h.1 0 i (by decide) hi,h.2⟩,λh=>⟨λi j hi hj=>?_,h.2⟩⟩
    match i,hi with
    | 0,_=>exact h.1 j hj
   have back:∀t,t∣L->((∀i,i<n->t∣x i)↔∀i,i<n->t∣u i+k*v i):=λt ht=>by
    constructor
    ·intro h i hi
     have:=Zbl (h i hi) (Int.dvd_trans ht (hd i hi))
     rwa[Int.sub_sub_self]at this
    ·intro h i hi
     have:=ZaG (Int.dvd_trans ht (hd i hi)) (h i hi)
     rwa[ZaJ]at this
   obtain⟨r4,v4,d4⟩:∃r:HS.R,Qa 4 [some (Qb n u,false),some (Qb n v,false),some (.int L,true),some (.int w,true),some (Qb n x,b4)]=some r/\r.d=Qb n x:=by cases b4<;>exact⟨_,rfl,rfl⟩
   have ecall:Qn 2 di [] (Qc (Qae (Qc (Qa 4) Qf)) (Qc (Qa 2) Qf)) [some (Qb n u,false),some (Qb n v,false),some (.int L,true),some (.int w,true),some (Qb n x,b4)]=some ⟨.int g,true,[]⟩:=Qm (r:=⟨[Qd 1 n (pairF x x),.int L],r4.fr && true && (true && true),r4.M++[]++([]++[])⟩) ((Qj (QnR (Qj v4 (QL _)) (show 1<=64 by decide)) (Qj rfl (QL _))).trans (by rw[d4];rfl)) eg rfl
   refine⟨!decide (g=w),QO (QdF (a:=g) (b:=w) ecall rfl (rb:=⟨.int w,true,[]⟩) rfl rfl) rfl,λh=>?_,λh=>?_⟩
   ·have e:g=w:=by simpa using h
    refine⟨x,k,b4,hx,hd,λt h1 h2=>?_,rfl⟩
    have:=(hg t).mpr ⟨h2,h1⟩
    rw[e,hwd t]at this
    exact⟨this.1,this.2.1⟩
   ·have e:g≠w:=by simpa using h
    have hkT:k≠T:=λz=>e (Int.dvd_antisymm g0 w0 ((hwd g).mpr (by
     have h1:=(hg g).mp (Int.dvd_refl g)
     have h2:=(back g h1.2).mp h1.1
     rw[z]at h2
     have h3:=hT g h1.2 h2
     exact⟨h3.1,h3.2,h1.2⟩)) ((hg w).mpr (by
     have h1:=(hwd w).mp (Int.dvd_refl w)
     exact⟨(back w h1.2.2).mpr λi hi=>ZaG (h1.1 i hi) (Int.dvd_mul_of_dvd_right (h1.2.1 i hi)),h1.2.2⟩)))
    refine run_seq (Qg (r:=⟨Qb n λi=>(x i+v i) % L,true,[]⟩) (Qm (r:=⟨[Qb n λi=>x i+v i,.int L],true,[]⟩) (Qj (QF (toD:=λ(i:Nat)=> .tup [.int (x i),.int (v i)]) (out:=λi=> .int (x i+v i)) (List.range n) (QbP (f:=λi=> .int (x i)) (g:=λi=> .int (v i)) v4 d4 (rb:=⟨Qb n v,false,[]⟩) rfl rfl) rfl λi hi=>⟨[none,some (.int (x i),true),some (.int (v i),true)],rfl,⟨.int (x i+v i),true,[]⟩,rfl,rfl,rfl⟩) (Qj (r:=⟨.int L,true,[]⟩) rfl (QL _))) (hw n _ L hL) rfl) (Qu ?_))
    rw[Ql]
    refine⟨m-1,by omega,λi=>(x i+v i) % L,k+1,true,by omega,λi hi=>⟨ZH _ (by omega),ZD _ hL⟩,λi hi=>?_,rfl⟩
    have h1:=hd i hi
    have h2:L∣(x i+v i)-(x i+v i) % L:=Int.dvd_self_sub_emod
    have:=Zbl h1 h2
    rwa[show x i-(u i+(k:Int)*v i)-(x i+v i-(x i+v i) % L)=(x i+v i) % L-(u i+((k+1:Nat):Int)*v i) by rw[Zbh,ZaB];omega]at this
  ·rintro ρ ⟨x,k,b4,hx,hd,hc,rfl⟩
   cases b4
   ·exact QE (QbX (r:=⟨Qb n x,false,[]⟩) rfl ⟨x,k,rfl,hx,hd,hc⟩)
   ·exact QE (QbX (r:=⟨Qb n x,true,[4]⟩) rfl ⟨x,k,rfl,hx,hd,hc⟩)
 obtain⟨o,h1,h2⟩:=key
 cases o with
 | rt d fr=>
  obtain⟨x,k,rfl,h⟩:=h2
  exact⟨x,fr,k,by show Option.bind (QiA di dw [some (Qb n u,false),some (Qb n v,false),some (.int L,true),none,none]) outD=_;rw[h1];rfl,h⟩
 | _=>exact h2.elim
noncomputable def QdI(Qca:Den)(Qfg:Den):DS:=(Qe (Qs 2 (Qn 2 Qca [] (Qc (Qa 0) (Qc (dC (.int 0)) Qf)))) (Qe (Qbt (Qeq (dC (.int 1)) (dBf Qav (Qc (Qa 0) Qf))) (.nm 3) (Qe (Qs 2 (Qn 3 Qfg [] (Qc (Qa 2) (Qc (Qn 2 Qca [] (Qc (Qa 0) (Qc (Qa 3) Qf))) (Qc (Qa 1) Qf))))) Qr)) (Qe (QM (Qa 2)) Qr)))
structure QqG (n m:Nat) (f:Nat->Nat->Int) (L:Int) (x cc:Nat->Int):Prop where
 bd:∀i,i<n->0<=x i/\x i<L
 mix:∀i,i<n->L∣x i-Qi n λj=>cc j*f i j
 cop:∀t,t∣L->(∀i,i<n->t∣x i)->∀i j,i<n->j<m->t∣f i j
def Qoq(d:Den):Prop:=∀(n:Nat) (f:Nat->Nat->Int) (L:Int),0<n->n<=8->0<L->(∀i j,i<n->j<n->0<=f i j/\f i j<L)->∃(x cc:Nat->Int) (fr:Bool),d [Qd n n f,.int L]=some (Qb n x,fr)/\QqG n n f L x cc
theorem Qwm{dl dm:Den}(hl:Qhz dl)(hm:Qlp dm):Qoq (Qo 4 (QdI dl dm)):=λn f L n0 n8 hL hf=>by
 have key:Run (QdI dl dm) [some (Qd n n f,false),some (.int L,true),none,none] λo=>match o with | .rt d fr=>∃(x cc:Nat->Int),d=Qb n x/\QqG n n f L x cc | _=>False:=by
  refine run_seq (Qg (r:=⟨Qb n λi=>f i 0,true,[]⟩) (Qm (r:=⟨[Qd n n f,.int (0:Nat)],false,[]⟩) rfl (hl n n f 0 n0) rfl) ?_)
  rw[Ql]
  refine QE (QaI (toD:=λ(k:Nat)=> .int ((1:Int)+k)) (List.range (n-1)) (λk ρ=>∃(x cc:Nat->Int) (b2:Bool) (j3:Option (D×Bool)),QqG n (k+1) f L x cc/\ρ=[some (Qd n n f,false),some (.int L,true),some (Qb n x,b2),j3]) (Ql6 (i:=1) (j:=n) (n:=n-1) rfl rfl (Qdz (n:=n) (m:=n) (f:=f) (r:=⟨Qd n n f,false,[]⟩) rfl rfl) rfl (by omega) (by omega) (by decide) (by decide)) rfl ⟨λi=>f i 0,λj=>if j=0 then 1 else 0,true,none,⟨λi hi=>hf i 0 hi n0,λi hi=>?_,λt h1 h2 i j hi hj=>?_⟩,rfl⟩ ?_ ?_)
  ·rw[QaQ n0,ZQ,Zbt];exact Int.dvd_zero _
  ·rw[show j=0 by omega];exact h2 i hi
  ·rintro k k' ρ hk ⟨x,cc,b2,j3,I,rfl⟩
   have hk':k<n-1/\k=k':=by
    obtain⟨h1,h2⟩:=Zf.mp hk
    simp at h1 h2;exact⟨h1,h2⟩
   obtain⟨hkn,rfl⟩:=hk'
   refine⟨[some (Qd n n f,false),some (.int L,true),some (Qb n x,b2),some (.int ((1:Int)+k),true)],rfl,?_⟩
   obtain⟨y,fr,K,em,y1,y2,y3⟩:=hm n x (λi=>f i (k+1)) L hL I.bd
   have eK:(1:Int)+k=((k+1:Nat):Int):=by omega
   obtain⟨r2,v2,d2⟩:∃r:HS.R,Qa 2 [some (Qd n n f,false),some (.int L,true),some (Qb n x,b2),some (.int ((1:Int)+k),true)]=some r/\r.d=Qb n x:=by cases b2<;>exact⟨_,rfl,rfl⟩
   have ecol:Qn 2 dl [] (Qc (Qa 0) (Qc (Qa 3) Qf)) [some (Qd n n f,false),some (.int L,true),some (Qb n x,b2),some (.int ((1:Int)+k),true)]=some ⟨Qb n λi=>f i (k+1),true,[]⟩:=Qm (r:=⟨[Qd n n f,.int ((k+1:Nat):Int)],false,[]⟩) (by rw[← eK];rfl) (hl n n f (k+1) (by omega)) rfl
   have ecl:=Qjz (n:=3) (dfl:=[]) (den:=dm) (fs:=Qc (Qa 2) (Qc (Qn 2 dl [] (Qc (Qa 0) (Qc (Qa 3) Qf))) (Qc (Qa 1) Qf))) (ρ:=[some (Qd n n f,false),some (.int L,true),some (Qb n x,b2),some (.int ((1:Int)+k),true)]) (r:=⟨[Qb n x,Qb n λi=>f i (k+1),.int L],r2.fr && (true && (true && true)),r2.M++([]++([]++[]))⟩) ((Qj v2 (Qj ecol (Qj (r:=⟨.int L,true,[]⟩) rfl (QL _)))).trans (by rw[d2])) em rfl
   refine run_seq (Qg ecl (Qu ?_))
   refine⟨y,λj=>cc j+(if j=k+1 then(K:Int)else 0),fr,some (.int ((1:Int)+k),true),⟨y1,λi hi=>?_,λt h1 h2 i j hi hj=>?_⟩,?_⟩
   ·have h1:=y2 i hi
    have h2:=I.mix i hi
    have:=ZaG h1 h2
    rw[Qk (g:=λj=>cc j*f i j+(if j=k+1 then(K:Int)else 0)*f i j) λj _=>ZaB _ _ _,QbI,QaQ (by omega)]
    rwa[show y i-(x i+(K:Int)*f i (k+1))+(x i-Qi n λj=>cc j*f i j)=y i-((Qi n λj=>cc j*f i j)+(K:Int)*f i (k+1)) by omega]at this
   ·obtain⟨h3,h4⟩:=y3 t h1 h2
    by_cases e:j=k+1
    ·rw[e];exact h4 i hi
    ·exact I.cop t h1 h3 i j hi (by omega)
   ·cases fr
    ·cases b2
     ·have:r2=⟨Qb n x,false,[]⟩:=by injection v2 with z;exact z.symm
      rw[this];rfl
     ·have:r2=⟨Qb n x,true,[2]⟩:=by injection v2 with z;exact z.symm
      rw[this];rfl
    ·rfl
  ·rintro ρ ⟨x,cc,b2,j3,I,rfl⟩
   rw[Zu,show n-1+1=n by omega]at I
   cases b2
   ·exact QE (QbX (r:=⟨Qb n x,false,[]⟩) rfl ⟨x,cc,rfl,I⟩)
   ·exact QE (QbX (r:=⟨Qb n x,true,[2]⟩) rfl ⟨x,cc,rfl,I⟩)
 obtain⟨o,h1,h2⟩:=key
 cases o with
 | rt d fr=>
  obtain⟨x,cc,rfl,h⟩:=h2
  exact⟨x,cc,fr,by show Option.bind (QdI dl dm [some (Qd n n f,false),some (.int L,true),none,none]) outD=_;rw[h1];rfl,h⟩
 | _=>exact h2.elim
theorem Qoe{fa:DE}{ρ:En}{ra:HS.R}{n m:Nat}{f:Nat->Nat->Int}(ha:fa ρ=some ra)(ea:ra.d=Qd n m f):QgJ fa ρ=some ⟨(List.range n).map λ(i:Nat)=> .tup [.int i,Qb m (f i)],ra.M⟩:=by
 unfold QgJ
 rw[ha,Za,ea]
 have:Qfb ((List.range n).map λi=>Qb m (f i))=(List.range n).map λ(i:Nat)=>D.tup [.int i,Qb m (f i)]:=by
  unfold Qfb
  refine List.ext_getElem (by simp) λi h1 h2=>?_
  simp
 show some (IR.mk (Qfb ((List.range n).map λi=>Qb m (f i))) ra.M)=_
 rw[this]
theorem Quk{x n N k:Nat}{g:Nat->Nat->Int}{p:Nat->Int}{fi fa:DE}{ρ:En}{Q:Out->Prop}(hx:ρ[x]? =some (some (Qd n N g,true)))(hi:fi ρ=some ⟨.int k,true,[]⟩)(ha:fa ρ=some ⟨Qb N p,true,[]⟩)(hk:k<n)
  (q:Q (.nx (ρ.set x (some (Qd n N (λi j=>if i=k then p j else g i j),true))))):Run (Qbr x Q7 fi fa) ρ Q:=by
 refine⟨_,?_,q⟩
 unfold Qbr
 rw[ha,Za,hx]
 have hn:(HS.R.mk (Qb N p) true []).norm=⟨Qb N p,true,[]⟩:=by unfold R.norm Qb;rfl
 simp only[Q7,Za,hi,Qd,QaS,Zp,Zu,hn]
 rw[QbB (show(0:Int)<=k by omega) (by omega)]
 simp only[Za,ZW]
 rw[QeC hk]
 simp[kill,QaR]
theorem Qw1{n:Nat}(hn:n<=8):bnd (2^240) n<2^1999:=by
 have h:∀k,k<9->bnd (2^240) k<2^1999:=by decide+kernel
 exact h n (by omega)
theorem Qc6.QvS{n N k:Nat}{A m R:Nat->Nat->Int}{d:Int}(h:Qc6 n N k A m R d)(hn:n<=8)(hA:∀j,j<N->∀r,r<n->(A j r).natAbs<=2^240):d.natAbs<2^1999/\∀i j,i<n->j<N->(R i j).natAbs<2^1999:=by
 have b:=Qw1 hn
 refine⟨?_,λi j hi hj=>?_⟩
 ·rw[← h.clr.det];exact Zap (Qfi h.col) b
 ·rw[h.clr.ent i j hi hj];exact Zap (Qfi (h.col.put (hA j hj))) b
noncomputable def QhE(Qbj:Den)(Qbd:Den):DS:=(Qe (Qs 1 (dBf Qav (Qc (Qa 0) Qf))) (Qe (Qs 2 (Qn 1 Qbd [] (Qc (QI (QgJ (Qa 0)) (.tp [1,2]) [none,none,none,some 1] QR (QJ (Qa 2) (Qn 2 Qbj [] (Qc (Qa 3) (Qc (Qa 1) Qf))))) Qf))) (Qe (QM (Qbb (Qc (QI (Q3 (Qq (Qa 2) (dC (.int 0)))) (.nm 1) [none,none,some 1] QR (Qax (Qa 1) (QY (Qa 2)) Qas)) (Qc (Qq (Qa 2) (dC (.int 1))) Qf)))) Qr)))
def QlP(d:Den):Prop:=∀(n:Nat) (f:Nat->Nat->Int),n<=8->(∀i j,i<n->j<n->(f i j).natAbs<=2^240)->(det n λj i=>f i j)≠0->∃P:Nat->Nat->Int,d [Qd n n f]=some (.tup [Qd n n P,.int (det n λj i=>f i j)],true)/\(∀i j,i<n->j<n->prodF n f P i j=(det n λj i=>f i j)*idF i j)/\(∀i j,i<n->j<n->(P i j).natAbs<2^1999)/\(det n λj i=>f i j).natAbs<2^1999
theorem Qs4{du dc:Den}(hu:QkE du)(hc:Qgn dc):QlP (Qo 3 (QhE du dc)):=λn f n8 hf hd=>by
 obtain⟨A,hA⟩:∃A:Nat->Nat->Int,A=λj r=>if j<n then f r j else if j-n=r then 1 else 0:=⟨_,rfl⟩
 have aLow:∀j r,j<n->A j r=f r j:=λj r hj=>by rw[hA];show(if j<n then _ else _)=_;rw[if_pos hj]
 have aUp:∀c r,A (n+c) r=idF c r:=λc r=>by rw[hA];show(if n+c<n then _ else if n+c-n=r then 1 else 0)=_;rw[if_neg (by omega),show n+c-n=c by omega];rfl
 have bA:∀j,j<n+n->∀r,r<n->(A j r).natAbs<=2^240:=λj hj r hr=>by
  by_cases z:j<n
  ·rw[aLow j r z];exact hf r j hr z
  ·rw[show j=n+(j-n) by omega,aUp];unfold idF;split<;>decide
 have dA:det n A=det n λj i=>f i j:=Qah λj hj r _=>aLow j r hj
 obtain⟨m,R,b,ec,C⟩:=hc n (n+n) A n8 (by omega) bA (by rw[dA];exact hd)
 obtain⟨sb,sR⟩:=C.QvS n8 bA
 have hb:b=det n λj i=>f i j:=by rw[← dA];exact C.clr.all
 subst hb
 refine⟨λi j=>R i (n+j),QW ?_,λi j hi hj=>?_,λi j hi hj=>sR i (n+j) hi (by omega),sb⟩
 ·refine run_seq (Qg (Qdz (n:=n) (m:=n) (f:=f) (r:=⟨Qd n n f,false,[]⟩) rfl rfl) ?_)
  rw[Ql]
  have et:Qd n (n+n) (λi j=>A j i)= .lst ((List.range n).map λi=>Qb (n+n) λj=>if j<n then f i j else(λk=>if k=i then 1 else 0) (j-n)):=by
   unfold Qd
   refine congrArg D.lst (ZL λi _=>Qd0 λj _=>?_)
   rw[hA]
  refine run_seq (Qg (r:=⟨.tup [Qd n (n+n) R,.int (det n λj i=>f i j)],false,[]⟩) ((QfM (r:=⟨[Qd n (n+n) λi j=>A j i],true,[]⟩) (Qj (r:=⟨Qd n (n+n) λi j=>A j i,true,[]⟩) ?_ (QL _)) ec rfl).trans rfl) ?_)
  ·rw[et]
   exact QF (toD:=λ(i:Nat)=> .tup [.int i,Qb n (f i)]) (out:=λ(i:Nat)=>Qb (n+n) λj=>if j<n then f i j else(λk=>if k=i then 1 else 0) (j-n)) (List.range n) (Qoe (n:=n) (m:=n) (f:=f) (ra:=⟨Qd n n f,false,[]⟩) rfl rfl) rfl λi _=>⟨[none,some (.int i,true),some (Qb n (f i),false),some (.int n,true)],rfl,⟨Qb (n+n) λj=>if j<n then f i j else(λk=>if k=i then 1 else 0) (j-n),true,[]⟩,QjG (m:=n) (k:=n) (f:=f i) (g:=λk=>if k=i then 1 else 0) (ra:=⟨Qb n (f i),false,[]⟩) rfl rfl (Qm (r:=⟨[.int n,.int i],true,[]⟩) rfl (hu n i (by omega)) rfl) rfl (by omega),rfl,rfl⟩
  ·refine Qx (r:=⟨.tup [Qd n n λi j=>R i (n+j),.int (det n λj i=>f i j)],true,[]⟩) ?_ ⟨rfl,rfl⟩
   have e1:QI (Q3 (Qq (Qa 2) (dC (.int 0)))) (.nm 1) [none,none,some 1] QR (Qax (Qa 1) (QY (Qa 2)) Qas) [some (Qd n n f,false),some (.int n,true),some (.tup [Qd n (n+n) R,.int (det n λj i=>f i j)],false)]=some ⟨Qd n n λi j=>R i (n+j),true,[]⟩:=
    QF (toD:=λ(i:Nat)=>Qb (n+n) (R i)) (out:=λ(i:Nat)=>Qb n λj=>R i (n+j)) (List.range n) (Q6 (r:=⟨Qd n (n+n) R,false,[]⟩) rfl rfl) rfl λi _=>⟨[none,some (Qb (n+n) (R i),false),some (.int n,true)],rfl,⟨Qb n λj=>R i (n+j),true,[]⟩,(Qju (m:=n+n) (n:=n) (f:=R i) (ra:=⟨Qb (n+n) (R i),false,[]⟩) (rb:=⟨.int n,true,[]⟩) rfl rfl rfl rfl (by omega)).trans (by rw[show n+n-n=n by omega]),rfl,rfl⟩
   change Qbb (Qc (QI (Q3 (Qq (Qa 2) (dC (.int 0)))) (.nm 1) [none,none,some 1] QR (Qax (Qa 1) (QY (Qa 2)) Qas)) (Qc (Qq (Qa 2) (dC (.int 1))) Qf)) [some (Qd n n f,false),some (.int n,true),some (.tup [Qd n (n+n) R,.int (det n λj i=>f i j)],false)]=_
   unfold Qbb
   rw[Qj e1 (Qj (fa:=Qq (Qa 2) (dC (.int 1))) (r:=⟨.int (det n λj i=>f i j),true,[]⟩) rfl (QL _))]
   rfl
 ·have t:=C.clr.tell (j:=n+j) (r:=i) (by omega) hi
  rw[aUp]at t
  have e:idF j i=idF i j:=by
   unfold idF
   by_cases z:i=j
   ·rw[if_pos z,if_pos z.symm]
   ·rw[if_neg z,if_neg (Ne.symm z)]
  rw[← e,t,Qff]
  exact Qk λl hl=>by rw[C.clr.own l hl,aLow l i hl,Zat]
theorem RT.start{n:Nat}{A P:Nat->Nat->Int}{w W:Int}(hW:0<W)(hw:W∣w)(hA:∀i j,i<n->j<n->prodF n A P i j=w*idF i j):RT n n A P W 1 W idF idF P λ_=>1:=by
 have u:Qbk n idF idF:=λi j hi hj=>Qcb _ _ hi
 refine⟨Zi n,u,u,hW,ZQ W,λi j h1 h2=>by omega,λi j hi hj=>?_,λi j hi hj=>?_,λ_ _=>rfl,λj h1 h2=>by omega,λi j h1 h2=>by omega,λi j h1 h2=>by omega,λj h1 h2=>by omega,λh=>by omega⟩
 ·rw[Qai (a':=A) (b':=P) (λk hk=>QfD A i hk) (λ_ _=>rfl),hA i j hi hj]
  exact Zar hw
 ·rw[Qcb P j hi,ZQ,Zbt];exact Int.dvd_zero _
noncomputable def Qdo(Qad:Den)(QaP:Den)(Qb8:Den)(QcE:Den)(QbO:Den)(Qbx:Den)(QaM:Den):DS:=(Qe (Qs 2 (dBf Qav (Qc (Qa 0) Qf))) (Qe (Qs 3 (Qn 1 Qad [] (Qc (Qa 2) Qf))) (Qe (Qs 4 (Qn 1 Qad [] (Qc (Qa 2) Qf))) (Qe (Qs 5 (Qam (Qae (Qc (dC (.int 1)) Qf)) (Qa 2))) (Qe (Qs 6 (Qao (Qa 0))) (Qe (Qs 7 (dBf QnH (Qc (Qa 1) Qf))) (Qe (Qbt (QgO (dOp QaJ (Qa 2) (dC (.int 1))) (Qq2 (dC (.int 1))) (Qq2 (dC (.int 1)))) (.nm 8) (Qe (Qs 9 (Qn 2 QaP [] (Qc (Qa 6) (Qc (Qa 7) Qf)))) (Qe (Qs 7 (dOp Qez (Qa 7) (Qa 9))) (Qe (sIf (QN (dOp gEq (Qa 7) (dC (.int 1)))) (Qe Qqu Qr) Qr) (Qe (Qs 6 (QI (Q3 (Qa 6)) (.nm 1) [none,none,some 7,some 9] QR (Qn 2 QcE [] (Qc (Qn 2 Qb8 [] (Qc (Qa 1) (Qc (Qa 3) Qf))) (Qc (Qa 2) Qf))))) (Qe (Qbr 5 Q7 (Qa 8) (Qa 7)) (Qe (Qs 10 (Qn 2 Qbx [] (Qc (Qn 2 QbO [] (Qc (Qa 6) (Qc (Qa 7) Qf))) (Qc (Qa 8) Qf)))) (Qe (Qs 3 (Qn 2 QaM [] (Qc (Qa 3) (Qc (Qq (Qa 10) (dC (.int 1))) Qf)))) (Qe (Qs 4 (Qn 2 QaM [] (Qc (Qq (Qa 10) (dC (.int 0))) (Qc (Qa 4) Qf)))) (Qe (Qs 6 (Qn 2 QaM [] (Qc (Qq (Qa 10) (dC (.int 0))) (Qc (Qa 6) Qf)))) (Qe (Qbr 6 Q7 (Qa 8) (Qam (Qae (Qc (dC (.int 0)) Qf)) (Qa 2))) Qr))))))))))) (Qe (QM (Qbb (Qc (Qa 3) (Qc (Qa 4) (Qc (Qa 5) Qf))))) Qr))))))))
def Qaz(n k:Nat)(f:Nat->Nat->Int):Prop:=∀i j,i<n->j<n->(f i j).natAbs<=2^k
theorem Qaz.bits{n k:Nat}{f:Nat->Nat->Int}(h:Qaz n k f)(hk:k<2^20):QqW n f:=λi j hi hj=>QmZ (k:=k+1) (by
 have:=h i j hi hj
 have:(2:Nat)^k<2^(k+1):=Nat.pow_lt_pow_right (by decide) (by omega)
 omega) (by omega)
theorem Qaz.prod{n k l:Nat}{f g:Nat->Nat->Int}(hn:n<=8)(h1:Qaz n k f)(h2:Qaz n l g):Qaz n (k+l+3) (prodF n f g):=λi j hi hj=>by
 have h:(prodF n f g i j).natAbs<=n*2^(k+l):=Qoc λm hm=>by
  rw[Zao,Nat.pow_add]
  exact Zbv (h1 i m hi hm) (h2 m j hm hj)
 have h3:n*2^(k+l)<=8*2^(k+l):=Zbb _ hn
 have h4:(2:Nat)^(k+l+3)=8*2^(k+l):=by rw[Nat.pow_add,ZaQ]
 omega
theorem Qaz.mono{n k l:Nat}{f:Nat->Nat->Int}(h:Qaz n k f)(hk:k<=l):Qaz n l f:=λi j hi hj=>Zx (h i j hi hj) (ZF (by decide) hk)
theorem Qaz.id(n k:Nat):Qaz n k idF:=λi j _ _=>by
 have:0<(2:Nat)^k:=Nat.pow_pos (by decide)
 unfold idF
 split
 ·show 1<=_;omega
 ·exact ZX _
def Qlh(d:Den):Prop:=∀(n:Nat) (A P:Nat->Nat->Int) (w:Int),0<n->n<=8->w≠0->w.natAbs<2^1999->(∀i j,i<n->j<n->prodF n A P i j=w*idF i j)->∃(R Rb:Nat->Nat->Int) (len:Nat->Int),d [Qd n n P,.int w]=some (.tup [Qd n n R,Qd n n Rb,Qb n len],true)/\QiM n A P (w.natAbs:Int) R Rb len/\Qaz n 130000 R/\Qaz n 130000 Rb/\∀j,j<n->(len j).natAbs<2^1999
structure RTI (n k:Nat) (A P:Nat->Nat->Int) (W c L:Int) (R Rb S:Nat->Nat->Int) (len:Nat->Int):Prop where
 kn:k<=n
 rt:RT n (n-k) A P W c L R Rb S len
 bR:Qaz n (16003*k) R
 bB:Qaz n (16003*k) Rb
 Ll:L<2^1999
 ll:∀j,j<n->(len j).natAbs<2^1999
theorem QuA{du di ds dw df dc dp:Den}(hu:Qg2 du)(hi:Qiw di)(hs:Qha ds)(hw:Qhl dw)(hf:Qoq df)(hc:Qk0 dc)(hp:Qgc dp):Qlh (Qo 11 (Qdo du di ds dw df dc dp)):=λn A P w n0 n8 w0 wl hA=>by
 obtain⟨W,hW⟩:∃W:Int,W=w.natAbs:=⟨_,rfl⟩
 have W0:0<W:=by omega
 have Ww:W∣w:=by rw[hW];exact Int.natAbs_dvd.mpr (Int.dvd_refl w)
 have Wl:W<2^1999:=by rw[hW];exact_mod_cast wl
 rw[← hW]
 have key:Run (Qdo du di ds dw df dc dp) [some (Qd n n P,false),some (.int w,true),none,none,none,none,none,none,none,none,none] λo=>match o with | .rt d fr=>fr=true/\∃(R Rb:Nat->Nat->Int) (len:Nat->Int),d= .tup [Qd n n R,Qd n n Rb,Qb n len]/\QiM n A P W R Rb len/\Qaz n 130000 R/\Qaz n 130000 Rb/\(∀j,j<n->(len j).natAbs<2^1999) | _=>False:=by
  refine run_seq (Qg (Qdz (n:=n) (m:=n) (f:=P) (r:=⟨Qd n n P,false,[]⟩) rfl rfl) ?_)
  rw[Ql]
  refine run_seq (Qg (r:=⟨Qd n n idF,true,[]⟩) (Qm (r:=⟨[.int n],true,[]⟩) rfl (hu n (by omega)) rfl) ?_)
  rw[Ql]
  refine run_seq (Qg (r:=⟨Qd n n idF,true,[]⟩) (Qm (r:=⟨[.int n],true,[]⟩) rfl (hu n (by omega)) rfl) ?_)
  rw[Ql]
  refine run_seq (Qg (QeL (n:=n) (z:=1) (r:=⟨.int n,true,[]⟩) rfl rfl (by omega)) ?_)
  rw[Ql]
  refine run_seq (Qg (QaG (r:=⟨Qd n n P,false,[]⟩) rfl) ?_)
  refine run_seq (Qg (r:=⟨.int W,true,[]⟩) ?_ ?_)
  ·show some (HS.R.mk (.int (if w<0 then-w else w)) true [])=_
   rw[hW,show(if w<0 then-w else w)=(w.natAbs:Int) by split<;>omega]
  rw[Ql]
  change Nx _ (.nx [some (Qd n n P,false),some (.int w,true),some (.int n,true),some (Qd n n idF,true),some (Qd n n idF,true),some (Qb n λ_=>1,true),some (Qd n n P,false),some (.int W,true),none,none,none])
  refine QaK (P:=λρ=>∃(R Rb:Nat->Nat->Int) (len:Nat->Int) (j6 j7 j8 j9 j10:Option (D×Bool)),QiM n A P W R Rb len/\Qaz n 130000 R/\Qaz n 130000 Rb/\(∀j,j<n->(len j).natAbs<2^1999)/\ρ=[some (Qd n n P,false),some (.int w,true),some (.int n,true),some (Qd n n R,true),some (Qd n n Rb,true),some (Qb n len,true),j6,j7,j8,j9,j10]) ?_ ?_
  ·refine QaI (toD:=λ(k:Nat)=> .int ((n:Int)-1-k)) (List.range n) (λk ρ=>∃(R Rb S:Nat->Nat->Int) (len:Nat->Int) (c L:Int) (b6:Bool) (j8 j9 j10:Option (D×Bool)),RTI n k A P W c L R Rb S len/\ρ=[some (Qd n n P,false),some (.int w,true),some (.int n,true),some (Qd n n R,true),some (Qd n n Rb,true),some (Qb n len,true),some (Qd n n S,b6),some (.int L,true),j8,j9,j10]) (Qr6 (n:=n) (Qfw (a:=n) (b:=1) (ra:=⟨.int n,true,[]⟩) rfl rfl rfl rfl) rfl (rb:=⟨.int (-1),true,[]⟩) rfl rfl (rc:=⟨.int (-1),true,[]⟩) rfl rfl (by omega)) rfl ⟨idF,idF,P,λ_=>1,1,W,false,none,none,none,⟨by omega,by rw[Zbs];exact RT.start W0 Ww hA,Qaz.id n _,Qaz.id n _,Wl,λj hj=>by show(1:Int).natAbs<2^1999;exact Zq (by decide) (ZF (n:=2) (by decide) (show 1<=1999 by decide))⟩,rfl⟩ ?_ ?_
   ·rintro k k' ρ hk ⟨R,Rb,S,len,c,L,b6,j8,j9,j10,I,rfl⟩
    have hk':k<n/\k=k':=by
     obtain⟨h1,h2⟩:=Zf.mp hk
     simp at h1 h2;exact⟨h1,h2⟩
    obtain⟨hkn,rfl⟩:=hk'
    obtain⟨last,hlast⟩:∃last,last=n-1-k:=⟨_,rfl⟩
    have el:(n:Int)-1-k=(last:Int):=by omega
    have ek:n-k=last+1:=by omega
    have hln:last<n:=by omega
    obtain⟨kn,rt,bR,bB,Ll,ll⟩:=I
    rw[ek]at rt
    refine⟨[some (Qd n n P,false),some (.int w,true),some (.int n,true),some (Qd n n R,true),some (Qd n n Rb,true),some (Qb n len,true),some (Qd n n S,b6),some (.int L,true),some (.int (last:Int),true),j9,j10],by rw[el];rfl,?_⟩
    obtain⟨part,ep,p0,hpd⟩:=hi n n S L (by omega)
    have pp:=(hpd part).mp (Int.dvd_refl part)
    have L0:=rt.L0
    obtain⟨L',eL⟩:=pp.2
    have pz:part≠0:=λz=>by rw[z,ZI]at eL;omega
    have p1:0<part:=by omega
    have pL:part.natAbs<2^2000:=by
     have h1:=Int.le_of_dvd L0 pp.2
     have h2:(2:Int)^1999<2^2000:=by decide
     have h3:((part.natAbs:Nat):Int)<((2^2000:Nat):Int):=by rw[Int.natAbs_of_nonneg p0];push_cast;omega
     omega
    have L0':0<L':=by
     refine Zbe λz=>?_
     have:=Zbj (a:=part) (b:=L') (by omega) (by omega)
     omega
    have Ll':L'<2^1999:=by
     have:L'<=L:=by
      have:=Int.mul_le_mul_of_nonneg_right (show 1<=part by omega) (show 0<=L' by omega)
      omega
     omega
    have ll':L'.natAbs<2^1999:=by
     have h3:((L'.natAbs:Nat):Int)<((2^1999:Nat):Int):=by rw[Int.natAbs_of_nonneg (by omega)];push_cast;omega
     omega
    obtain⟨r6,v6,d6⟩:∃r:HS.R,Qa 6 [some (Qd n n P,false),some (.int w,true),some (.int n,true),some (Qd n n R,true),some (Qd n n Rb,true),some (Qb n len,true),some (Qd n n S,b6),some (.int L,true),some (.int (last:Int),true),j9,j10]=some r/\r.d=Qd n n S:=by cases b6<;>exact⟨_,rfl,rfl⟩
    refine run_seq (Qg (r:=⟨.int part,true,[]⟩) (Qm (r:=⟨[Qd n n S,.int L],r6.fr && (true && true),r6.M++([]++[])⟩) ((Qj v6 (Qj (r:=⟨.int L,true,[]⟩) rfl (QL _))).trans (by rw[d6])) ep rfl) ?_)
    rw[Ql]
    refine run_seq (Qg (r:=⟨.int L',true,[]⟩) (QgW (a:=L) (b:=part) (q:=L') (ra:=⟨.int L,true,[]⟩) rfl rfl (rb:=⟨.int part,true,[]⟩) rfl rfl pz pL eL) ?_)
    rw[Ql]
    change Nx _ (.nx [some (Qd n n P,false),some (.int w,true),some (.int n,true),some (Qd n n R,true),some (Qd n n Rb,true),some (Qb n len,true),some (Qd n n S,b6),some (.int L',true),some (.int (last:Int),true),some (.int part,true),j10])
    have hS:=λi j (hi:i<n) (hj:j<n)=>pp.1 i j hi hj
    refine QE (Qab (b:=decide (L'=1)) (QO (Qba (a:=L') (b:=1) (ra:=⟨.int L',true,[]⟩) rfl rfl rfl rfl) rfl) (λh=>?_) (λh=>Qu ?_))
    ·have h1:L'=1:=of_decide_eq_true h
     have:L=part:=by rw[eL,h1,Zah]
     refine QE ⟨_,rfl,R,Rb,len,_,_,_,_,_,rt.stop λi j hi hj=>by rw[this];exact hS i j hi hj,bR.mono (by omega),bB.mono (by omega),ll,rfl⟩
    have hone:L'≠1:=of_decide_eq_false h
    have hSq:∀i j,i<n->j<n->S i j=part*(S i j / part):=λi j hi hj=>(Int.mul_ediv_cancel' (hS i j hi hj)).symm
    obtain⟨r6',v6',d6'⟩:∃r:HS.R,Qa 6 [some (Qd n n P,false),some (.int w,true),some (.int n,true),some (Qd n n R,true),some (Qd n n Rb,true),some (Qb n len,true),some (Qd n n S,b6),some (.int L',true),some (.int (last:Int),true),some (.int part,true),j10]=some r/\r.d=Qd n n S:=by cases b6<;>exact⟨_,rfl,rfl⟩
    refine run_seq (Qg (r:=⟨Qd n n λi j=>S i j / part % L',true,[]⟩) (QF (toD:=λ(i:Nat)=>Qb n (S i)) (out:=λ(i:Nat)=>Qb n λj=>S i j / part % L') (List.range n) (Q6 v6' d6') rfl λi hi=>⟨[none,some (Qb n (S i),false),some (.int L',true),some (.int part,true)],rfl,⟨Qb n λj=>S i j / part % L',true,[]⟩,Qm (r:=⟨[Qb n λj=>S i j / part,.int L'],true,[]⟩) (Qj (r:=⟨Qb n λj=>S i j / part,true,[]⟩) (Qm (r:=⟨[Qb n (S i),.int part],false,[]⟩) rfl (hs n (S i) (λj=>S i j / part) part pz pL λj hj=>hSq i j (Zk.mp hi) hj) rfl) (Qj (r:=⟨.int L',true,[]⟩) rfl (QL _))) (hw n _ L' L0') rfl,rfl,rfl⟩) ?_)
    rw[Ql]
    refine run_seq (Qnz (x:=5) (m:=n) (f:=len) (i:=(last:Int)) (v:=L') (ri:=⟨.int (last:Int),true,[]⟩) (ra:=⟨.int L',true,[]⟩) rfl rfl rfl rfl rfl (by omega) (by omega) ?_)
    rw[ZW]
    change Nx _ (.nx [some (Qd n n P,false),some (.int w,true),some (.int n,true),some (Qd n n R,true),some (Qd n n Rb,true),some (Qb n (up len last L'),true),some (Qd n n λi j=>S i j / part % L',true),some (.int L',true),some (.int (last:Int),true),some (.int part,true),j10])
    have bS1:∀i j,i<n->j<n->0<=S i j / part % L'/\S i j / part % L'<L':=λi j _ _=>⟨ZH _ (by omega),ZD _ L0'⟩
    obtain⟨x,cc,fr,ef,FI⟩:=hf n (λi j=>S i j / part % L') L' n0 n8 L0' bS1
    obtain⟨T,B,g,ec,sp,bT,bBk⟩:=hc n last x hln n8 λi hi=>⟨(FI.bd i hi).1,by have:=(FI.bd i hi).2;omega⟩
    have hz:∀i j,last<i->i<n->j<n->S i j / part % L'=0:=λi j h1 h2 h3=>by rw[rt.low i j (by omega) h2 h3];simp
    have rt':=rt.step (Sq:=λi j=>S i j / part) (S1:=λi j=>S i j / part % L') (x:=x) (cc:=cc) (T:=T) (B:=B) (g:=g) p1 eL hSq (λi j _ _=>Int.dvd_self_sub_emod) hz (λt h1 h2=>by
     have a1:part*t∣part:=(hpd (part*t)).mpr ⟨λi j hi hj=>by rw[hSq i j hi hj];exact Int.mul_dvd_mul_left part (h2 i j hi hj),by rw[eL];exact Int.mul_dvd_mul_left part h1⟩
     have a2:t∣1:=Int.dvd_of_mul_dvd_mul_left pz (by rw[Zah];exact a1)
     have:=ZaK.mpr a2
     exact Nat.eq_one_of_dvd_one this) FI.mix (λi h1 h2=>by
     have a1:=FI.mix i h2
     rw[Qk (g:=λ_=>0) λj hj=>by rw[hz i j h1 h2 hj,ZG],Qb0,Int.sub_zero]at a1
     have a2:=FI.bd i h2
     rw[← ZbM a2.1 a2.2];exact Int.emod_eq_zero_of_dvd a1) FI.cop sp
    have ecf:=Qjz (n:=2) (dfl:=[]) (den:=df) (fs:=Qc (Qa 6) (Qc (Qa 7) Qf)) (ρ:=[some (Qd n n P,false),some (.int w,true),some (.int n,true),some (Qd n n R,true),some (Qd n n Rb,true),some (Qb n (up len last L'),true),some (Qd n n λi j=>S i j / part % L',true),some (.int L',true),some (.int (last:Int),true),some (.int part,true),j10]) (r:=⟨[Qd n n λi j=>S i j / part % L',.int L'],true,[6]⟩) rfl ef rfl
    have efree:∃r:HS.R,Qn 2 df [] (Qc (Qa 6) (Qc (Qa 7) Qf)) [some (Qd n n P,false),some (.int w,true),some (.int n,true),some (Qd n n R,true),some (Qd n n Rb,true),some (Qb n (up len last L'),true),some (Qd n n λi j=>S i j / part % L',true),some (.int L',true),some (.int (last:Int),true),some (.int part,true),j10]=some r/\r.d=Qb n x:=by
     cases fr
     ·exact⟨_,ecf,rfl⟩
     ·exact⟨_,ecf,rfl⟩
    obtain⟨rf,vf,dfx⟩:=efree
    refine run_seq (Qg (r:=⟨.tup [Qd n n T,Qd n n B],true,[]⟩) (Qm (r:=⟨[Qb n x,.int last],rf.fr && (true && true),rf.M++([]++[])⟩) ((Qj vf (Qj (r:=⟨.int last,true,[]⟩) rfl (QL _))).trans (by rw[dfx])) ec rfl) ?_)
    rw[Ql]
    change Nx _ (.nx [some (Qd n n P,false),some (.int w,true),some (.int n,true),some (Qd n n R,true),some (Qd n n Rb,true),some (Qb n (up len last L'),true),some (Qd n n λi j=>S i j / part % L',true),some (.int L',true),some (.int (last:Int),true),some (.int part,true),some (.tup [Qd n n T,Qd n n B],true)])
    have BT:Qaz n 16000 T:=bT
    have BB:Qaz n 16000 B:=bBk
    have kk:16003*k+16000+3=16003*(k+1):=by omega
    have B1:Qaz n 1999 λi j=>S i j / part % L':=λi j hi hj=>by
     show(S i j / part % L').natAbs<=2^1999
     have h3:(((S i j / part % L').natAbs:Nat):Int)<((2^1999:Nat):Int):=by rw[Int.natAbs_of_nonneg (bS1 i j hi hj).1];push_cast;have:=(bS1 i j hi hj).2;omega
     omega
    refine run_seq (Qg (r:=⟨Qd n n (prodF n R B),true,[]⟩) (Qm (r:=⟨[Qd n n R,Qd n n B],true,[3,10]⟩) rfl (hp n R B (by omega) (bR.bits (by omega)) (BB.bits (by decide))) rfl) ?_)
    rw[Ql]
    refine run_seq (Qg (r:=⟨Qd n n (prodF n T Rb),true,[]⟩) (Qm (r:=⟨[Qd n n T,Qd n n Rb],true,[10,4]⟩) rfl (hp n T Rb (by omega) (BT.bits (by decide)) (bB.bits (by omega))) rfl) ?_)
    rw[Ql]
    refine run_seq (Qg (r:=⟨Qd n n (prodF n T λi j=>S i j / part % L'),true,[]⟩) (Qm (r:=⟨[Qd n n T,Qd n n λi j=>S i j / part % L'],true,[10,6]⟩) rfl (hp n T _ (by omega) (BT.bits (by decide)) (B1.bits (by decide))) rfl) ?_)
    rw[Ql]
    change Nx _ (.nx [some (Qd n n P,false),some (.int w,true),some (.int n,true),some (Qd n n (prodF n R B),true),some (Qd n n (prodF n T Rb),true),some (Qb n (up len last L'),true),some (Qd n n (prodF n T λi j=>S i j / part % L'),true),some (.int L',true),some (.int (last:Int),true),some (.int part,true),some (.tup [Qd n n T,Qd n n B],true)])
    refine run_seq (Quk (x:=6) (n:=n) (N:=n) (k:=last) (g:=prodF n T λi j=>S i j / part % L') (p:=λ_=>0) rfl rfl (QeL (n:=n) (z:=0) (r:=⟨.int n,true,[]⟩) rfl rfl (by omega)) hln (Qu ?_))
    refine⟨_,_,_,up len last L',c*part,L',true,_,_,_,⟨by omega,?_,?_,?_,Ll',λj hj=>?_⟩,rfl⟩
    ·rw[show n-(k+1)=last by omega];exact rt'
    ·rw[← kk];exact bR.prod n8 BB
    ·rw[← kk,show 16003*k+16000+3=16000+16003*k+3 by omega];exact BT.prod n8 bB
    ·rw[QdG]
     split
     ·exact ll'
     ·exact ll j hj
   ·rintro ρ ⟨R,Rb,S,len,c,L,b6,j8,j9,j10,I,rfl⟩
    rw[Zu]at I
    obtain⟨kn,rt,bR,bB,Ll,ll⟩:=I
    rw[Nat.sub_self]at rt
    exact⟨R,Rb,len,_,_,_,_,_,rt.done,bR.mono (by omega),bB.mono (by omega),ll,rfl⟩
  ·rintro ρ ⟨R,Rb,len,j6,j7,j8,j9,j10,rg,b1,b2,ll,rfl⟩
   exact Qx (r:=⟨.tup [Qd n n R,Qd n n Rb,Qb n len],true,[3,4,5]⟩) rfl ⟨rfl,R,Rb,len,rfl,rg,b1,b2,ll⟩
 obtain⟨o,h1,h2⟩:=key
 cases o with
 | rt d fr=>
  obtain⟨rfl,R,Rb,len,rfl,h⟩:=h2
  exact⟨R,Rb,len,by show Option.bind (Qdo du di ds dw df dc dp [some (Qd n n P,false),some (.int w,true),none,none,none,none,none,none,none,none,none]) outD=_;rw[h1];rfl,h⟩
 | _=>exact h2.elim
theorem Qvz{n:Nat}{m:Nat->Nat->Int}{y:Nat->Int}(hd:det n m≠0)(h:∀r,r<n->sm n (λl=>y l*m l r)=0):∀k,k<n->y k=0:=λk hk=>by
 have e1:det n (cup m k λr=>sm n λl=>y l*m l r)=y k*det n m:=by
  rw[Qeo hk y m n,Qek hk λi hi ne=>by rw[QeN (i:=i) (j:=k) hi hk ne (by rw[QD,Qy _ _ ne]),ZG],Qal]
 have e2:det n (cup m k λr=>sm n λl=>y l*m l r)=0:=by
  rw[Qah (k:=cup m k λr=>0*m k r) λj hj r hr=>by
   by_cases e:j=k
   ·subst e;rw[QD,QD,h r hr,ZI]
   ·rw[Qy _ _ e,Qy _ _ e],Qfd hk,ZI]
 rw[e2]at e1
 rcases Int.mul_eq_zero.mp e1.symm with z | z
 ·exact z
 ·exact absurd z hd
theorem QrY{n:Nat}{A P:Nat->Nat->Int}{w:Int}(hd:(det n λj i=>A i j)≠0)(h:∀i j,i<n->j<n->prodF n A P i j=w*idF i j):∀i j,i<n->j<n->prodF n P A i j=w*idF i j:=λi j hi hj=>by
 have:=Qvz (n:=n) (m:=λj i=>A i j) (y:=λl=>prodF n P A l j-w*idF l j) hd (λr hr=>by
  rw[Qff]
  have e1:(Qi n λl=>(prodF n P A l j-w*idF l j)*A r l)=prodF n A (prodF n P A) r j-w*prodF n A idF r j:=by
   unfold prodF
   rw[← Q1,← Qg8]
   exact Qk λl _=>by grind
  rw[e1,← Qar,Qai (a':=λi j=>w*idF i j) (b':=A) (λk hk=>h r k hr hk) (λ_ _=>rfl),QfD _ _ hj]
  have e2:prodF n (λi j=>w*idF i j) A r j=w*prodF n idF A r j:=by
   unfold prodF
   rw[← Q1]
   exact Qk λl _=>ZJ _ _ _
  rw[e2,Qcb _ _ hr,Zbt]) i hi
 omega
structure Qg4 (n:Nat) (f Lf R Lb Rb:Nat->Nat->Int) (len:Nat->Int):Prop where
 u1:Qbk n R Rb
 u2:Qbk n Rb R
 v1:Qbk n Lf Lb
 v2:Qbk n Lb Lf
 mid:∀i j,i<n->j<n->prodF n (prodF n Lf f) R i j=len i*idF i j
 pos:∀j,j<n->0<len j
 nxt:∀j,j+1<n->len j∣len (j+1)
theorem QuO{n:Nat}{f P R Rb Lf Lb:Nat->Nat->Int}{w W:Int}{len:Nat->Int}(w0:w≠0)(hd:(det n λj i=>f i j)≠0)(hP:∀i j,i<n->j<n->prodF n f P i j=w*idF i j)(rg:QiM n f P W R Rb len)
  (hL:∀i j,i<n->j<n->len i*prodF n Rb P i j=w*Lf i j) (hB:∀i j,i<n->j<n->prodF n f R i j=len j*Lb i j):Qg4 n f Lf R Lb Rb len:=by
 have hPA:=QrY hd hP
 have key:∀i j,i<n->j<n->prodF n (prodF n Rb P) (prodF n f R) i j=w*idF i j:=λi j hi hj=>by
  rw[Qar,← Qar n P f R,Qai (a':=Rb) (b':=λi j=>w*R i j) (λ_ _=>rfl) λk hk=>?_]
  ·have:prodF n Rb (λi j=>w*R i j) i j=w*prodF n Rb R i j:=by
    unfold prodF
    rw[← Q1]
    exact Qk λl _=>ZK _ _ _
   rw[this,rg.u2 i j hi hj]
  ·rw[Qai (a':=λi j=>w*idF i j) (b':=R) (λl hl=>hPA k l hk hl) (λ_ _=>rfl)]
   have:prodF n (λi j=>w*idF i j) R k j=w*prodF n idF R k j:=by
    unfold prodF
    rw[← Q1]
    exact Qk λl _=>ZJ _ _ _
   rw[this,Qcb _ _ hk]
 have kL:∀i j,i<n->j<n->w*prodF n Lf (prodF n f R) i j=len i*(w*idF i j):=λi j hi hj=>by
  rw[← key i j hi hj]
  unfold prodF
  rw[← Q1,← Q1]
  refine Qk λk hk=>?_
  have:=hL i k hi hk
  unfold prodF at this
  rw[← ZJ,← this,ZJ]
 refine⟨rg.u1,rg.u2,λi j hi hj=>?_,λi j hi hj=>?_,λi j hi hj=>?_,rg.pos,rg.nxt⟩
 ·have h1:=kL i j hi hj
  have h2:prodF n Lf (prodF n f R) i j=len j*prodF n Lf Lb i j:=by
   unfold prodF
   rw[← Q1]
   refine Qk λk hk=>?_
   have:=hB k j hk hj
   unfold prodF at this
   rw[this,ZK]
  have lj:=rg.pos j hj
  have h3:w*len j*prodF n Lf Lb i j=w*len j*idF i j:=by
   rw[ZJ,← h2,h1]
   unfold idF
   by_cases e:i=j
   ·subst e;rw[if_pos rfl];grind
   ·rw[if_neg e];grind
  exact ZY (Int.mul_ne_zero w0 (by omega)) h3
 ·have h1:w*prodF n Lb Lf i j=w*idF i j:=by
   rw[← hP i j hi hj]
   have e:prodF n f P i j=prodF n (prodF n f R) (prodF n Rb P) i j:=by
    have hk':∀k,k<n->prodF n (prodF n R Rb) P k j=P k j:=λk hk=>by
     rw[Qai (a':=idF) (b':=P) (λl hl=>rg.u1 k l hk hl) (λ_ _=>rfl),Qcb _ _ hk]
    rw[Qar,← Qar n R Rb P]
    exact Qai (λ_ _=>rfl) λk hk=>(hk' k hk).symm
   rw[e]
   show w*Qi n (λk=>Lb i k*Lf k j)=Qi n λk=>prodF n f R i k*prodF n Rb P k j
   rw[← Q1]
   exact Qk λk hk=>by rw[hB i k hi hk,ZK,← hL k j hk hj];grind
  exact ZY w0 h1
 ·rw[Qar]
  have h1:=kL i j hi hj
  have:w*prodF n Lf (prodF n f R) i j=w*(len i*idF i j):=by rw[h1];exact ZK _ _ _
  exact ZY w0 this
noncomputable def QhF(QbT:Den)(QbA:Den)(QcP:Den)(Qad:Den)(Qb8:Den)(QaM:Den)(QaE:Den):DS:=(Qe (Qs 1 (Qn 1 QbT [] (Qc (Qa 0) Qf))) (Qe (Qs 2 (Qn 2 QbA [] (Qc (Qq (Qa 1) (dC (.int 0))) (Qc (Qq (Qa 1) (dC (.int 1))) Qf)))) (Qe (Qs 3 (Qao (Qq (Qa 2) (dC (.int 0))))) (Qe (Qs 4 (Qao (Qq (Qa 2) (dC (.int 1))))) (Qe (Qs 5 (Qao (Qq (Qa 2) (dC (.int 2))))) (Qe (Qs 6 (QI (QcD (Qn 1 Qad [] (Qc (dBf Qav (Qc (Qa 0) Qf)) Qf)) (Qa 5)) (.tp [1,2]) [none,none,none] QR (Qn 2 QcP [] (Qc (Qa 1) (Qc (Qa 2) Qf))))) (Qe (Qs 7 (QI (Q3 (Qn 2 QaM [] (Qc (Qa 6) (Qc (Qn 2 QaM [] (Qc (Qa 4) (Qc (Qq (Qa 1) (dC (.int 0))) Qf))) Qf)))) (.nm 1) [none,none,some 1] QR (Qn 2 Qb8 [] (Qc (Qa 1) (Qc (Qq (Qa 2) (dC (.int 1))) Qf))))) (Qe (Qs 8 (Qn 1 QaE [] (Qc (QI (QcD (Qn 1 QaE [] (Qc (Qn 2 QaM [] (Qc (Qa 0) (Qc (Qa 3) Qf))) Qf)) (Qa 5)) (.tp [1,2]) [none,none,none] QR (Qn 2 Qb8 [] (Qc (Qa 1) (Qc (Qa 2) Qf)))) Qf))) (Qe (QM (Qbb (Qc (Qa 7) (Qc (Qa 6) (Qc (Qa 3) (Qc (Qa 8) (Qc (Qa 4) Qf))))))) Qr)))))))))
noncomputable def Qau(len:Nat->Int):Nat->Nat->Int:=λi j=>len i*idF i j
def Qis(d:Den):Prop:=∀(n:Nat) (f:Nat->Nat->Int),0<n->n<=8->(∀i j,i<n->j<n->(f i j).natAbs<=2^240)->(det n λj i=>f i j)≠0->∃(Lf R Lb Rb:Nat->Nat->Int) (len:Nat->Int),d [Qd n n f]=some (.tup [Qd n n Lf,Qd n n (Qau len),Qd n n R,Qd n n Lb,Qd n n Rb],false)/\Qg4 n f Lf R Lb Rb len/\Qaz n 200000 Lf/\Qaz n 130000 R/\Qaz n 200000 Lb/\Qaz n 130000 Rb/\∀j,j<n->(len j).natAbs<2^1999
theorem Quy{db dr dn du ds dp dt:Den}(hb:QlP db)(hr:Qlh dr)(hn:Qk6 dn)(hu:Qg2 du)(hs:Qha ds)(hp:Qgc dp)(ht:Qet dt):Qis (Qo 9 (QhF db dr dn du ds dp dt)):=λn f n0 n8 hf hd=>by
 obtain⟨P,eb,hP,bP,wl⟩:=hb n f n8 hf hd
 obtain⟨w,hw⟩:∃w,w=det n λj i=>f i j:=⟨_,rfl⟩
 rw[← hw]at eb wl hd
 have hP:∀i j,i<n->j<n->prodF n f P i j=w*idF i j:=λi j hi hj=>by rw[hP i j hi hj,← hw]
 obtain⟨R,Rb,len,er,rg,bR,bB,ll⟩:=hr n f P w n0 n8 hd wl hP
 have wl':w.natAbs<2^2000:=Zcd wl (Nat.pow_lt_pow_right (by decide) (by decide))
 have ll':∀j,j<n->(len j).natAbs<2^2000:=λj hj=>Zcd (ll j hj) (Nat.pow_lt_pow_right (by decide) (by decide))
 obtain⟨Lf,hL⟩:∃Lf:Nat->Nat->Int,∀i j,i<n->j<n->len i*prodF n Rb P i j=w*Lf i j:=by
  refine⟨λi j=>len i*prodF n Rb P i j / w,λi j hi hj=>(Int.mul_ediv_cancel' ?_).symm⟩
  exact Int.natAbs_dvd.mp (rg.row j i hj hi)
 obtain⟨Lb,hB⟩:∃Lb:Nat->Nat->Int,∀i j,i<n->j<n->prodF n f R i j=len j*Lb i j:=
  ⟨λi j=>prodF n f R i j / len j,λi j hi hj=>(Int.mul_ediv_cancel' (rg.col i j hi hj)).symm⟩
 have BP:Qaz n 1999 P:=λi j hi hj=>Zbc (bP i j hi hj)
 have BQ:=bB.prod n8 BP
 have Bf:Qaz n 240 f:=hf
 have BM:=Bf.prod n8 bR
 have Bm:Qaz n 1999 (Qau len):=λi j hi hj=>by
  unfold Qau idF
  split
  ·rw[Zah];exact Zbc (ll i hi)
  ·rw[ZG];exact ZX _
 have BmQ:=Bm.prod n8 BQ
 have mQ:∀i j,i<n->j<n->prodF n (Qau len) (prodF n Rb P) i j=w*Lf i j:=λi j hi hj=>by
  rw[← hL i j hi hj]
  show(Qi n λk=>Qau len i k*prodF n Rb P k j)=_
  rw[Qbh hi λk hk ne=>by unfold Qau idF;rw[if_neg (Ne.symm ne),ZG,ZI]]
  unfold Qau idF
  rw[if_pos rfl,Zah]
 have dvL:∀a b c:Int,a=b*c->b≠0->c.natAbs<=a.natAbs:=λa b c h hb=>by
  rw[h,Zao]
  exact Nat.le_mul_of_pos_left _ (by omega)
 have BL:Qaz n 200000 Lf:=λi j hi hj=>Zx (dvL _ _ _ (mQ i j hi hj) hd) (BmQ.mono (l:=200000) (by decide) i j hi hj)
 have BLb:Qaz n 200000 Lb:=λi j hi hj=>Zx (dvL _ _ _ (hB i j hi hj) (by have:=rg.pos j hj;omega)) (BM.mono (l:=200000) (by decide) i j hi hj)
 refine⟨Lf,R,Lb,Rb,len,QW ?_,QuO hd (by rw[← hw];exact hd) hP rg hL hB,BL,bR,BLb,bB,ll⟩
 refine run_seq (Qg (r:=⟨.tup [Qd n n P,.int w],true,[]⟩) (Qm (r:=⟨[Qd n n f],false,[]⟩) rfl eb rfl) ?_)
 rw[Ql]
 refine run_seq (Qg (r:=⟨.tup [Qd n n R,Qd n n Rb,Qb n len],true,[]⟩) (Qm (r:=⟨[Qd n n P,.int w],true,[1]⟩) rfl er rfl) ?_)
 rw[Ql]
 refine run_seq (Qg (QaG (r:=⟨Qd n n R,true,[2]⟩) rfl) ?_)
 refine run_seq (Qg (QaG (r:=⟨Qd n n Rb,false,[]⟩) rfl) ?_)
 refine run_seq (Qg (QaG (r:=⟨Qb n len,false,[]⟩) rfl) ?_)
 change Nx _ (.nx [some (Qd n n f,false),some (.tup [Qd n n P,.int w],true),some (.tup [Qd n n R,Qd n n Rb,Qb n len],false),some (Qd n n R,false),some (Qd n n Rb,false),some (Qb n len,false),none,none,none])
 refine run_seq (Qg (r:=⟨Qd n n (Qau len),true,[]⟩) (QF (toD:=λ(i:Nat)=> .tup [Qb n (idF i),.int (len i)]) (out:=λ(i:Nat)=>Qb n (Qau len i)) (List.range n) (QbP (f:=λi=>Qb n (idF i)) (g:=λi=> .int (len i)) (Qm (r:=⟨[.int n],true,[]⟩) (Qj (Qdz (n:=n) (m:=n) (f:=f) (r:=⟨Qd n n f,false,[]⟩) rfl rfl) (QL _)) (hu n (by omega)) rfl) rfl (rb:=⟨Qb n len,false,[]⟩) rfl rfl) rfl λi hi=>⟨[none,some (Qb n (idF i),false),some (.int (len i),true)],rfl,⟨Qb n (Qau len i),true,[]⟩,Qm (r:=⟨[Qb n (idF i),.int (len i)],false,[]⟩) rfl (hn n (idF i) (len i) (QaU (ll' i (Zk.mp hi))) λj _=>QaU (by unfold idF;split<;>exact Zq (by decide) (ZF (n:=2) (by decide) (show 1<=2000 by decide)))) rfl,rfl,rfl⟩) ?_)
 rw[Ql]
 change Nx _ (.nx [some (Qd n n f,false),some (.tup [Qd n n P,.int w],true),some (.tup [Qd n n R,Qd n n Rb,Qb n len],false),some (Qd n n R,false),some (Qd n n Rb,false),some (Qb n len,false),some (Qd n n (Qau len),true),none,none])
 have eQ:Qn 2 dp [] (Qc (Qa 4) (Qc (Qq (Qa 1) (dC (.int 0))) Qf)) [some (Qd n n f,false),some (.tup [Qd n n P,.int w],true),some (.tup [Qd n n R,Qd n n Rb,Qb n len],false),some (Qd n n R,false),some (Qd n n Rb,false),some (Qb n len,false),some (Qd n n (Qau len),true),none,none]=some ⟨Qd n n (prodF n Rb P),true,[]⟩:=Qm (r:=⟨[Qd n n Rb,Qd n n P],false,[1]⟩) rfl (hp n Rb P (by omega) (bB.bits (by decide)) (BP.bits (by decide))) rfl
 have eMQ:Qn 2 dp [] (Qc (Qa 6) (Qc (Qn 2 dp [] (Qc (Qa 4) (Qc (Qq (Qa 1) (dC (.int 0))) Qf))) Qf)) [some (Qd n n f,false),some (.tup [Qd n n P,.int w],true),some (.tup [Qd n n R,Qd n n Rb,Qb n len],false),some (Qd n n R,false),some (Qd n n Rb,false),some (Qb n len,false),some (Qd n n (Qau len),true),none,none]=some ⟨Qd n n (prodF n (Qau len) (prodF n Rb P)),true,[]⟩:=Qm (r:=⟨[Qd n n (Qau len),Qd n n (prodF n Rb P)],true,[6]⟩) (Qj (r:=⟨Qd n n (Qau len),true,[6]⟩) rfl (Qj eQ (QL _))) (hp n _ _ (by omega) (Bm.bits (by decide)) (BQ.bits (by decide))) rfl
 refine run_seq (Qg (r:=⟨Qd n n Lf,true,[]⟩) (QF (toD:=λ(i:Nat)=>Qb n (prodF n (Qau len) (prodF n Rb P) i)) (out:=λ(i:Nat)=>Qb n (Lf i)) (List.range n) (Q6 eMQ rfl) rfl λi hi=>⟨[none,some (Qb n (prodF n (Qau len) (prodF n Rb P) i),false),some (.tup [Qd n n P,.int w],false)],rfl,⟨Qb n (Lf i),true,[]⟩,Qm (r:=⟨[Qb n (prodF n (Qau len) (prodF n Rb P) i),.int w],false,[]⟩) rfl (hs n _ (Lf i) w hd wl' λj hj=>mQ i j (Zk.mp hi) hj) rfl,rfl,rfl⟩) ?_)
 rw[Ql]
 change Nx _ (.nx [some (Qd n n f,false),some (.tup [Qd n n P,.int w],true),some (.tup [Qd n n R,Qd n n Rb,Qb n len],false),some (Qd n n R,false),some (Qd n n Rb,false),some (Qb n len,false),some (Qd n n (Qau len),true),some (Qd n n Lf,true),none])
 have eM:Qn 2 dp [] (Qc (Qa 0) (Qc (Qa 3) Qf)) [some (Qd n n f,false),some (.tup [Qd n n P,.int w],true),some (.tup [Qd n n R,Qd n n Rb,Qb n len],false),some (Qd n n R,false),some (Qd n n Rb,false),some (Qb n len,false),some (Qd n n (Qau len),true),some (Qd n n Lf,true),none]=some ⟨Qd n n (prodF n f R),true,[]⟩:=Qm (r:=⟨[Qd n n f,Qd n n R],false,[]⟩) rfl (hp n f R (by omega) (Bf.bits (by decide)) (bR.bits (by decide))) rfl
 have eT:Qn 1 dt [] (Qc (Qn 2 dp [] (Qc (Qa 0) (Qc (Qa 3) Qf))) Qf) [some (Qd n n f,false),some (.tup [Qd n n P,.int w],true),some (.tup [Qd n n R,Qd n n Rb,Qb n len],false),some (Qd n n R,false),some (Qd n n Rb,false),some (Qb n len,false),some (Qd n n (Qau len),true),some (Qd n n Lf,true),none]=some ⟨Qd n n (λj i=>prodF n f R i j),true,[]⟩:=Qm (r:=⟨[Qd n n (prodF n f R)],true,[]⟩) (Qj eM (QL _)) (ht n _ (by omega)) rfl
 refine run_seq (Qg (r:=⟨Qd n n Lb,true,[]⟩) (Qm (r:=⟨[Qd n n λj i=>Lb i j],true,[]⟩) (Qj (QF (toD:=λ(i:Nat)=> .tup [Qb n λj=>prodF n f R j i,.int (len i)]) (out:=λ(i:Nat)=>Qb n λj=>Lb j i) (List.range n) (QbP (f:=λi=>Qb n λj=>prodF n f R j i) (g:=λi=> .int (len i)) eT rfl (rb:=⟨Qb n len,false,[]⟩) rfl rfl) rfl λi hi=>⟨[none,some (Qb n (λj=>prodF n f R j i),false),some (.int (len i),true)],rfl,⟨Qb n λj=>Lb j i,true,[]⟩,Qm (r:=⟨[Qb n λj=>prodF n f R j i,.int (len i)],false,[]⟩) rfl (hs n _ (λj=>Lb j i) (len i) (by have:=rg.pos i (Zk.mp hi);omega) (ll' i (Zk.mp hi)) λj hj=>hB j i hj (Zk.mp hi)) rfl,rfl,rfl⟩) (QL _)) (ht n _ (by omega)) rfl) ?_)
 rw[Ql]
 exact Qx (r:=⟨.tup [Qd n n Lf,Qd n n (Qau len),Qd n n R,Qd n n Lb,Qd n n Rb],false,[7,6,8]⟩) rfl ⟨rfl,rfl⟩
structure Qbg (m n0:Nat) (T Lf Rt Lb Rb:Nat->Nat->Int) (len:Nat->Int):Prop where
 le:n0<=m
 sm:Qg4 m (QaF T) Lf Rt Lb Rb len
 one:∀j,j<n0->len j=1
 big:∀j,n0<=j->j<m->1<len j
 bR:Qaz m 130000 Rt
 bB:Qaz m 130000 Rb
 ll:∀j,j<m->(len j).natAbs<2^1999
def Qii(dr:Den)(m:Nat)(T Lf Rt Lb Rb:Nat->Nat->Int)(len:Nat->Int):Prop:=dr [Qd m m (QaF T)]=some (.tup [Qd m m Lf,Qd m m (Qau len),Qd m m Rt,Qd m m Lb,Qd m m Rb],false)
theorem QkJ{len:Nat->Int}:∀(m:Nat),(∀j,j<m->0<len j)->(∀j,j+1<m->len j∣len (j+1))->∃n0,n0<=m/\(∀j,j<n0->len j=1)/\∀j,n0<=j->j<m->1<len j
 | 0,_,_=>⟨0,Zi _,λj hj=>by omega,λj _ hj=>by omega⟩
 | m+1,hp,hn=>by
  obtain⟨n0,h1,h2,h3⟩:=QkJ m (λj hj=>hp j (by omega)) λj hj=>hn j (by omega)
  by_cases e:n0=m
  ·subst e
   by_cases z:len n0=1
   ·exact⟨n0+1,Zi _,λj hj=>by
     by_cases q:j=n0
     ·rw[q];exact z
     ·exact h2 j (by omega),λj a b=>by omega⟩
   ·exact⟨n0,by omega,h2,λj a b=>by rw[show j=n0 by omega];have:=hp n0 (by omega);omega⟩
  ·refine⟨n0,by omega,h2,λj a b=>?_⟩
   by_cases q:j=m
   ·subst q
    have d:=hn (j-1) (by omega)
    rw[show j-1+1=j by omega]at d
    have b1:=h3 (j-1) (by omega) (by omega)
    have:=Int.le_of_dvd (hp j (by omega)) d
    omega
   ·exact h3 j a (by omega)
theorem Qc7.QyV{m:Nat}{R L:List (Int×Int)}(hw:Qc7 m R L):(det m λj i=>QaF (QH m (QK R L)) i j)≠0:=by
 rw[Qtv]
 exact Qpx hw.big (Qpu hw.tp)
theorem Qsx{dr:Den}(hr:Qis dr){m:Nat}{R L:List (Int×Int)}(m0:0<m)(m8:m<=8)(hw:Qc7 m R L):∃n0 Lf Rt Lb Rb len,Qbg m n0 (QH m (QK R L)) Lf Rt Lb Rb len/\Qii dr m (QH m (QK R L)) Lf Rt Lb Rb len:=by
 obtain⟨Lf,Rt,Lb,Rb,len,e,sm,_,b2,_,b4,ll⟩:=hr m (QaF (QH m (QK R L))) m0 m8 (λi j hi hj=>Zx (hw.big i hi j hj) (ZF (by decide) (by decide))) hw.QyV
 obtain⟨n0,h1,h2,h3⟩:=QkJ m sm.pos sm.nxt
 exact⟨n0,Lf,Rt,Lb,Rb,len,⟨h1,sm,h2,h3,b2,b4,ll⟩,e⟩
theorem Qj0{len:Nat->Int}{m n0:Nat}(h1:n0<=m)(h2:∀j,j<n0->len j=1)(h3:∀j,n0<=j->j<m->1<len j):(List.range m).filter (λj=>decide (1<len j))=(List.range (m-n0)).map (n0+ ·):=by
 rw[show m=n0+(m-n0) by omega,List.range_add,List.filter_append,List.filter_eq_nil_iff.mpr λj hj=>?_,ZaT,Zbf.mpr λj hj=>?_]
 ·rw[show n0+(m-n0)-n0=m-n0 by omega]
 ·obtain⟨i,hi,rfl⟩:=ZT.mp hj
  have:=h3 (n0+i) (by omega) (by have:=Zk.mp hi;omega)
  simpa using this
 ·rw[h2 j (Zk.mp hj)];decide
noncomputable def QfS:DS:=(Qe (QM (QI (QgJ (Qa 0)) (.tp [1,2]) [none,none,none] QR (Qq (Qa 2) (Qa 1)))) Qr)
def QmK(d:Den):Prop:=∀(n:Nat) (len:Nat->Int),d [Qd n n (Qau len)]=some (Qb n len,true)
theorem QyC:QmK (Qo 1 QfS):=λn len=>
 QW (Qx (r:=⟨Qb n len,true,[]⟩) (QF (toD:=λ(i:Nat)=> .tup [.int i,Qb n (Qau len i)]) (out:=λ(i:Nat)=> .int (len i)) (List.range n) (Qoe (n:=n) (m:=n) (f:=Qau len) (ra:=⟨Qd n n (Qau len),false,[]⟩) rfl rfl) rfl λi hi=>⟨[none,some (.int i,true),some (Qb n (Qau len i),false)],rfl,⟨.int (len i),true,[]⟩,(Qaq (m:=n) (f:=Qau len i) (i:=i) (ra:=⟨Qb n (Qau len i),false,[]⟩) (rb:=⟨.int i,true,[]⟩) rfl rfl rfl rfl (Zk.mp hi)).trans (by unfold Qau idF;rw[if_pos rfl,Zah]),rfl,rfl⟩) ⟨rfl,rfl⟩)
noncomputable def QT(len:Nat->Int)(n0:Nat):Nat->Int:=λj=>len (n0+j)
noncomputable def Q0(m:Nat)(Rt:Nat->Nat->Int)(f:Nat->Int)(j:Nat):Int:=Qi m λi=>f i*Rt i j
noncomputable def Qh(m n0:Nat)(Rt:Nat->Nat->Int)(len:Nat->Int)(f:Nat->Int):Nat->Int:=λj=>Q0 m Rt f (n0+j) % len (n0+j)
def Qlu(d:Den):Prop:=∀(m:Nat) (R L:List (Int×Int)),m<=8->Qc7 m R L->d [QG m R L]=some (Qd m m (QaF (QH m (QK R L))),true)
theorem Qpt{d:Den}(h:QjN d):Qlu d:=λm R L m8 hw=>by
 have hg:=hw.good
 exact h m R L (by omega) (by omega) hg.1 hg.2.1
noncomputable def QgT(Qa6:Den)(Q8:Den)(Qat:Den):DS:=(Qe (Qs 1 (Qn 1 Q8 [] (Qc (Qn 1 Qa6 [] (Qc (Qa 0) Qf)) Qf))) (Qe (QM (QI (Q3 (Qn 1 Qat [] (Qc (Qq (Qa 1) (dC (.int 1))) Qf))) (.nm 1) [none,none] (QN (dOp gGt (Qa 1) (dC (.int 1)))) (Qa 1))) Qr))
def Qnq(dr d:Den):Prop:=∀(m:Nat) (R L:List (Int×Int)) (n0:Nat) (Lf Rt Lb Rb:Nat->Nat->Int) (len:Nat->Int),m<=8->Qc7 m R L->Qbg m n0 (QH m (QK R L)) Lf Rt Lb Rb len->Qii dr m (QH m (QK R L)) Lf Rt Lb Rb len->d [QG m R L]=some (Qb (m-n0) (QT len n0),true)
theorem QvH{dt dr dm:Den}(ht:Qlu dt)(hm:QmK dm):Qnq dr (Qo 2 (QgT dt dr dm)):=λm R L n0 Lf Rt Lb Rb len m8 hw nr re=>by
 have et:=ht m R L m8 hw
 generalize QH m (QK R L)=T at *
 refine QW ?_
 refine run_seq (Qg (r:=⟨.tup [Qd m m Lf,Qd m m (Qau len),Qd m m Rt,Qd m m Lb,Qd m m Rb],false,[]⟩) ((QfM (r:=⟨[Qd m m (QaF T)],true,[]⟩) (Qj (Qm (r:=⟨[QG m R L],false,[]⟩) rfl et rfl) (QL _)) re rfl).trans rfl) ?_)
 change Nx _ (.nx [some (QG m R L,false),some (.tup [Qd m m Lf,Qd m m (Qau len),Qd m m Rt,Qd m m Lb,Qd m m Rb],false)])
 refine Qx (r:=⟨Qb (m-n0) (QT len n0),true,[]⟩) ?_ ⟨rfl,rfl⟩
 refine(QdX (toD:=λ(i:Nat)=> .int (len i)) (keep:=λj=>decide (1<len j)) (out:=λ(i:Nat)=> .int (len i)) (List.range m) (Q6 (Qm (r:=⟨[Qd m m (Qau len)],false,[]⟩) rfl (hm m len) rfl) rfl) rfl λi hi=>⟨[none,some (.int (len i),true)],rfl,rfl,λ_=>⟨⟨.int (len i),true,[]⟩,rfl,rfl,rfl⟩⟩).trans ?_
 rw[Qj0 nr.le nr.one nr.big,Zag]
 rfl
noncomputable def QhY(QcQ:Den)(Qa6:Den)(Q8:Den)(QaE:Den)(Qb2:Den)(Qat:Den):DS:=(Qe (QiB (Qn 2 QcQ [] (Qc (Qa 0) (Qc (Qae (Qc (Qa 1) Qf)) Qf)))) (Qe (Qs 2 (Qn 1 Q8 [] (Qc (Qn 1 Qa6 [] (Qc (Qa 0) Qf)) Qf))) (Qe (Qs 3 (Qn 2 Qb2 [] (Qc (Qa 1) (Qc (Qn 1 QaE [] (Qc (Qq (Qa 2) (dC (.int 2))) Qf)) Qf)))) (Qe (QM (QI (QcD (Qa 3) (Qn 1 Qat [] (Qc (Qq (Qa 2) (dC (.int 1))) Qf))) (.tp [1,2]) [none,none,none] (QN (dOp gGt (Qa 2) (dC (.int 1)))) (dOp QaV (Qa 1) (Qa 2)))) Qr))))
def QfT(dr d:Den):Prop:=∀(m:Nat) (R L:List (Int×Int)) (n0:Nat) (Lf Rt Lb Rb:Nat->Nat->Int) (len f:Nat->Int),m<=8->Qc7 m R L->Qbg m n0 (QH m (QK R L)) Lf Rt Lb Rb len->Qii dr m (QH m (QK R L)) Lf Rt Lb Rb len->(∀i,i<m->Qbq (f i))->d [QG m R L,Qb m f]=some (Qb (m-n0) (Qh m n0 Rt len f),true)
theorem QsH{dn dt dr du dl dm:Den}(hn:Qob dn)(ht:Qlu dt)(hu:Qet du)(hl:Qhn dl)(hm:QmK dm):QfT dr (Qo 4 (QhY dn dt dr du dl dm)):=λm R L n0 Lf Rt Lb Rb len f m8 hw nr re hf=>by
 have et:=ht m R L m8 hw
 have en:=hn m R L [f]
 generalize QH m (QK R L)=T at *
 refine QW ?_
 refine run_seq (Que (Qm (r:=⟨[QG m R L,.lst [Qb m f]],false,[]⟩) rfl en rfl) ?_)
 refine run_seq (Qg (r:=⟨.tup [Qd m m Lf,Qd m m (Qau len),Qd m m Rt,Qd m m Lb,Qd m m Rb],false,[]⟩) ((QfM (r:=⟨[Qd m m (QaF T)],true,[]⟩) (Qj (Qm (r:=⟨[QG m R L],false,[]⟩) rfl et rfl) (QL _)) re rfl).trans rfl) ?_)
 change Nx _ (.nx [some (QG m R L,false),some (Qb m f,false),some (.tup [Qd m m Lf,Qd m m (Qau len),Qd m m Rt,Qd m m Lb,Qd m m Rb],false),none])
 refine run_seq (Qg (r:=⟨Qb m (Q0 m Rt f),true,[]⟩) (Qm (r:=⟨[Qb m f,Qd m m λj i=>Rt i j],false,[]⟩) (Qj (r:=⟨Qb m f,false,[]⟩) rfl (Qj (Qm (r:=⟨[Qd m m Rt],false,[]⟩) rfl (hu m Rt (by omega)) rfl) (QL _))) (hl m m f (λj i=>Rt i j) hf λj i hj hi=>nr.bR.bits (by decide) i j hi hj) rfl) ?_)
 rw[Ql]
 change Nx _ (.nx [some (QG m R L,false),some (Qb m f,false),some (.tup [Qd m m Lf,Qd m m (Qau len),Qd m m Rt,Qd m m Lb,Qd m m Rb],false),some (Qb m (Q0 m Rt f),true)])
 refine Qx (r:=⟨Qb (m-n0) (Qh m n0 Rt len f),true,[]⟩) ?_ ⟨rfl,rfl⟩
 refine(QdX (toD:=λ(i:Nat)=> .tup [.int (Q0 m Rt f i),.int (len i)]) (keep:=λj=>decide (1<len j)) (out:=λ(i:Nat)=> .int (Q0 m Rt f i % len i)) (List.range m) (QbP (f:=λi=> .int (Q0 m Rt f i)) (g:=λi=> .int (len i)) (ra:=⟨Qb m (Q0 m Rt f),true,[3]⟩) rfl rfl (Qm (r:=⟨[Qd m m (Qau len)],false,[]⟩) rfl (hm m len) rfl) rfl) rfl λi hi=>⟨[none,some (.int (Q0 m Rt f i),true),some (.int (len i),true)],rfl,rfl,λ_=>⟨⟨.int (Q0 m Rt f i % len i),true,[]⟩,QaD (a:=Q0 m Rt f i) (b:=len i) rfl rfl rfl rfl (nr.sm.pos i (Zk.mp hi)),rfl,rfl⟩⟩).trans ?_
 rw[Qj0 nr.le nr.one nr.big,Zag]
 rfl
section
variable {m n0:Nat}{T Lf Rt Lb Rb:Nat->Nat->Int}{len:Nat->Int}
theorem Qg4.ar{n:Nat}{f Lf R Lb Rb:Nat->Nat->Int}{len:Nat->Int}(h:Qg4 n f Lf R Lb Rb len){i j:Nat}(hi:i<n)(hj:j<n):prodF n f R i j=Lb i j*len j:=by
 have e1:prodF n Lb (prodF n (prodF n Lf f) R) i j=prodF n f R i j:=by
  rw[Qar n Lf f R,← Qar,Qai (a':=idF) (b':=prodF n f R) (λk hk=>h.v2 i k hi hk) (λ_ _=>rfl),Qcb _ _ hi]
 rw[← e1]
 show(Qi n λk=>Lb i k*prodF n (prodF n Lf f) R k j)=_
 rw[Qbh hj λk hk ne=>by rw[h.mid k j hk hj];unfold idF;rw[if_neg ne,ZG,ZG],h.mid j j hj hj]
 unfold idF
 rw[if_pos rfl,Zah]
theorem Qg4.la{n:Nat}{f Lf R Lb Rb:Nat->Nat->Int}{len:Nat->Int}(h:Qg4 n f Lf R Lb Rb len){i j:Nat}(hi:i<n)(hj:j<n):prodF n Lf f i j=len i*Rb i j:=by
 have e1:prodF n (prodF n (prodF n Lf f) R) Rb i j=prodF n Lf f i j:=by
  rw[Qar,Qai (a':=prodF n Lf f) (b':=idF) (λ_ _=>rfl) (λk hk=>h.u1 k j hk hj),QfD _ _ hj]
 rw[← e1]
 show(Qi n λk=>prodF n (prodF n Lf f) R i k*Rb k j)=_
 rw[Qbh hi λk hk ne=>by rw[h.mid i k hi hk];unfold idF;rw[if_neg (Ne.symm ne),ZG,ZI],h.mid i i hi hi]
 unfold idF
 rw[if_pos rfl,Zah]
theorem QoC(f g:Nat->Int)(x y:Int)(j:Nat):Q0 m Rt (λi=>x*f i+y*g i) j=x*Q0 m Rt f j+y*Q0 m Rt g j:=by
 unfold Q0
 exact Qfq m x y f g λi=>Rt i j
theorem QtI(nr:Qbg m n0 T Lf Rt Lb Rb len)(f c:Nat->Int){j:Nat}(hj:j<m):len j∣Q0 m Rt (QfO m T f c) j-Q0 m Rt f j:=by
 have e:Q0 m Rt (QfO m T f c) j-Q0 m Rt f j= -Qi m λl=>c l*prodF m (QaF T) Rt l j:=by
  unfold Q0
  rw[← Qg8,Qk (g:=λi=>Qi m λl=>c l*(T l i*Rt i j)) λi _=>by
   unfold QfO
   rw[ZaB,← QeO,Qk (g:=λl=>c l*(T l i*Rt i j)) λl _=>ZJ _ _ _]
   omega,Qdk,← Qhk]
  refine Qk λl _=>?_
  rw[Q1,← ZbN]
  congr 1
  show _= -Qi m λi=>QaF T l i*Rt i j
  rw[← Qhk]
  exact Qk λi _=>by unfold QaF;rw[ZaF,Zaw,Zco]
 rw[e]
 exact Int.dvd_neg.mpr (Qfr λl hl=>Int.dvd_mul_of_dvd_right (by rw[nr.sm.ar hl hj];exact Int.dvd_mul_left _ _))
theorem Qsh(nr:Qbg m n0 T Lf Rt Lb Rb len){y:Nat->Int}(h:∀j,j<m->len j∣Q0 m Rt y j):∃c:Nat->Int,∀r,r<m->y r=Qi m λl=>c l*QaF T l r:=by
 obtain⟨z,hz⟩:∃z:Nat->Int,∀j,j<m->Q0 m Rt y j=len j*z j:=⟨λj=>Q0 m Rt y j / len j,λj hj=>(Int.mul_ediv_cancel' (h j hj)).symm⟩
 refine⟨λl=>Qi m λj=>z j*Lf j l,λr hr=>?_⟩
 have e1:(Qi m λj=>Q0 m Rt y j*Rb j r)=y r:=by
  have:(Qi m λj=>Q0 m Rt y j*Rb j r)=Qi m λi=>y i*prodF m Rt Rb i r:=by
   unfold Q0 prodF
   rw[Qk (g:=λj=>Qi m λi=>y i*(Rt i j*Rb j r)) λj _=>by rw[← QeO];exact Qk λi _=>ZJ _ _ _,Qdk]
   exact Qk λi _=>Q1 m _ _
  rw[this,Qbh hr λi hi ne=>by rw[nr.sm.u1 i r hi hr];unfold idF;rw[if_neg ne,ZG],nr.sm.u1 r r hr hr]
  unfold idF
  rw[if_pos rfl,Zah]
 rw[← e1]
 have e2:(Qi m λl=>(Qi m λj=>z j*Lf j l)*QaF T l r)=Qi m λj=>z j*prodF m Lf (QaF T) j r:=by
  unfold prodF
  rw[Qk (g:=λl=>Qi m λj=>z j*(Lf j l*QaF T l r)) λl _=>by rw[← QeO];exact Qk λj _=>ZJ _ _ _,Qdk]
  exact Qk λj _=>Q1 m _ _
 show _=Qi m λl=>(Qi m λj=>z j*Lf j l)*QaF T l r
 rw[e2]
 exact Qk λj hj=>by rw[hz j hj,nr.sm.la hj hr];grind
theorem Qr0(nr:Qbg m n0 T Lf Rt Lb Rb len){f g:Nat->Int}(h:∀j,j<m-n0->Qh m n0 Rt len f j=Qh m n0 Rt len g j):∀j,j<m->len j∣Q0 m Rt f j-Q0 m Rt g j:=λj hj=>by
 by_cases z:j<n0
 ·rw[nr.one j z];exact Int.one_dvd _
 ·have e:=h (j-n0) (by omega)
  unfold Qh at e
  rw[show n0+(j-n0)=j by omega]at e
  have h1:=ZaY (Q0 m Rt f j) (len j)
  have h2:=ZaY (Q0 m Rt g j) (len j)
  exact⟨Q0 m Rt f j / len j-Q0 m Rt g j / len j,by rw[Zcp];omega⟩
end
end HS
namespace HS
open PySem L2
noncomputable def QgS:DS:=(Qe (QM (QI (Qay (Qa 2)) (.nm 1) [none,none,some 0,some 3,some 1] QR (dOp QaJ (dOp QaV (Qq (Qa 2) (QJ (Qa 4) (Qa 1))) (QJ (Qam (dC (.int 2)) (Qa 3)) (dC (.int 1)))) (Qa 3)))) Qr)
theorem Qh4:∀xs ys:List Int,PyData.eqvAll (pys (xs.map D.int)) (pys (ys.map D.int))=decide (xs=ys)
 | [],[]=>rfl
 | [],y::ys=>rfl
 | x::xs,[]=>rfl
 | x::xs,y::ys=>by
  have ih:=Qh4 xs ys
  show(PyData.eqv (D.int x).py (D.int y).py && PyData.eqvAll (pys (xs.map D.int)) (pys (ys.map D.int)))=_
  rw[ih]
  show((x == y) && decide (xs=ys))=_
  by_cases a:x=y
  ·subst a
   by_cases b:xs=ys
   ·subst b;simp
   ·simp[b]
  ·simp[a]
theorem Qs7{m k:Nat}{f g:Nat->Int}:deq (Qb m f) (Qb k g)=decide ((List.range m).map f=(List.range k).map g):=by
 rw[Qhm,Qhm]
 exact Qh4 _ _
theorem QwT{m:Nat}{f g:Nat->Int}:(List.range m).map f=(List.range m).map g↔∀j,j<m->f j=g j:=by
 constructor
 ·intro h j hj
  have:=congrArg (λl:List Int=>l[j]?) h
  simpa[hj]using this
 ·intro h
  exact ZL λj hj=>h j (Zk.mp hj)
theorem QsR{fa fb:DE}{ρ:En}{ra rb:HS.R}{m:Nat}{f g:Nat->Int}(ha:fa ρ=some ra)(ea:ra.d=Qb m f)(hb:fb ρ=some rb)(eb:rb.d=Qb m g):∃b,dOp gEq fa fb ρ=some ⟨.bl b,true,[]⟩/\(b=true↔∀j,j<m->f j=g j):=by
 refine⟨_,Qro ha hb (by rw[ea];exact QgZ 7 _ _) (by rw[eb];exact QgZ 7 _ _),?_⟩
 rw[ea,eb,Qs7,decide_eq_true_iff,QwT]
theorem QhU{fa fb:DE}{ρ:En}{ra rb:HS.R}{m:Nat}{f g:Nat->Int}(ha:fa ρ=some ra)(ea:ra.d=Qb m f)(hb:fb ρ=some rb)(eb:rb.d=Qb m g)(h:∀j,j<m->f j=g j):dOp gNe fa fb ρ=some ⟨.bl false,true,[]⟩:=Qsg (d:=Qb m g) ha (by rw[ea];exact Qd0 h) hb eb (QgZ 7 _ _)
theorem Qxo{fa fb:DE}{ρ:En}{a b:Bool}(ha:fa ρ=some ⟨.bl a,true,[]⟩)(hb:fb ρ=some ⟨.bl b,true,[]⟩):dOp gEq fa fb ρ=some ⟨.bl (decide (a=b)),true,[]⟩:=by
 refine(Qro ha hb (by cases a<;>rfl) (by cases b<;>rfl)).trans ?_
 cases a<;>cases b<;>rfl
def Qj6(d:Den):Prop:=∀(cs:List Int) (s m:Nat) (far:Int),s+m<=cs.length->m<=8->0<=far->∃g:Nat->Int,d [Qt cs,.int s,.int m,.int far]=some (Qb m g,true)/\∀j,j<m-> -far<=g j/\g j<=far
theorem Qv5:Qj6 (Qo 4 QgS):=λcs s m far hs hm hf=>by
 have cell:∀k:Nat,k<cs.length->cs[k]? =some (cs.getD k 0):=λk hk=>by
  rw[ZaI,ZU (by omega)];rfl
 refine⟨λk=>cs.getD (s+k) 0 % (2*far+1)-far,QW ?_,λj hj=>?_⟩
 ·refine Qx (r:=⟨Qb m λk=>cs.getD (s+k) 0 % (2*far+1)-far,true,[]⟩) (QF (toD:=λ(k:Nat)=> .int (k:Int)) (out:=λ(k:Nat)=> .int (cs.getD (s+k) 0 % (2*far+1)-far)) (List.range m) (QaL (n:=m) (r:=⟨.int m,true,[]⟩) rfl rfl (by omega)) rfl λk hk=>⟨[none,some (.int k,true),some (Qt cs,false),some (.int far,true),some (.int s,true)],rfl,⟨.int (cs.getD (s+k) 0 % (2*far+1)-far),true,[]⟩,?_,rfl,rfl⟩) ⟨rfl,rfl⟩
  have hk:=Zk.mp hk
  have e21:((s:Int)+(k:Int)).toNat=s+k:=by omega
  exact Qfw (a:=cs.getD (s+k) 0 % (2*far+1)) (b:=far) (QaD (a:=cs.getD (s+k) 0) (b:=2*far+1) (Qd5 (ns:=cs) (i:=(s:Int)+(k:Int)) (v:=cs.getD (s+k) 0) (ra:=⟨Qt cs,false,[]⟩) rfl rfl (Qaf (a:=(s:Int)) (b:=(k:Int)) (ra:=⟨.int s,true,[]⟩) (rb:=⟨.int k,true,[]⟩) rfl rfl rfl rfl) rfl (by omega) (by rw[e21];exact cell _ (by omega))) rfl (Qaf (a:=2*far) (b:=1) (QaC (a:=2) (b:=far) (ra:=⟨.int 2,true,[]⟩) (rb:=⟨.int far,true,[]⟩) rfl rfl rfl rfl (QdB (by decide))) rfl (Qdd _ _) rfl) rfl (by omega)) rfl (rb:=⟨.int far,true,[]⟩) rfl rfl
 ·have h1:=ZH (cs.getD (s+j) 0) (by omega:2*far+1≠0)
  have h2:=ZD (cs.getD (s+j) 0) (by omega:0<2*far+1)
  show-far<=cs.getD (s+j) 0 % (2*far+1)-far/\cs.getD (s+j) 0 % (2*far+1)-far<=far
  omega
noncomputable def Qex(QcU:Den)(Qc5:Den):DS:=(Qe (Qs 1 (QJ (dC (.int 1)) (dOp QaV (Qq (Qa 0) (dC (.int 0))) (dC (.int 4))))) (Qe (Qs 2 (dOp QaV (Qq (Qa 0) (dC (.int 1))) (dC (.int 6)))) (Qe (Qs 3 (Qn 5 Qc5 [] (Qc (Qn 3 QcU [] (Qc (Qax (Qa 0) (QY (dC (.int 3))) (QY (dC (.int 7)))) (Qc (Qa 1) (Qc (Qa 2) Qf)))) (Qc (Qax (Qa 0) (QY (dC (.int 7))) (QY (QJ (dC (.int 7)) (dOp QaV (Qq (Qa 0) (dC (.int 2))) (dC (.int 9)))))) (Qc (Qa 1) (Qc (Qa 2) (Qc (dC (.int 300)) Qf))))))) (Qe (Qs 4 (QI (Q3 (Qa 3)) (.tp [1,2,3]) [none,none,none,none] (Qcy (QN (Qa 3))) (Qbb (Qc (dBf Qkb (Qc (Qa 1) (Qc (Qa 2) Qf))) (Qc (dBf QkN (Qc (Qa 1) (Qc (Qa 2) Qf))) Qf))))) (Qe (Qs 5 (QI (Q3 (Qa 3)) (.tp [1,2,3]) [none,none,none,none] (QN (Qa 3)) (Qbb (Qc (Qa 1) (Qc (Qa 2) Qf))))) (Qe (QM (Qbb (Qc (Qa 1) (Qc (Qa 4) (Qc (Qa 5) Qf))))) Qr))))))
def Qly(d:Den):Prop:=∀cs:List Int,cs.length=30->(∀c∈cs,0<=c/\c<B40)->∃(m:Nat) (R L:List (Int×Int)),d [Qt cs]=some (QG m R L,true)/\0<m/\m<=4/\Qc7 m R L
theorem QuK{db dm:Den}(hb:QkW db)(hm:Qle dm):Qly (Qo 6 (Qex db dm)):=λcs hl hcs=>by
 have cell:∀k:Nat,k<30->∃c,cs[k]? =some c/\0<=c/\c<B40:=λk hk=>⟨cs[k]'(by omega),ZU (by omega),hcs _ (ZbY _)⟩
 obtain⟨c0,e0,p0,_⟩:=cell 0 (by decide)
 obtain⟨c1,e1,p1,_⟩:=cell 1 (by decide)
 obtain⟨c2,e2,p2,_⟩:=cell 2 (by decide)
 have b1:=ZH c0 (by decide:(4:Int)≠0)
 have b2:=ZD c0 (by decide:(0:Int)<4)
 obtain⟨m,em⟩:∃m:Nat,(m:Int)=1+c0 % 4:=⟨(1+c0 % 4).toNat,by omega⟩
 have key:Run (Qex db dm) (QbS 6 [Qt cs]) (Rt λd fr=>∃R L,d=QG m R L/\fr=true/\Qc7 m R L):=by
  have idx:∀{ρ:En}(k:Nat) (c:Int),ρ[0]? =some (some (Qt cs,false))->cs[k]? =some c->Qq (Qa 0) (dC (.int k)) ρ=some ⟨.int c,true,[]⟩:=λ{ρ} k c h0 hc=>Qd5 (ns:=cs) (i:=k) (Qbi h0) rfl (Qdd _ _) rfl (by omega) (by simpa using hc)
  refine run_seq (Qg (Qaf (a:=1) rfl rfl (QaD (b:=4) (idx 0 c0 rfl e0) rfl rfl rfl (by decide)) rfl) ?_)
  rw[Ql,← em]
  refine run_seq (Qg (QaD (b:=6) (idx 1 c1 rfl e1) rfl rfl rfl (by decide)) ?_)
  rw[Ql]
  generalize c1 % 6=kind
  obtain⟨W0,hbase,lW0,gW0,esc0⟩:=hb m ((cs.drop (min 3 cs.length)).take (min 7 cs.length-min 3 cs.length)) kind (by omega) (by omega) (by rw[Zad,ZaH];omega) λc hc=>hcs c (Qpz hc)
  have d1:=ZH c2 (by decide:(9:Int)≠0)
  have d2:=ZD c2 (by decide:(0:Int)<9)
  obtain⟨q,eq⟩:∃q:Nat,(q:Int)=7+c2 % 9:=⟨(7+c2 % 9).toNat,by omega⟩
  have eh:QJ (dC (.int 7)) (dOp QaV (Qq (Qa 0) (dC (.int 2))) (dC (.int 9))) [some (Qt cs,false),some (.int m,true),some (.int kind,true),none,none,none]=some ⟨.int q,true,[]⟩:=by
   rw[eq]
   exact Qaf (a:=7) rfl rfl (QaD (a:=c2) (b:=9) (idx 2 c2 rfl e2) rfl (rb:=⟨.int 9,true,[]⟩) rfl rfl (by decide)) rfl
  have esl:=Qpv (cs:=cs) (a:=7) (b:=q) (fa:=Qa 0) (fl:=dC (.int 7)) (ρ:=[some (Qt cs,false),some (.int m,true),some (.int kind,true),none,none,none]) (ra:=⟨Qt cs,false,[]⟩) rfl rfl rfl rfl eh rfl
  generalize efu:(cs.drop (min 7 cs.length)).take (min q cs.length-min 7 cs.length)=fu at esl
  have hfu:∀c∈fu,0<=c/\c<B40:=λc hc=>hcs c (by rw[← efu]at hc;exact Qpz hc)
  have lfu:fu.length<=30:=by rw[← efu,Zad,ZaH];omega
  obtain⟨W,fr,hmore,lW,gW,sub⟩:=hm m W0 fu kind 300 (by omega) (by omega) (by omega) gW0 hfu
  have eargs:Qc (Qn 3 db [] (Qc (Qax (Qa 0) (QY (dC (.int 3))) (QY (dC (.int 7)))) (Qc (Qa 1) (Qc (Qa 2) Qf)))) (Qc (Qax (Qa 0) (QY (dC (.int 7))) (QY (QJ (dC (.int 7)) (dOp QaV (Qq (Qa 0) (dC (.int 2))) (dC (.int 9)))))) (Qc (Qa 1) (Qc (Qa 2) (Qc (dC (.int 300)) Qf)))) [some (Qt cs,false),some (.int m,true),some (.int kind,true),none,none,none]=some ⟨[QZ W0,Qt fu,.int m,.int kind,.int 300],true,[]⟩:=
   Qj (Qm (Qj (Qpv (cs:=cs) (a:=3) (b:=7) (ra:=⟨Qt cs,false,[]⟩) rfl rfl rfl rfl rfl rfl) (Qj (r:=⟨.int m,true,[]⟩) rfl (Qj (r:=⟨.int kind,true,[]⟩) rfl (QL _)))) hbase rfl) (Qj esl (Qj (r:=⟨.int m,true,[]⟩) rfl (Qj (r:=⟨.int kind,true,[]⟩) rfl (Qj (r:=⟨.int 300,true,[]⟩) rfl (QL _)))))
  refine run_seq (Qg (Qjz eargs hmore rfl) ?_)
  rw[QrP rfl]
  refine run_seq (Qg (QuI (W:=W) (Qbi (b:=fr) rfl) (by cases fr<;>rfl)) ?_)
  rw[Ql]
  refine run_seq (Qg (Qtf (W:=W) (Qbi (b:=fr) rfl) (by cases fr<;>rfl)) ?_)
  rw[Ql]
  exact Qx (r:=⟨QG m (Qc4 W) (Qdq W),true,[4,5]⟩) rfl ⟨Qc4 W,Qdq W,rfl,rfl,W,esc0.mono sub,gW,by omega,rfl,rfl⟩
 obtain⟨o,h1,h2⟩:=key
 cases o with
 | rt d fr=>
  obtain⟨R,L,rfl,rfl,h3⟩:=h2
  exact⟨m,R,L,by unfold Qo;rw[h1];rfl,by omega,by omega,h3⟩
 | _=>exact h2.elim
def QjP(d:Den):Prop:=∀(n:Nat) (A:Nat->Nat->Int) (g:Nat->Int),1<=n->n<=4->(∀j,j<n->∀r,r<n->(A j r).natAbs<=2^200)->(∀r,r<n->(g r).natAbs<=2^200)->det n A≠0->∃b,d [Qd n n A,Qb n g]=some (.bl b,true)/\(b=true↔∀k,k<n->det n A∣det n (cup A k g))
theorem QsE{dm:Den}(hm:Qeg 4 dm):QjP (Qo 4 (QcI dm)):=λn A g h1 h4 hA hg nz=>by
 have e0:=hm n A h1 h4 (by omega) hA
 have key:Run (QcI dm) [some (Qd n n A,false),some (Qb n g,false),none,none] λo=>match o with | .rt d fr=>fr=true/\∃b,d= .bl b/\(b=true↔∀k,k<n->det n A∣det n (cup A k g)) | _=>False:=by
  refine run_seq (Qg (Qm (r:=⟨[Qd n n A],false,[]⟩) rfl e0 rfl) ?_)
  rw[Ql]
  refine QE (QaI (toD:=λ(k:Nat)=> .int (k:Int)) (List.range n) (λi ρ=>∃j3,(∀k,k<i->det n A∣det n (cup A k g))/\ρ=[some (Qd n n A,false),some (Qb n g,false),some (.int (det n A),true),j3]) (QaL (n:=n) (Qdz (n:=n) (m:=n) (f:=A) (r:=⟨Qd n n A,false,[]⟩) rfl rfl) rfl (by omega)) rfl ⟨none,λk hk=>by omega,rfl⟩ ?_ ?_)
  ·rintro k k' ρ hk ⟨j3,hd,rfl⟩
   have hk':k<n/\k=k':=by
    obtain⟨h1,h2⟩:=Zf.mp hk
    simp at h1 h2;exact⟨h1,h2⟩
   obtain⟨hkn,rfl⟩:=hk'
   refine⟨[some (Qd n n A,false),some (Qb n g,false),some (.int (det n A),true),some (.int k,true)],rfl,?_⟩
   obtain⟨r1,q1,d1⟩:=QnQ (fa:=Qa 0) (fb:=Qa 3) (ρ:=[some (Qd n n A,false),some (Qb n g,false),some (.int (det n A),true),some (.int k,true)]) (ra:=⟨Qd n n A,false,[]⟩) (xs:=(List.range n).map λi=>Qb n (A i)) (n:=k) rfl rfl (rb:=⟨.int k,true,[]⟩) rfl rfl (by simp;omega)
   obtain⟨r2,q2,d2⟩:=QoD (fa:=Qa 0) (fb:=QJ (Qa 3) (dC (.int 1))) (ρ:=[some (Qd n n A,false),some (Qb n g,false),some (.int (det n A),true),some (.int k,true)]) (ra:=⟨Qd n n A,false,[]⟩) (xs:=(List.range n).map λi=>Qb n (A i)) (n:=k+1) rfl rfl (Qaf (a:=(k:Int)) (b:=1) (ra:=⟨.int k,true,[]⟩) rfl rfl (Qdd _ _) rfl) rfl (by simp;omega)
   obtain⟨r3,q3,d3⟩:=Qjh (fb:=Qae (Qc (Qa 1) Qf)) (ys:=[Qb n g]) q1 d1 (rb:=⟨.lst [Qb n g],false,[]⟩) rfl rfl (by simp;omega)
   obtain⟨r4,q4,d4⟩:=Qjh q3 d3 q2 d2 (by simp;omega)
   rw[QuM hkn]at d4
   have e1:=hm n (cup A k g) h1 h4 (by omega) λj hj r hr=>by
    by_cases z:j=k
    ·subst z;rw[QD];exact hg r hr
    ·rw[Qy _ _ z];exact hA j hj r hr
   have ed:(QaX (det n (cup A k g)) (det n A)=0)↔det n A∣det n (cup A k g):=by
    rw[show QaX (det n (cup A k g)) (det n A)=(det n (cup A k g)).fmod (det n A)from QgV _ _]
    exact⟨Int.dvd_of_fmod_eq_zero,Int.fmod_eq_zero_of_dvd⟩
   refine QE (Qab (b:= !decide (QaX (det n (cup A k g)) (det n A)=0)) (QO (QdF (a:=QaX (det n (cup A k g)) (det n A)) (b:=0) (ra:=⟨.int (QaX (det n (cup A k g)) (det n A)),true,[]⟩) (Qb4 (d:= .int (QaX (det n (cup A k g)) (det n A))) (ra:=⟨.int (det n (cup A k g)),true,[]⟩) (rb:=⟨.int (det n A),true,[]⟩) (Qm (Qj q4 (QL _)) (by rw[d4];exact e1) rfl) rfl (by show(if det n A≠0 then some (D.int (QaX (det n (cup A k g)) (det n A)))else none)=_;rw[if_pos nz])) rfl (Qdd _ _) rfl) rfl) (λh=>?_) (λh=>Qu (Qu ⟨_,λl hl=>?_,rfl⟩)))
   ·have z:¬det n A∣det n (cup A k g):=λy=>by rw[← ed]at y;simp[y]at h
    exact QE (QbX (r:=⟨.bl false,true,[]⟩) rfl ⟨rfl,false,rfl,⟨(λy=>nomatch y),λy=>absurd (y k hkn) z⟩⟩)
   ·have z:det n A∣det n (cup A k g):=ed.mp (by simpa using h)
    by_cases e:l=k
    ·rw[e];exact z
    ·exact hd l (by omega)
  ·rintro ρ ⟨j3,hd,rfl⟩
   rw[Zu]at hd
   exact Qx (r:=⟨.bl true,true,[]⟩) rfl ⟨rfl,true,rfl,λ_=>hd,λ_=>rfl⟩
 obtain⟨o,k1,k2⟩:=key
 cases o with
 | rt d fr=>
  obtain⟨rfl,b,rfl,hb⟩:=k2
  exact⟨b,by show Option.bind (QcI dm [some (Qd n n A,false),some (Qb n g,false),none,none]) outD=_;rw[k1];rfl,hb⟩
 | _=>exact k2.elim
theorem Qsj{n:Nat}{A:Nat->Nat->Int}{g:Nat->Int}(nz:det n A≠0):(∀k,k<n->det n A∣det n (cup A k g))↔∃c:Nat->Int,∀r,r<n->g r=Qi n λl=>c l*A l r:=by
 constructor
 ·intro h
  obtain⟨c,hc⟩:∃c:Nat->Int,∀k,k<n->det n (cup A k g)=det n A*c k:=⟨λk=>det n (cup A k g) / det n A,λk hk=>(Int.mul_ediv_cancel' (h k hk)).symm⟩
  refine⟨c,λr hr=>ZY nz ?_⟩
  rw[QkL A g hr,Qff,← Q1]
  exact Qk λl hl=>by rw[hc l hl,ZJ]
 ·rintro⟨c,hc⟩ k hk
  rw[QtE (v:=c) hk λr hr=>by rw[hc r hr,Qff]]
  exact Int.dvd_mul_left _ _
theorem Qso{x m:Nat}{a:D}{f g:Nat->Int}{fi fa:DE}{ρ:En}{i:Int}{v:Int}{ri ra:R}{Q:Out->Prop}(hx:ρ[x]? =some (some (.lst [a,Qb m f,Qb m g],true)))(hi:fi ρ=some ri)(ei:ri.d= .int i)(ha:fa ρ=some ra)(ea:ra.d= .int v)(h0:0<=i)(h:i<m)
  (q:Q (.nx (ρ.set x (some (.lst [a,Qb m (up f i.toNat v),Qb m g],true))))):Run (Qbr x (Qbs Q7 (dC (.int 1))) fi fa) ρ Q:=by
 refine⟨_,?_,q⟩
 have hn:ra.norm=⟨.int v,true,[]⟩:=by unfold R.norm;rw[ea];rfl
 unfold Qbr
 rw[ha,Za,hx]
 have hp:Qbs Q7 (dC (.int 1)) ρ=some [1]:=rfl
 have hd:QaS (.lst [a,.lst ((List.range m).map λi=>D.int (f i)),.lst ((List.range m).map λi=>D.int (g i))]) [1]=some (.lst ((List.range m).map λi=>D.int (f i))):=rfl
 have hu':∀d,QaR [1] (.lst [a,.lst ((List.range m).map λi=>D.int (f i)),.lst ((List.range m).map λi=>D.int (g i))]) d= .lst [a,d,.lst ((List.range m).map λi=>D.int (g i))]:=λd=>rfl
 simp only[hp,Za,hi,ei,Qb,hd,Zp,Zu,QbB h0 h,hn,ea,QiH,hu']
 simp[kill]
noncomputable def Qe5(QaA:Den):DS:=(Qe (sIf (Qcy (QN (Qn 2 QaA [] (Qc (Qa 0) (Qc (dBf Qav (Qc (Qa 1) Qf)) Qf))))) (Qe (QM (dC (.bl false))) Qr) Qr) (Qe (QM (dOp gEq (dBf Qav (Qc (QI (Qay (dBf Qav (Qc (Qa 1) Qf))) (.nm 1) [none,none,some 0,some 1] (QfQ gLe gLt (dC (.int 0)) (Qq (Qa 2) (Qa 1)) (Qq (Qa 3) (Qa 1))) (Qa 1)) Qf)) (dBf Qav (Qc (Qa 1) Qf)))) Qr))
def Qef(d:Den):Prop:=∀(k:Nat) (p l:Nat->Int),k<=1000->(∀j,j<k->0<=p j/\p j<l j)->d [Qb k p,Qb k l]=some (.bl true,true)
theorem Qpi{dn:Den}(hn:QkG dn):Qef (Qo 2 (Qe5 dn)):=λk p l hk h=>by
 refine QW ?_
 refine QE (Qab (b:=false) (QbF (b:=true) (QO (b:=true) (Qm (Qj (r:=⟨Qb k p,false,[]⟩) rfl (Qj (Qd2 (m:=k) (f:=l) (r:=⟨Qb k l,false,[]⟩) rfl rfl) (QL _))) (hn k p) rfl) rfl)) (λh=>by cases h) (λ_=>Qu ?_))
 have ec:=QdX (fi:=Qay (dBf Qav (Qc (Qa 1) Qf))) (t:= .nm 1) (cap:=[none,none,some 0,some 1]) (ft:=QfQ gLe gLt (dC (.int 0)) (Qq (Qa 2) (Qa 1)) (Qq (Qa 3) (Qa 1))) (fe:=Qa 1) (ρ:=[some (Qb k p,false),some (Qb k l,false)])
  (toD:=λ(j:Nat)=> .int (j:Int)) (keep:=λ_=>true) (out:=λ(j:Nat)=> .int (j:Int)) (List.range k) (QaL (n:=k) (Qd2 (m:=k) (f:=l) (r:=⟨Qb k l,false,[]⟩) rfl rfl) rfl (by omega)) rfl λj hj=>⟨[none,some (.int j,true),some (Qb k p,false),some (Qb k l,false)],rfl,Qtc (a:=0) (b:=p j) (c:=l j) (ra:=⟨.int 0,true,[]⟩) rfl rfl (Qaq (m:=k) (f:=p) (i:=j) (ra:=⟨Qb k p,false,[]⟩) (rb:=⟨.int j,true,[]⟩) rfl rfl rfl rfl (Zk.mp hj)) rfl (Qaq (m:=k) (f:=l) (i:=j) (ra:=⟨Qb k l,false,[]⟩) (rb:=⟨.int j,true,[]⟩) rfl rfl rfl rfl (Zk.mp hj)) rfl (h j (Zk.mp hj)).1 (h j (Zk.mp hj)).2,λ_=>⟨⟨.int j,true,[]⟩,rfl,rfl,rfl⟩⟩
 rw[Zbf.mpr λ_ _=>rfl]at ec
 refine Qx (r:=⟨.bl true,true,[]⟩) ((Qba (a:=k) (b:=k) (Qd2 (m:=k) (f:=λj=>(j:Int)) ec rfl) rfl (Qd2 (m:=k) (f:=l) (r:=⟨Qb k l,false,[]⟩) rfl rfl) rfl).trans ?_) ⟨rfl,rfl⟩
 simp
theorem QiZ{x y l:Int}(h:l∣x-y):x % l=y % l:=(Zbd).mpr (Int.emod_eq_zero_of_dvd h)
theorem QeT{m n0:Nat}{T Lf Rt Lb Rb:Nat->Nat->Int}{len:Nat->Int}(nr:Qbg m n0 T Lf Rt Lb Rb len)(f:Nat->Int):∀j,j<m-n0->0<=Qh m n0 Rt len f j/\Qh m n0 Rt len f j<QT len n0 j:=λj hj=>by
 have:=nr.big (n0+j) (by omega) (by omega)
 unfold Qh QT
 exact⟨ZH _ (by omega),ZD _ (by omega)⟩
noncomputable def Qbn(i:Nat):Nat->Int:=λj=>if j=i then 1 else 0
theorem QwO{fm fk:DE}{ρ:En}{m i:Nat}(hk:fk ρ=some ⟨.int i,true,[]⟩)(hm:fm ρ=some ⟨.int m,true,[]⟩)(hi:i<m)(m8:m<=100):QJ (QJ (Qam (Qae (Qc (dC (.int 0)) Qf)) fk) (Qae (Qc (dC (.int 1)) Qf))) (Qam (Qae (Qc (dC (.int 0)) Qf)) (dOp QaJ (dOp QaJ fm (dC (.int 1))) fk)) ρ=some ⟨Qb m (Qbn i),true,[]⟩:=by
 have e1:=QjK (fb:=dC (.int 1)) (x:=1) (QeL (fb:=fk) (n:=i) (z:=0) hk rfl (by omega)) rfl (m:=i) (f:=λ_=>0) rfl (by omega)
 have e2:=QeL (fb:=dOp QaJ (dOp QaJ fm (dC (.int 1))) fk) (ρ:=ρ) (n:=m-1-i) (z:=0) (r:=⟨.int ((m-1-i:Nat):Int),true,[]⟩) ((Qfw (a:=(m:Int)-1) (b:=i) (Qfw (a:=m) (b:=1) hm rfl (Qdd _ _) rfl) rfl hk rfl).trans (by rw[show(m:Int)-1-i=((m-1-i:Nat):Int) by omega])) rfl (by omega)
 refine(QjG (m:=i+1) (k:=m-1-i) e1 rfl e2 rfl (by omega)).trans ?_
 rw[show i+1+(m-1-i)=m by omega]
 congr 2
 refine Qd0 λj hj=>?_
 unfold Qbn
 rw[QdG]
 by_cases z:j<i+1
 ·rw[if_pos z]
 ·rw[if_neg z,if_neg (by omega)]
theorem Qr8{m:Nat}{Rt:Nat->Nat->Int}{i:Nat}(hi:i<m)(j:Nat):Q0 m Rt (Qbn i) j=Rt i j:=by
 unfold Q0 Qbn
 rw[QaQ hi,ZQ]
noncomputable def Qec(QX:Den)(Q4:Den):DS:=(Qe (Qs 3 (Qam (Qae (Qc (dC (.int 0)) Qf)) (dBf Qav (Qc (Qa 2) Qf)))) (Qe (Qbt (Qay (Qq (Qa 0) (dC (.int 0)))) (.nm 4) (Qe (Qs 5 (Qn 2 QX [] (Qc (Qa 0) (Qc (QJ (QJ (Qam (Qae (Qc (dC (.int 0)) Qf)) (Qa 4)) (Qae (Qc (dC (.int 1)) Qf))) (Qam (Qae (Qc (dC (.int 0)) Qf)) (dOp QaJ (dOp QaJ (Qq (Qa 0) (dC (.int 0))) (dC (.int 1))) (Qa 4)))) Qf)))) (Qe (sIf (Qcy (QN (Qn 2 Q4 [] (Qc (Qa 5) (Qc (Qa 2) Qf))))) (Qe (QM (dC .non)) Qr) Qr) (Qe (Qs 3 (QI (QgE (Qa 3) (Qa 5) (Qa 2)) (.tp [1,2,3]) [none,none,none,none,some 4,some 1] QR (dOp QaV (QJ (Qa 1) (Qam (Qq (Qa 5) (Qa 4)) (Qa 2))) (Qa 3)))) Qr)))) (Qe (QM (Qa 3)) Qr)))
def Qhp(dr d:Den):Prop:=∀(m:Nat) (R L:List (Int×Int)) (n0:Nat) (Lf Rt Lb Rb:Nat->Nat->Int) (len f:Nat->Int),m<=8->Qc7 m R L->Qbg m n0 (QH m (QK R L)) Lf Rt Lb Rb len->Qii dr m (QH m (QK R L)) Lf Rt Lb Rb len->(∀i,i<m->(f i).natAbs<2^64)->d [QG m R L,Qb m f,Qb (m-n0) (QT len n0)]=some (Qb (m-n0) (Qh m n0 Rt len f),true)
theorem Qpc{dr dp dl:Den}(hp:QfT dr dp)(hl:Qef dl):Qhp dr (Qo 6 (Qec dp dl)):=λm R L n0 Lf Rt Lb Rb len f m8 hw nr re hf=>by
 have le:=nr.le
 have ep:∀i,dp [QG m R L,Qb m (Qbn i)]=some (Qb (m-n0) (Qh m n0 Rt len (Qbn i)),true):=λi=>hp m R L n0 Lf Rt Lb Rb len (Qbn i) m8 hw nr re λj _=>Qe9 (by unfold Qbn;split<;>decide)
 generalize QH m (QK R L)=T at *
 obtain⟨S,hS⟩:∃S:Nat->Nat->Int,S=λi j=>(Qi i λl=>f l*Rt l (n0+j)) % len (n0+j):=⟨_,rfl⟩
 refine QW ?_
 refine run_seq (Qg (QeL (n:=m-n0) (z:=0) (Qd2 (m:=m-n0) (f:=QT len n0) (r:=⟨Qb (m-n0) (QT len n0),false,[]⟩) rfl rfl) rfl (by omega)) ?_)
 rw[Ql]
 have e0:(Qb (m-n0) λ_=>0)=Qb (m-n0) (S 0):=Qd0 λj _=>by rw[hS];show(0:Int)=0 % _;rw[Int.zero_emod]
 rw[e0]
 refine QaK (P:=λρ=>∃j4 j5,ρ=[some (QG m R L,false),some (Qb m f,false),some (Qb (m-n0) (QT len n0),false),some (Qb (m-n0) (S m),true),j4,j5]) ?_ ?_
 ·refine QaI (toD:=λ(k:Nat)=> .int (k:Int)) (List.range m) (λi ρ=>∃j4 j5,ρ=[some (QG m R L,false),some (Qb m f,false),some (Qb (m-n0) (QT len n0),false),some (Qb (m-n0) (S i),true),j4,j5]) (QaL (n:=m) (r:=⟨.int m,true,[]⟩) rfl rfl (by omega)) rfl ⟨none,none,rfl⟩ ?_ ?_
  ·rintro i i' ρ hi ⟨j4,j5,rfl⟩
   have hi':i<m/\i=i':=by
    obtain⟨h1,h2⟩:=Zf.mp hi
    simp at h1 h2;exact⟨h1,h2⟩
   obtain⟨him,rfl⟩:=hi'
   refine⟨[some (QG m R L,false),some (Qb m f,false),some (Qb (m-n0) (QT len n0),false),some (Qb (m-n0) (S i),true),some (.int i,true),j5],rfl,?_⟩
   refine run_seq (Qg (r:=⟨Qb (m-n0) (Qh m n0 Rt len (Qbn i)),true,[]⟩) (Qm (Qj (r:=⟨QG m R L,false,[]⟩) rfl (Qj (QwO (m:=m) (i:=i) rfl rfl him (by omega)) (QL _))) (ep i) rfl) ?_)
   rw[Ql]
   refine QE (Qab (b:=false) (QbF (b:=true) (QO (b:=true) (Qm (r:=⟨[Qb (m-n0) (Qh m n0 Rt len (Qbn i)),Qb (m-n0) (QT len n0)],false,[5]⟩) rfl (hl (m-n0) _ _ (by omega) (QeT nr (Qbn i))) rfl) rfl)) (λh=>by cases h) (λ_=>Qu ?_))
   refine run_seq (Qg (r:=⟨Qb (m-n0) (S (i+1)),true,[]⟩) ?_ (Qu ⟨_,_,rfl⟩))
   refine QF (toD:=λ(j:Nat)=> .tup [.int (S i j),.int (Qh m n0 Rt len (Qbn i) j),.int (QT len n0 j)]) (out:=λ(j:Nat)=> .int (S (i+1) j)) (List.range (m-n0)) (Qnl (f:=λj=> .int (S i j)) (g:=λj=> .int (Qh m n0 Rt len (Qbn i) j)) (h:=λj=> .int (QT len n0 j)) (ra:=⟨Qb (m-n0) (S i),true,[3]⟩) (rb:=⟨Qb (m-n0) (Qh m n0 Rt len (Qbn i)),true,[5]⟩) (rc:=⟨Qb (m-n0) (QT len n0),false,[]⟩) rfl rfl rfl rfl rfl rfl) rfl λj hj=>⟨[none,some (.int (S i j),true),some (.int (Qh m n0 Rt len (Qbn i) j),true),some (.int (QT len n0 j),true),some (.int i,true),some (Qb m f,false)],rfl,⟨.int (S (i+1) j),true,[]⟩,?_,rfl,rfl⟩
   have hj:=Zk.mp hj
   have lp:=nr.big (n0+j) (by omega) (by omega)
   refine(QaD (a:=S i j+f i*Qh m n0 Rt len (Qbn i) j) (b:=QT len n0 j) (Qaf (a:=S i j) (b:=f i*Qh m n0 Rt len (Qbn i) j) rfl rfl (QaC (a:=f i) (b:=Qh m n0 Rt len (Qbn i) j) (Qaq (m:=m) (f:=f) (i:=i) (ra:=⟨Qb m f,false,[]⟩) (rb:=⟨.int i,true,[]⟩) rfl rfl rfl rfl him) rfl rfl rfl (QdB (hf i him))) rfl) rfl rfl rfl (by unfold QT;omega)).trans ?_
   have es:(S i j+f i*Qh m n0 Rt len (Qbn i) j) % QT len n0 j=S (i+1) j:=by
    unfold Qh QT
    rw[Qr8 him,hS]
    show((Qi i λl=>f l*Rt l (n0+j)) % len (n0+j)+f i*(Rt i (n0+j) % len (n0+j))) % len (n0+j)=(Qi (i+1) λl=>f l*Rt l (n0+j)) % len (n0+j)
    rw[Qag]
    generalize (Qi i λl=>f l*Rt l (n0+j))=s
    generalize Rt i (n0+j)=r
    generalize len (n0+j)=l
    refine QiZ ?_
    have h1:=ZaY s l
    have h2:=ZaY r l
    refine⟨-(s / l)-f i*(r / l),?_⟩
    generalize s % l=s1 at *
    generalize r % l=r1 at *
    generalize s / l=s2 at *
    generalize r / l=r2 at *
    grind
   rw[es]
  ·rintro ρ ⟨j4,j5,rfl⟩
   rw[Zu]
   exact⟨_,_,rfl⟩
 ·rintro ρ ⟨j4,j5,rfl⟩
  refine Qx (r:=⟨Qb (m-n0) (S m),true,[3]⟩) rfl ⟨?_,rfl⟩
  rw[hS];rfl
noncomputable def QbJ(Qa8:Den):DS:=(Qe (Qs 2 (Qn 4 Qa8 [] (Qc (Qa 0) (Qc (dC (.int 15)) (Qc (Qa 1) (Qc (Qam (dC (.int 4)) (dOp Qfv (dC (.int 10)) (dC (.int 17)))) Qf)))))) (Qe (Qs 3 (Qn 4 Qa8 [] (Qc (Qa 0) (Qc (dC (.int 19)) (Qc (Qa 1) (Qc (Qam (dC (.int 4)) (dOp Qfv (dC (.int 10)) (dC (.int 17)))) Qf)))))) (Qe (sIf (QN (dOp gEq (dOp QaV (Qq (Qa 0) (dC (.int 27))) (dC (.int 3))) (dC (.int 1)))) (Qe (Qs 4 (dOp QaV (Qq (Qa 0) (dC (.int 28))) (Qa 1))) (Qe (Qs 3 (QJ (QJ (Qax (Qa 2) Qas (QY (Qa 4))) (Qae (Qc (QJ (Qq (Qa 2) (Qa 4)) (dOp QaV (Qq (Qa 0) (dC (.int 29))) (dC (.int 3)))) Qf))) (Qax (Qa 2) (QY (QJ (Qa 4) (dC (.int 1)))) Qas))) Qr)) Qr) (Qe (QM (Qae (Qc (Qa 2) (Qc (Qa 3) Qf)))) Qr))))
theorem Qx2{fr fa fv:DE}{ρ:En}{rr:HS.R}{m i:Nat}{f:Nat->Int}{v:Int}(hr:fr ρ=some rr)(er:rr.d=Qb m f)(ha:fa ρ=some ⟨.int i,true,[]⟩)(hv:fv ρ=some ⟨.int v,true,[]⟩)(hi:i<m)(hm:m<=100):QJ (QJ (Qax fr Qas (QY fa)) (Qae (Qc fv Qf))) (Qax fr (QY (QJ fa (dC (.int 1)))) Qas) ρ=some ⟨Qb m (up f i v),true,[]⟩:=by
 have e1:=QjK (fb:=fv) (x:=v) (QlB (m:=m) (n:=i) (f:=f) hr er ha rfl (by omega)) rfl (m:=i) (f:=f) hv (by omega)
 have e2:=Qju (fb:=QJ fa (dC (.int 1))) (m:=m) (n:=i+1) (f:=f) hr er (Qaf (a:=(i:Int)) (b:=1) ha rfl (Qdd _ _) rfl) rfl (by omega)
 refine(QjG (m:=i+1) (k:=m-(i+1)) e1 rfl e2 rfl (by omega)).trans ?_
 rw[show i+1+(m-(i+1))=m by omega]
 congr 2
 refine Qd0 λj hj=>?_
 by_cases z:j<i+1
 ·rw[if_pos z]
 ·rw[if_neg z,QdG,if_neg (by omega),show i+1+(j-(i+1))=j by omega]
def Qjs(d:Den):Prop:=∀(cs:List Int) (m:Nat),cs.length=30->(∀c∈cs,0<=c/\c<B40)->0<m->m<=4->∃a b:Nat->Int,d [Qt cs,.int m]=some (.lst [Qb m a,Qb m b],true)/\(∀j,j<m->(a j).natAbs<2^60)/\∀j,j<m->(b j).natAbs<2^60
theorem QrS{dr:Den}(hr:Qj6 dr):Qjs (Qo 5 (QbJ dr)):=λcs m hl hcs m0 m4=>by
 have cell:∀k:Nat,k<30->∃c,cs[k]? =some c/\0<=c/\c<B40:=λk hk=>⟨cs[k]'(by omega),ZU (by omega),hcs _ (ZbY _)⟩
 obtain⟨c27,e27,p27,_⟩:=cell 27 (by decide)
 obtain⟨c28,e28,p28,_⟩:=cell 28 (by decide)
 obtain⟨c29,e29,p29,_⟩:=cell 29 (by decide)
 obtain⟨a,ea,ha⟩:=hr cs 15 m (4*10^17) (by omega) (by omega) (by decide)
 obtain⟨b,eb,hb⟩:=hr cs 19 m (4*10^17) (by omega) (by omega) (by decide)
 have key:Run (QbJ dr) [some (Qt cs,false),some (.int m,true),none,none,none] (Rt λd fr=>fr=true/\∃b,d= .lst [Qb m a,Qb m b]/\∀j,j<m->(b j).natAbs<2^60):=by
  have idx:∀{ρ:En}(k:Nat) (c:Int),ρ[0]? =some (some (Qt cs,false))->cs[k]? =some c->Qq (Qa 0) (dC (.int k)) ρ=some ⟨.int c,true,[]⟩:=λ{ρ} k c h0 hc=>Qd5 (ns:=cs) (i:=k) (Qbi h0) rfl (Qdd _ _) rfl (by omega) (by simpa using hc)
  have efar:∀ρ:En,Qam (dC (.int 4)) (dOp Qfv (dC (.int 10)) (dC (.int 17))) ρ=some ⟨.int (4*10^17),true,[]⟩:=λρ=>QaC (a:=4) (b:=10^17) rfl rfl (QpC (a:=10) (k:=17) (by decide) (by decide)) rfl (QdB (by decide))
  refine run_seq (Qg (r:=⟨Qb m a,true,[]⟩) (Qm (Qj (r:=⟨Qt cs,false,[]⟩) rfl (Qj (r:=⟨.int (15:Nat),true,[]⟩) rfl (Qj (r:=⟨.int m,true,[]⟩) rfl (Qj (efar _) (QL _))))) ea rfl) ?_)
  rw[Ql]
  refine run_seq (Qg (r:=⟨Qb m b,true,[]⟩) (Qm (Qj (r:=⟨Qt cs,false,[]⟩) rfl (Qj (r:=⟨.int (19:Nat),true,[]⟩) rfl (Qj (r:=⟨.int m,true,[]⟩) rfl (Qj (efar _) (QL _))))) eb rfl) ?_)
  rw[Ql]
  change Nx _ (.nx [some (Qt cs,false),some (.int m,true),some (Qb m a,true),some (Qb m b,true),none])
  refine QaK (P:=λρ=>∃(b:Nat->Int) (j4:Option (D×Bool)),(∀j,j<m->(b j).natAbs<2^60)/\ρ=[some (Qt cs,false),some (.int m,true),some (Qb m a,true),some (Qb m b,true),j4]) ?_ ?_
  ·refine Qab (b:=decide (c27 % 3=1)) (QO (Qba (a:=c27 % 3) (b:=1) (QaD (a:=c27) (b:=3) (idx 27 c27 rfl e27) rfl rfl rfl (by decide)) rfl rfl rfl) rfl) (λ_=>?_) (λ_=>?_)
   ·have q1:=ZH c28 (by omega:(m:Int)≠0)
    have q2:=ZD c28 (by omega:(0:Int)<m)
    obtain⟨i,ei⟩:∃i:Nat,c28 % (m:Int)=i:=⟨(c28 % (m:Int)).toNat,by omega⟩
    refine run_seq (Qg (r:=⟨.int i,true,[]⟩) ((QaD (a:=c28) (b:=m) (idx 28 c28 rfl e28) rfl (rb:=⟨.int m,true,[]⟩) rfl rfl (by omega)).trans (by rw[ei])) ?_)
    rw[Ql]
    change Nx _ (.nx [some (Qt cs,false),some (.int m,true),some (Qb m a,true),some (Qb m b,true),some (.int i,true)])
    refine run_seq (Qg (r:=⟨Qb m (up a i (a i+c29 % 3)),true,[]⟩) (Qx2 (m:=m) (i:=i) (f:=a) (v:=a i+c29 % 3) (rr:=⟨Qb m a,true,[2]⟩) rfl rfl rfl (Qaf (a:=a i) (b:=c29 % 3) (Qaq (m:=m) (f:=a) (i:=i) (ra:=⟨Qb m a,true,[2]⟩) (rb:=⟨.int i,true,[]⟩) rfl rfl rfl rfl (by omega)) rfl (QaD (a:=c29) (b:=3) (idx 29 c29 rfl e29) rfl rfl rfl (by decide)) rfl) (by omega) (by omega)) (Qu ?_))
    rw[Ql]
    refine⟨up a i (a i+c29 % 3),_,λj hj=>?_,rfl⟩
    have s1:=ZH c29 (by decide:(3:Int)≠0)
    have s2:=ZD c29 (by decide:(0:Int)<3)
    rw[QdG]
    split
    ·have:=ha i (by omega);omega
    ·have:=ha j hj;omega
   ·exact Qu ⟨b,_,λj hj=>by have:=hb j hj;omega,rfl⟩
  ·rintro ρ ⟨b,j4,hb,rfl⟩
   exact Qx (r:=⟨.lst [Qb m a,Qb m b],true,[2,3]⟩) rfl ⟨rfl,b,rfl,hb⟩
 obtain⟨o,h1,h2⟩:=key
 cases o with
 | rt d fr=>
  obtain⟨rfl,b,rfl,hb⟩:=h2
  exact⟨a,b,by show Option.bind (QbJ dr [some (Qt cs,false),some (.int m,true),none,none,none]) outD=_;rw[h1];rfl,λj hj=>by have:=ha j hj;omega,hb⟩
 | _=>exact h2.elim
theorem Qhq{m:Nat}{Rt:Nat->Nat->Int}{f g:Nat->Int}(h:∀i,i<m->f i=g i)(j:Nat):Q0 m Rt f j=Q0 m Rt g j:=Qk λi hi=>by rw[h i hi]
section
variable {m n0:Nat}{T Lf Rt Lb Rb:Nat->Nat->Int}{len:Nat->Int}
theorem QlT(nr:Qbg m n0 T Lf Rt Lb Rb len)(f c:Nat->Int):∀j,j<m-n0->Qh m n0 Rt len (QfO m T f c) j=Qh m n0 Rt len f j:=λj hj=>QiZ (QtI nr f c (by omega))
theorem Qsc(nr:Qbg m n0 T Lf Rt Lb Rb len)(f g:Nat->Int):∀j,j<m-n0->Qh m n0 Rt len (λi=>f i+g i) j=(Qh m n0 Rt len f j+Qh m n0 Rt len g j) % QT len n0 j:=λj hj=>by
 unfold Qh QT
 have e:=QoC (m:=m) (Rt:=Rt) f g 1 1 (n0+j)
 rw[ZQ,ZQ,Qhq (g:=λi=>f i+g i) (λi _=>by rw[ZQ,ZQ])]at e
 rw[e,← Int.add_emod]
theorem Qrf(nr:Qbg m n0 T Lf Rt Lb Rb len)(f g:Nat->Int):(∀j,j<m-n0->Qh m n0 Rt len f j=Qh m n0 Rt len g j)↔∃c:Nat->Int,∀r,r<m->f r-g r=Qi m λl=>c l*QaF T l r:=by
 constructor
 ·intro h
  refine Qsh nr λj hj=>?_
  have e:=QoC (m:=m) (Rt:=Rt) f g 1 (-1) j
  rw[ZQ,Qhq (g:=λi=>f i-g i) (λi _=>by omega)]at e
  rw[e,show Q0 m Rt f j+ -1*Q0 m Rt g j=Q0 m Rt f j-Q0 m Rt g j by omega]
  exact Qr0 nr h j hj
 ·rintro⟨c,hc⟩ j hj
  have e:∀r,r<m->f r=QfO m T g (λl=> -c l) r:=λr hr=>by
   show f r=g r+Qi m λl=> -c l*T l r
   have:=hc r hr
   rw[Qk (g:=λl=> -c l*T l r) λl _=>by unfold QaF;rw[ZaF,ZbN,Zaw]]at this
   omega
  unfold Qh
  rw[Qhq e]
  exact QlT nr g (λl=> -c l) j hj
end
theorem Qwo{m:Nat}{T:Nat->Nat->Int}{f c:Nat->Int}{F C:Nat}(hf:∀j,j<m->(f j).natAbs<=F)(hc:∀j,j<m->(c j).natAbs<=C)(hT:∀i j,i<m->j<m->(T i j).natAbs<=600):∀j,j<m->(QfO m T f c j).natAbs<=F+m*(C*600):=λj hj=>by
 unfold QfO
 have h1:=ZaZ (f j) (Qi m λi=>c i*T i j)
 have h2:(Qi m λi=>c i*T i j).natAbs<=m*(C*600):=Qoc λi hi=>by rw[Zao];exact Zbv (hc i hi) (hT i j hi hj)
 have h3:=hf j hj
 omega
noncomputable def Qf3(Qci:Den)(QX:Den)(Q4:Den)(QbU:Den)(QaZ:Den)(Qct:Den):DS:=(Qe (Qs 5 (Qn 1 Qci [] (Qc (Qa 0) Qf))) (Qe (Qs 6 (QI (Q3 (Qa 5)) (.nm 1) [none,none] QR (QI (Q3 (Qa 1)) (.nm 1) [none,none] QR (dOp QaJ (dC (.int 0)) (Qa 1))))) (Qe (Qs 7 (Qn 2 QX [] (Qc (Qa 0) (Qc (Qa 1) Qf)))) (Qe (Qs 8 (Qn 2 QX [] (Qc (Qa 0) (Qc (Qa 2) Qf)))) (Qe (sIf (bOr (Qcy (QN (Qn 2 Q4 [] (Qc (Qa 7) (Qc (Qa 3) Qf))))) (Qcy (QN (Qn 2 Q4 [] (Qc (Qa 8) (Qc (Qa 3) Qf)))))) (Qe (QM (dC (.bl false))) Qr) Qr) (Qe (Qs 9 (dList (Qc (Qa 7) Qf))) (Qe (sIf (bOr (QN (dOp gNe (Qn 2 QX [] (Qc (Qa 0) (Qc (Qn 3 QbU [] (Qc (Qa 5) (Qc (Qa 1) (Qc (Qa 4) Qf)))) Qf))) (Qa 7))) (QN (dOp gNe (Qn 3 QaZ [] (Qc (Qa 0) (Qc (Qa 1) (Qc (Qa 3) Qf)))) (Qa 7)))) (Qe (QM (dC (.bl false))) Qr) Qr) (Qe (Qs 10 (Qn 2 QX [] (Qc (Qa 0) (Qc (QI (QcD (Qa 1) (Qa 2)) (.tp [1,2]) [none,none,none] QR (QJ (Qa 1) (Qa 2))) Qf)))) (Qe (Qs 11 (QI (QgE (Qa 7) (Qa 8) (Qa 3)) (.tp [1,2,3]) [none,none,none,none] QR (dOp QaV (QJ (Qa 1) (Qa 2)) (Qa 3)))) (Qe (sIf (bOr (Qcy (QN (Qn 2 Q4 [] (Qc (Qa 10) (Qc (Qa 3) Qf))))) (bOr (QN (dOp gNe (Qa 10) (Qa 11))) (QN (dOp gNe (Qa 7) (Qa 9))))) (Qe (QM (dC (.bl false))) Qr) Qr) (Qe (Qs 12 (Qn 2 Qct [] (Qc (Qa 6) (Qc (QI (QcD (Qa 1) (Qa 2)) (.tp [1,2]) [none,none,none] QR (dOp QaJ (Qa 1) (Qa 2))) Qf)))) (Qe (QM (dOp gEq (dOp gEq (Qa 7) (Qa 8)) (Qa 12))) Qr))))))))))))
def QjD(dr d:Den):Prop:=∀(m:Nat) (R L:List (Int×Int)) (n0:Nat) (Lf Rt Lb Rb:Nat->Nat->Int) (len a b c:Nat->Int),0<m->m<=4->Qc7 m R L->Qbg m n0 (QH m (QK R L)) Lf Rt Lb Rb len->Qii dr m (QH m (QK R L)) Lf Rt Lb Rb len->(∀i,i<m->(a i).natAbs<2^60)->(∀i,i<m->(b i).natAbs<2^60)->(∀i,i<m->(c i).natAbs<=10^14)->d [QG m R L,Qb m a,Qb m b,Qb (m-n0) (QT len n0),Qb m c]=some (.bl true,true)
set_option maxHeartbeats 0 in
theorem Qrx{dr dt dp dl db dg da:Den}(ht:TabsOk dt)(hp:QfT dr dp)(hl:Qef dl)(hb:Qhv db)(hg:Qhp dr dg)(ha:QjP da):QjD dr (Qo 13 (Qf3 dt dp dl db dg da)):=λm R L n0 Lf Rt Lb Rb len a b c m0 m4 hw nr re ba bb bc=>by
 have gd:=hw.good
 have tp:=hw.tp
 have et:=ht m R L m0 (by omega) (by omega) gd.1 gd.2.1
 have hp':=λf=>hp m R L n0 Lf Rt Lb Rb len f (by omega) hw nr re
 have eg:=hg m R L n0 Lf Rt Lb Rb len a (by omega) hw nr re λi hi=>by have:=ba i hi;omega
 have hnz:det m (QaF (QH m (QK R L)))≠0:=Qpx hw.big (Qpu tp)
 have hbig:=hw.big
 have small:=λi j (hi:i<m) (hj:j<m)=>hw.small hi hj
 have le:=nr.le
 generalize QH m (QK R L)=T at *
 have eb:=hb m T a c m0 (by omega) (λi j hi hj=>by have:=small i j hi hj;omega)
 have bits:∀f:Nat->Int,(∀i,i<m->(f i).natAbs<=2^100)->∀i,i<m->Qbq (f i):=λf h i hi=>Qe9 (Zap (h i hi) (Nat.pow_lt_pow_right (by decide) (by decide)))
 have pa:=hp' a (bits a λi hi=>by have:=ba i hi;omega)
 have pb:=hp' b (bits b λi hi=>by have:=bb i hi;omega)
 have pc:=hp' (QfO m T a c) (bits _ λi hi=>by
  have:=Qwo (F:=2^60) (C:=10^14) (λj hj=>Zbc (ba j hj)) bc (λi j hi hj=>small i j hi hj) i hi
  have:m*(10^14*600)<=4*(10^14*600):=Zbb _ m4
  omega)
 have pd:=hp' (λi=>a i+b i) (bits _ λi hi=>by have:=ba i hi;have:=bb i hi;show(a i+b i).natAbs<=_;omega)
 obtain⟨q,eq,hq⟩:=ha m (QaF T) (λi=>a i-b i) (by omega) m4 hbig (λr hr=>by have:=ba r hr;have:=bb r hr;show(a r-b r).natAbs<=_;omega) hnz
 have hiff:=(Qrf nr a b).trans (Qsj (g:=λi=>a i-b i) hnz).symm
 rw[← hq]at hiff
 refine QW ?_
 refine run_seq (Qg (r:=⟨Qd m m T,true,[]⟩) (Qm (r:=⟨[QG m R L],false,[]⟩) rfl et rfl) ?_)
 rw[Ql]
 refine run_seq (Qg (QuQ (m:=m) (T:=T) (Q6 (r:=⟨Qd m m T,true,[5]⟩) rfl rfl) rfl) ?_)
 rw[Ql]
 refine run_seq (Qg (r:=⟨Qb (m-n0) (Qh m n0 Rt len a),true,[]⟩) (Qm (r:=⟨[QG m R L,Qb m a],false,[]⟩) rfl pa rfl) ?_)
 rw[Ql]
 refine run_seq (Qg (r:=⟨Qb (m-n0) (Qh m n0 Rt len b),true,[]⟩) (Qm (r:=⟨[QG m R L,Qb m b],false,[]⟩) rfl pb rfl) ?_)
 rw[Ql]
 change Nx _ (.nx [some (QG m R L,false),some (Qb m a,false),some (Qb m b,false),some (Qb (m-n0) (QT len n0),false),some (Qb m c,false),some (Qd m m T,true),some (Qd m m (QaF T),true),some (Qb (m-n0) (Qh m n0 Rt len a),true),some (Qb (m-n0) (Qh m n0 Rt len b),true),none,none,none,none])
 refine QE (Qab (b:=false) (Qdf (a:=false) (b:=false) (QbF (b:=true) (QO (b:=true) (Qm (r:=⟨[Qb (m-n0) (Qh m n0 Rt len a),Qb (m-n0) (QT len n0)],false,[7]⟩) rfl (hl (m-n0) _ _ (by omega) (QeT nr a)) rfl) rfl)) (QbF (b:=true) (QO (b:=true) (Qm (r:=⟨[Qb (m-n0) (Qh m n0 Rt len b),Qb (m-n0) (QT len n0)],false,[8]⟩) rfl (hl (m-n0) _ _ (by omega) (QeT nr b)) rfl) rfl))) (λh=>by cases h) (λ_=>Qu ?_))
 refine run_seq (Qg (Qht (m:=m-n0) (f:=Qh m n0 Rt len a) (rs:=⟨[Qb (m-n0) (Qh m n0 Rt len a)],true,[7]⟩) rfl rfl) ?_)
 rw[Ql]
 change Nx _ (.nx [some (QG m R L,false),some (Qb m a,false),some (Qb m b,false),some (Qb (m-n0) (QT len n0),false),some (Qb m c,false),some (Qd m m T,true),some (Qd m m (QaF T),true),some (Qb (m-n0) (Qh m n0 Rt len a),true),some (Qb (m-n0) (Qh m n0 Rt len b),true),some (Qb (m-n0) (Qh m n0 Rt len a),true),none,none,none])
 refine QE (Qab (b:=false) (Qdf (a:=false) (b:=false) (QO (b:=false) (QhU (m:=m-n0) (f:=Qh m n0 Rt len (QfO m T a c)) (g:=Qh m n0 Rt len a) (Qm (Qj (r:=⟨QG m R L,false,[]⟩) rfl (Qj (Qm (r:=⟨[Qd m m T,Qb m a,Qb m c],false,[5]⟩) rfl eb rfl) (QL _))) pc rfl) rfl (rb:=⟨Qb (m-n0) (Qh m n0 Rt len a),true,[7]⟩) rfl rfl (QlT nr a c)) rfl) (QO (b:=false) (QhU (m:=m-n0) (f:=Qh m n0 Rt len a) (g:=Qh m n0 Rt len a) (Qm (r:=⟨[QG m R L,Qb m a,Qb (m-n0) (QT len n0)],false,[]⟩) rfl eg rfl) rfl (rb:=⟨Qb (m-n0) (Qh m n0 Rt len a),true,[7]⟩) rfl rfl λ_ _=>rfl) rfl)) (λh=>by cases h) (λ_=>Qu ?_))
 refine run_seq (Qg (r:=⟨Qb (m-n0) (Qh m n0 Rt len λi=>a i+b i),true,[]⟩) (Qm (Qj (r:=⟨QG m R L,false,[]⟩) rfl (Qj (QF (toD:=λ(j:Nat)=> .tup [.int (a j),.int (b j)]) (out:=λ(j:Nat)=> .int (a j+b j)) (List.range m) (QbP (f:=λj=> .int (a j)) (g:=λj=> .int (b j)) (ra:=⟨Qb m a,false,[]⟩) rfl rfl (rb:=⟨Qb m b,false,[]⟩) rfl rfl) rfl λj _=>⟨[none,some (.int (a j),true),some (.int (b j),true)],rfl,⟨.int (a j+b j),true,[]⟩,rfl,rfl,rfl⟩) (QL _))) pd rfl) ?_)
 rw[Ql]
 change Nx _ (.nx [some (QG m R L,false),some (Qb m a,false),some (Qb m b,false),some (Qb (m-n0) (QT len n0),false),some (Qb m c,false),some (Qd m m T,true),some (Qd m m (QaF T),true),some (Qb (m-n0) (Qh m n0 Rt len a),true),some (Qb (m-n0) (Qh m n0 Rt len b),true),some (Qb (m-n0) (Qh m n0 Rt len a),true),some (Qb (m-n0) (Qh m n0 Rt len λi=>a i+b i),true),none,none])
 refine run_seq (Qg (r:=⟨Qb (m-n0) λj=>(Qh m n0 Rt len a j+Qh m n0 Rt len b j) % QT len n0 j,true,[]⟩) (QF (toD:=λ(j:Nat)=> .tup [.int (Qh m n0 Rt len a j),.int (Qh m n0 Rt len b j),.int (QT len n0 j)]) (out:=λ(j:Nat)=> .int ((Qh m n0 Rt len a j+Qh m n0 Rt len b j) % QT len n0 j)) (List.range (m-n0)) (Qnl (f:=λj=> .int (Qh m n0 Rt len a j)) (g:=λj=> .int (Qh m n0 Rt len b j)) (h:=λj=> .int (QT len n0 j)) (ra:=⟨Qb (m-n0) (Qh m n0 Rt len a),true,[7]⟩) (rb:=⟨Qb (m-n0) (Qh m n0 Rt len b),true,[8]⟩) (rc:=⟨Qb (m-n0) (QT len n0),false,[]⟩) rfl rfl rfl rfl rfl rfl) rfl λj hj=>⟨[none,some (.int (Qh m n0 Rt len a j),true),some (.int (Qh m n0 Rt len b j),true),some (.int (QT len n0 j),true)],rfl,⟨.int ((Qh m n0 Rt len a j+Qh m n0 Rt len b j) % QT len n0 j),true,[]⟩,QaD (a:=Qh m n0 Rt len a j+Qh m n0 Rt len b j) (b:=QT len n0 j) rfl rfl rfl rfl (by have:=nr.big (n0+j) (by omega) (by have:=Zk.mp hj;omega);unfold QT;omega),rfl,rfl⟩) ?_)
 rw[Ql]
 change Nx _ (.nx [some (QG m R L,false),some (Qb m a,false),some (Qb m b,false),some (Qb (m-n0) (QT len n0),false),some (Qb m c,false),some (Qd m m T,true),some (Qd m m (QaF T),true),some (Qb (m-n0) (Qh m n0 Rt len a),true),some (Qb (m-n0) (Qh m n0 Rt len b),true),some (Qb (m-n0) (Qh m n0 Rt len a),true),some (Qb (m-n0) (Qh m n0 Rt len λi=>a i+b i),true),some (Qb (m-n0) λj=>(Qh m n0 Rt len a j+Qh m n0 Rt len b j) % QT len n0 j,true),none])
 refine QE (Qab (b:=false) (Qdf (a:=false) (b:=false) (QbF (b:=true) (QO (b:=true) (Qm (r:=⟨[Qb (m-n0) (Qh m n0 Rt len λi=>a i+b i),Qb (m-n0) (QT len n0)],false,[10]⟩) rfl (hl (m-n0) _ _ (by omega) (QeT nr _)) rfl) rfl)) (Qdf (a:=false) (b:=false) (QO (b:=false) (QhU (m:=m-n0) (f:=Qh m n0 Rt len λi=>a i+b i) (g:=λj=>(Qh m n0 Rt len a j+Qh m n0 Rt len b j) % QT len n0 j) (ra:=⟨Qb (m-n0) (Qh m n0 Rt len λi=>a i+b i),true,[10]⟩) rfl rfl (rb:=⟨Qb (m-n0) λj=>(Qh m n0 Rt len a j+Qh m n0 Rt len b j) % QT len n0 j,true,[11]⟩) rfl rfl (Qsc nr a b)) rfl) (QO (b:=false) (QhU (m:=m-n0) (f:=Qh m n0 Rt len a) (g:=Qh m n0 Rt len a) (ra:=⟨Qb (m-n0) (Qh m n0 Rt len a),true,[7]⟩) rfl rfl (rb:=⟨Qb (m-n0) (Qh m n0 Rt len a),true,[9]⟩) rfl rfl λ_ _=>rfl) rfl))) (λh=>by cases h) (λ_=>Qu ?_))
 refine run_seq (Qg (r:=⟨.bl q,true,[]⟩) (Qm (Qj (r:=⟨Qd m m (QaF T),true,[6]⟩) rfl (Qj (QF (toD:=λ(j:Nat)=> .tup [.int (a j),.int (b j)]) (out:=λ(j:Nat)=> .int (a j-b j)) (List.range m) (QbP (f:=λj=> .int (a j)) (g:=λj=> .int (b j)) (ra:=⟨Qb m a,false,[]⟩) rfl rfl (rb:=⟨Qb m b,false,[]⟩) rfl rfl) rfl λj _=>⟨[none,some (.int (a j),true),some (.int (b j),true)],rfl,⟨.int (a j-b j),true,[]⟩,rfl,rfl,rfl⟩) (QL _))) eq rfl) ?_)
 rw[Ql]
 change Nx _ (.nx [some (QG m R L,false),some (Qb m a,false),some (Qb m b,false),some (Qb (m-n0) (QT len n0),false),some (Qb m c,false),some (Qd m m T,true),some (Qd m m (QaF T),true),some (Qb (m-n0) (Qh m n0 Rt len a),true),some (Qb (m-n0) (Qh m n0 Rt len b),true),some (Qb (m-n0) (Qh m n0 Rt len a),true),some (Qb (m-n0) (Qh m n0 Rt len λi=>a i+b i),true),some (Qb (m-n0) λj=>(Qh m n0 Rt len a j+Qh m n0 Rt len b j) % QT len n0 j,true),some (.bl q,true)])
 obtain⟨e,ee,he⟩:=QsR (fa:=Qa 7) (fb:=Qa 8) (ρ:=[some (QG m R L,false),some (Qb m a,false),some (Qb m b,false),some (Qb (m-n0) (QT len n0),false),some (Qb m c,false),some (Qd m m T,true),some (Qd m m (QaF T),true),some (Qb (m-n0) (Qh m n0 Rt len a),true),some (Qb (m-n0) (Qh m n0 Rt len b),true),some (Qb (m-n0) (Qh m n0 Rt len a),true),some (Qb (m-n0) (Qh m n0 Rt len λi=>a i+b i),true),some (Qb (m-n0) λj=>(Qh m n0 Rt len a j+Qh m n0 Rt len b j) % QT len n0 j,true),some (.bl q,true)]) (m:=m-n0) (f:=Qh m n0 Rt len a) (g:=Qh m n0 Rt len b) (ra:=⟨Qb (m-n0) (Qh m n0 Rt len a),true,[7]⟩) (rb:=⟨Qb (m-n0) (Qh m n0 Rt len b),true,[8]⟩) rfl rfl rfl rfl
 have heq:e=q:=by
  have:=he.trans hiff
  cases e<;>cases q<;>simp_all
 refine Qx (r:=⟨.bl true,true,[]⟩) ((Qxo (a:=e) (b:=q) ee rfl).trans ?_) ⟨rfl,rfl⟩
 rw[heq];simp
theorem Qq5{ρ:En}{fa:DE}{r:HS.R}{a b:D}{i j:Nat}{Q:Out->Prop}(h:fa ρ=some r)(e:r.d= .lst [a,b])(q:Q (.nx (((QaT r.norm.M ρ).set i (some (a,a.flat))).set j (some (b,b.flat))))):Run (Qds (.tp [i,j]) fa) ρ Q:=by
 refine⟨_,?_,q⟩
 unfold Qds
 rw[h,Za,e]
 rfl
noncomputable def Qmf(Qcq:Den)(Qdu:Den)(Qbf:Den)(Qa8:Den)(QcX:Den)(QbE:Den)(QaA:Den)(Qc3:Den)(QX:Den)(Q4:Den):DS:=(Qe (Qs 1 (Qn 2 Qcq [] (Qc (Qa 0) (Qc (dC (.int 30)) Qf)))) (Qe (Qs 2 (Qn 1 Qdu [] (Qc (Qa 1) Qf))) (Qe (Qds (.tp [3,4]) (Qn 2 Qbf [] (Qc (Qa 1) (Qc (Qq (Qa 2) (dC (.int 0))) Qf)))) (Qe (Qs 5 (Qn 4 Qa8 [] (Qc (Qa 1) (Qc (dC (.int 23)) (Qc (Qq (Qa 2) (dC (.int 0))) (Qc (dOp Qfv (dC (.int 10)) (dC (.int 14))) Qf)))))) (Qe (Qs 6 (Qae (Qc (Qn 1 QcX [] (Qc (Qa 2) Qf)) (Qc (dList (Qc (Qa 3) Qf)) (Qc (dList (Qc (Qa 4) Qf)) Qf))))) (Qe (Qs 7 (Qn 1 QbE [] (Qc (Qq (Qa 6) (dC (.int 0))) Qf))) (Qe (sIf (bOr (Qcy (QN (Qjb "list" (Qa 7)))) (Qcy (QN (Qn 2 QaA [] (Qc (Qa 7) (Qc (dBf Qav (Qc (Qa 7) Qf)) Qf)))))) (Qe (QM (dC (.bl false))) Qr) Qr) (Qe (sIf (bOr (Qcy (QN (Qn 5 Qc3 [] (Qc (Qq (Qa 6) (dC (.int 0))) (Qc (Qq (Qa 6) (dC (.int 1))) (Qc (Qq (Qa 6) (dC (.int 2))) (Qc (Qa 7) (Qc (Qa 5) Qf)))))))) (QN (dOp gNe (Qa 6) (Qae (Qc (Qa 2) (Qc (Qa 3) (Qc (Qa 4) Qf))))))) (Qe (QM (dC (.bl false))) Qr) Qr) (Qe (Qs 8 (Qn 2 QX [] (Qc (Qa 2) (Qc (Qa 3) Qf)))) (Qe (Qs 9 (dList (Qc (Qa 8) Qf))) (Qe (Qbr 6 (Qbs Q7 (dC (.int 1))) (dC (.int 0)) (QJ (Qq (Qq (Qa 6) (dC (.int 1))) (dC (.int 0))) (dC (.int 1)))) (Qe (sIf (bOr (Qcy (QN (Qn 2 Q4 [] (Qc (Qn 2 QX [] (Qc (Qa 2) (Qc (Qq (Qa 6) (dC (.int 1))) Qf))) (Qc (Qa 7) Qf))))) (QN (dOp gNe (Qa 8) (Qa 9)))) (Qe (QM (dC (.bl false))) Qr) Qr) (Qe (QfG 8 Q7 (dC (.int 0))) (Qe (QM (dOp gEq (Qn 2 QX [] (Qc (Qa 2) (Qc (Qa 3) Qf))) (Qa 9))) Qr))))))))))))))
set_option maxHeartbeats 0 in
theorem QyE{dr dc dn dtr drw dcp dl du dg dp dpl:Den}(hs:Qis dr)(hc:CellsOk dc)(hn:Qly dn)(htr:Qjs dtr)(hrw:Qj6 drw)(hcp:QlA dcp)(hl:Qnq dr dl)(hu:QkG du)(hg:QjD dr dg)(hp:QfT dr dp)(hpl:Qef dpl)(ns:List Int)(hns:ns.length<=63):
  Qo 10 (Qmf dc dn dtr drw dcp dl du dg dp dpl) [.lst (ns.map .int)]=some (.bl true,true):=by
 obtain⟨cs,ecs,lcs,bcs⟩:=hc ns 30 hns (by decide)
 obtain⟨m,R,L,en,m0,m4,hw⟩:=hn cs lcs bcs
 obtain⟨a,b,er,ba,bb⟩:=htr cs m lcs bcs m0 m4
 obtain⟨c,ec,bc⟩:=hrw cs 23 m (10^14) (by omega) (by omega) (by decide)
 obtain⟨n0,Lf,Rt,Lb,Rb,len,nr,re⟩:=Qsx hs m0 (by omega) hw
 have ecp:=hcp m R L
 have el:=hl m R L n0 Lf Rt Lb Rb len (by omega) hw nr re
 have eu:=hu (m-n0) (QT len n0)
 have egd:=hg m R L n0 Lf Rt Lb Rb len a b c m0 m4 hw nr re ba bb λi hi=>by have:=bc i hi;omega
 have hp':=λf=>hp m R L n0 Lf Rt Lb Rb len f (by omega) hw nr re
 have pa:=hp' a λi hi=>Qe9 (Zq (ba i hi) (ZF (by decide) (by decide)))
 have pa1:=hp' (up a 0 (a 0+1)) λi hi=>Qe9 (Zq (show(up a 0 (a 0+1) i).natAbs<2^61 by
  rw[QdG]
  have:=ba 0 m0
  have:=ba i hi
  split<;>omega) (ZF (by decide) (by decide)))
 have le:=nr.le
 have ep1:=hpl (m-n0) _ _ (by omega) (QeT nr (up a 0 (a 0+1)))
 generalize QH m (QK R L)=T at *
 have sH:(D.lst [QG m R L,Qb m a,Qb m b]).sim 8=true:=by
  simp only[D.sim,List.all_cons,List.all_nil,Zcr,Zh]
  refine⟨?_,QgZ 6 m a,QgZ 6 m b⟩
  unfold QG
  simp only[D.sim,List.all_cons,List.all_nil,Zcr,Bool.true_and,Zh]
  exact⟨Ql9 4 R,Ql9 4 L⟩
 refine QW ?_
 refine run_seq (Qg (Qm (r:=⟨[.lst (ns.map .int),.int 30],false,[]⟩) rfl ecs rfl) ?_)
 rw[Ql]
 refine run_seq (Qg (Qm (r:=⟨[Qt cs],true,[1]⟩) rfl en rfl) ?_)
 rw[Ql]
 refine run_seq (Qq5 (a:=Qb m a) (b:=Qb m b) (Qm (r:=⟨[Qt cs,.int m],true,[1]⟩) rfl er rfl) rfl ?_)
 change Nx _ (.nx [some (.lst (ns.map .int),false),some (Qt cs,true),some (QG m R L,true),some (Qb m a,false),some (Qb m b,false),none,none,none,none,none])
 refine run_seq (Qg (r:=⟨Qb m c,true,[]⟩) (Qm (Qj (r:=⟨Qt cs,true,[1]⟩) rfl (Qj (r:=⟨.int (23:Nat),true,[]⟩) rfl (Qj (r:=⟨.int m,true,[]⟩) rfl (Qj (QpC (a:=10) (k:=14) (by decide) (by decide)) (QL _))))) ec rfl) ?_)
 rw[Ql]
 refine run_seq (Qg (r:=⟨.lst [QG m R L,Qb m a,Qb m b],true,[]⟩) (QnR (Qj (Qm (r:=⟨[QG m R L],true,[2]⟩) rfl ecp rfl) (Qj (Qht (m:=m) (f:=a) (rs:=⟨[Qb m a],false,[]⟩) rfl rfl) (Qj (Qht (m:=m) (f:=b) (rs:=⟨[Qb m b],false,[]⟩) rfl rfl) (QL _)))) (Nat.le_of_ble_eq_true rfl)) ?_)
 rw[Ql]
 refine run_seq (Qg (r:=⟨Qb (m-n0) (QT len n0),true,[]⟩) (Qm (r:=⟨[QG m R L],true,[6]⟩) rfl el rfl) ?_)
 rw[Ql]
 change Nx _ (.nx [some (.lst (ns.map .int),false),some (Qt cs,true),some (QG m R L,true),some (Qb m a,false),some (Qb m b,false),some (Qb m c,true),some (.lst [QG m R L,Qb m a,Qb m b],true),some (Qb (m-n0) (QT len n0),true),none,none])
 refine QE (Qab (b:=false) (Qdf (a:=false) (b:=false) (QbF (b:=true) (QO (b:=true) rfl rfl)) (QbF (b:=true) (QO (b:=true) (Qm (Qj (r:=⟨Qb (m-n0) (QT len n0),true,[7]⟩) rfl (Qj (Qd2 (m:=m-n0) (f:=QT len n0) (r:=⟨Qb (m-n0) (QT len n0),true,[7]⟩) rfl rfl) (QL _))) eu rfl) rfl))) (λh=>by cases h) (λ_=>Qu ?_))
 refine QE (Qab (b:=false) (Qdf (a:=false) (b:=false) (QbF (b:=true) (QO (b:=true) (Qm (r:=⟨[QG m R L,Qb m a,Qb m b,Qb (m-n0) (QT len n0),Qb m c],true,[6,6,6,7,5]⟩) rfl egd rfl) rfl)) (QO (b:=false) (Qsg (d:= .lst [QG m R L,Qb m a,Qb m b]) (ra:=⟨.lst [QG m R L,Qb m a,Qb m b],true,[6]⟩) rfl rfl (rb:=⟨.lst [QG m R L,Qb m a,Qb m b],false,[2]⟩) rfl rfl sH) rfl)) (λh=>by cases h) (λ_=>Qu ?_))
 refine run_seq (Qg (r:=⟨Qb (m-n0) (Qh m n0 Rt len a),true,[]⟩) (Qm (r:=⟨[QG m R L,Qb m a],false,[2]⟩) rfl pa rfl) ?_)
 rw[Ql]
 refine run_seq (Qg (Qht (m:=m-n0) (f:=Qh m n0 Rt len a) (rs:=⟨[Qb (m-n0) (Qh m n0 Rt len a)],true,[8]⟩) rfl rfl) ?_)
 rw[Ql]
 change Nx _ (.nx [some (.lst (ns.map .int),false),some (Qt cs,true),some (QG m R L,true),some (Qb m a,false),some (Qb m b,false),some (Qb m c,true),some (.lst [QG m R L,Qb m a,Qb m b],true),some (Qb (m-n0) (QT len n0),true),some (Qb (m-n0) (Qh m n0 Rt len a),true),some (Qb (m-n0) (Qh m n0 Rt len a),true)])
 refine run_seq (Qso (m:=m) (a:=QG m R L) (f:=a) (g:=b) (i:=0) (v:=a 0+1) (ri:=⟨.int 0,true,[]⟩) (ra:=⟨.int (a 0+1),true,[]⟩) rfl rfl rfl (Qaf (a:=a 0) (b:=1) (Qaq (m:=m) (f:=a) (i:=0) (ra:=⟨Qb m a,true,[6]⟩) (rb:=⟨.int 0,true,[]⟩) rfl rfl rfl rfl m0) rfl rfl rfl) rfl (by decide) (by omega) ?_)
 change Nx _ (.nx [some (.lst (ns.map .int),false),some (Qt cs,true),some (QG m R L,true),some (Qb m a,false),some (Qb m b,false),some (Qb m c,true),some (.lst [QG m R L,Qb m (up a 0 (a 0+1)),Qb m b],true),some (Qb (m-n0) (QT len n0),true),some (Qb (m-n0) (Qh m n0 Rt len a),true),some (Qb (m-n0) (Qh m n0 Rt len a),true)])
 refine QE (Qab (b:=false) (Qdf (a:=false) (b:=false) (QbF (b:=true) (QO (b:=true) (Qm (Qj (Qm (r:=⟨[QG m R L,Qb m (up a 0 (a 0+1))],true,[2,6]⟩) rfl pa1 rfl) (Qj (r:=⟨Qb (m-n0) (QT len n0),true,[7]⟩) rfl (QL _))) ep1 rfl) rfl)) (QO (b:=false) (QhU (m:=m-n0) (f:=Qh m n0 Rt len a) (g:=Qh m n0 Rt len a) (ra:=⟨Qb (m-n0) (Qh m n0 Rt len a),true,[8]⟩) rfl rfl (rb:=⟨Qb (m-n0) (Qh m n0 Rt len a),true,[9]⟩) rfl rfl λ_ _=>rfl) rfl)) (λh=>by cases h) (λ_=>Qu ?_))
 refine run_seq (QuP (x:=8) (i:=m-n0) (g:=Qh m n0 Rt len a) (v:=0) (r:=⟨.int 0,true,[]⟩) rfl rfl rfl (by omega) ?_)
 obtain⟨e,ee,he⟩:=QsR (fa:=Qn 2 dp [] (Qc (Qa 2) (Qc (Qa 3) Qf))) (fb:=Qa 9) (ρ:=[some (.lst (ns.map .int),false),some (Qt cs,true),some (QG m R L,true),some (Qb m a,false),some (Qb m b,false),some (Qb m c,true),some (.lst [QG m R L,Qb m (up a 0 (a 0+1)),Qb m b],true),some (Qb (m-n0) (QT len n0),true),some (Qb (m-n0+1) (up (Qh m n0 Rt len a) (m-n0) 0),true),some (Qb (m-n0) (Qh m n0 Rt len a),true)]) (m:=m-n0) (f:=Qh m n0 Rt len a) (g:=Qh m n0 Rt len a) (Qm (r:=⟨[QG m R L,Qb m a],false,[2]⟩) rfl pa rfl) rfl (rb:=⟨Qb (m-n0) (Qh m n0 Rt len a),true,[9]⟩) rfl rfl
 have:e=true:=he.mpr λ_ _=>rfl
 subst this
 exact Qx (r:=⟨.bl true,true,[]⟩) ee ⟨rfl,rfl⟩
end HS
theorem HS.some_of{α:Type}{x:Option α}{d:α}(h:x.isSome=true):x=some (x.getD d):=by cases x with | none=>cases h | some a=>rfl
namespace Law
open PySem L2 HS
noncomputable section
def top(i:Nat):Stmt:=PySem.Challenge.pw_heapstill_k45_whole_places_in_rings.main.body.getD i (.Pass ⟨0,0,0,0⟩)
abbrev cst:List (Str×Int):=[]
abbrev Sc(s:Stmt)(P:List Str):Prop:=Qdt (namesOf (Qz s)) P (Qz s)
theorem scM{s:Stmt}{P:List Str}(h1:(Qz s).kind= .function)(h2:(Qz s).isCoroutine=false)(h3:(Qz s).isGenerator=false)(h4:(namesOf (Qz s)).Nodup/\(namesOf (Qz s)).take P.length=P/\(∀x∈P,(Qz s).names.lookup x=some .local ∨(Qz s).names.lookup x=some .cell)/\∀y∈(Qz s).names,y.2≠ .free):Sc s P:=⟨h1,h2,h3,h4.1,h4.2.1,h4.2.2.1,h4.2.2.2⟩
noncomputable abbrev Cp(s:Stmt)(Γ:List (Str×FnR)):Option DS:=QaW 60 (QkY s Γ cst) (Qck s)
noncomputable abbrev Dn(s:Stmt)(g:DS):Den:=Qo (namesOf (Qz s)).length g
noncomputable abbrev Gc(x:Str)(n:Nat)(d:Den)(Γ:List (Str×FnR)):List (Str×FnR):=(x,⟨n,[],d⟩)::Γ
abbrev Qc1:=top 5
theorem Qnn:Sc Qc1 ["net","rows"]:=scM rfl rfl rfl (by decide+kernel)
theorem Qo7:Qv "need_rows" Qc1 ["net","rows"]:=λ | _,_,_,_,_,_,[_,_],_=>rfl
def Qi7:=(Cp Qc1 []).getD QA
theorem Qo4:Cp Qc1 []=some Qi7:=some_of (by decide+kernel)
abbrev QcQ:=Dn Qc1 Qi7
abbrev Qgt:=Gc "need_rows" 2 QcQ []
abbrev Qen:=top 7
theorem QsT:Sc Qen ["table","at"]:=scM rfl rfl rfl (by decide+kernel)
theorem QtV:Qv "column" Qen ["table","at"]:=λ | _,_,_,_,_,_,[_,_],_=>rfl
def QnE:=(Cp Qen Qgt).getD QA
theorem Qtm:Cp Qen Qgt=some QnE:=some_of (by decide+kernel)
abbrev Qca:=Dn Qen QnE
abbrev Qjx:=Gc "column" 2 Qca Qgt
abbrev QeH:=top 8
theorem Qsu:Sc QeH ["table"]:=scM rfl rfl rfl (by decide+kernel)
theorem Quc:Qv "turned" QeH ["table"]:=λ | _,_,_,_,_,_,[_],_=>rfl
def Qnx:=(Cp QeH Qjx).getD QA
theorem Qtz:Cp QeH Qjx=some Qnx:=some_of (by decide+kernel)
abbrev QaE:=Dn QeH Qnx
abbrev Qjv:=Gc "turned" 1 QaE Qjx
abbrev Qdm:=top 9
theorem Qo5:Sc Qdm ["size","at"]:=scM rfl rfl rfl (by decide+kernel)
theorem Qq0:Qv "unit_row" Qdm ["size","at"]:=λ | _,_,_,_,_,_,[_,_],_=>rfl
def QkO:=(Cp Qdm Qjv).getD QA
theorem QqK:Cp Qdm Qjv=some QkO:=some_of (by decide+kernel)
abbrev Qbj:=Dn Qdm QkO
abbrev Qhy:=Gc "unit_row" 2 Qbj Qjv
abbrev Qcx:=top 10
theorem Qmy:Sc Qcx ["size"]:=scM rfl rfl rfl (by decide+kernel)
theorem Qok:Qv "unit_table" Qcx ["size"]:=λ | _,_,_,_,_,_,[_],_=>rfl
def Qik:=(Cp Qcx Qhy).getD QA
theorem QnV:Cp Qcx Qhy=some Qik:=some_of (by decide+kernel)
abbrev Qad:=Dn Qcx Qik
abbrev QfZ:=Gc "unit_table" 1 Qad Qhy
abbrev Qdp:=top 11
theorem Qo0:Sc Qdp ["line"]:=scM rfl rfl rfl (by decide+kernel)
theorem Qqo:Qv "opposite" Qdp ["line"]:=λ | _,_,_,_,_,_,[_],_=>rfl
def QkM:=(Cp Qdp QfZ).getD QA
theorem QqP:Cp Qdp QfZ=some QkM:=some_of (by decide+kernel)
abbrev Qbl:=Dn Qdp QkM
abbrev Qhe:=Gc "opposite" 1 Qbl QfZ
abbrev QeJ:=top 12
theorem Qsv:Sc QeJ ["one","other"]:=scM rfl rfl rfl (by decide+kernel)
theorem Qtw:Qv "scalar" QeJ ["one","other"]:=λ | _,_,_,_,_,_,[_,_],_=>rfl
def Qnt:=(Cp QeJ Qhe).getD QA
theorem Quw:Cp QeJ Qhe=some Qnt:=some_of (by decide+kernel)
abbrev QeE:=Dn QeJ Qnt
abbrev Qjm:=Gc "scalar" 2 QeE Qhe
abbrev QdW:=top 14
theorem Qqp:Sc QdW ["line","columns"]:=scM rfl rfl rfl (by decide+kernel)
theorem Qrz:Qv "line_by" QdW ["line","columns"]:=λ | _,_,_,_,_,_,[_,_],_=>rfl
def Ql7:=(Cp QdW Qjm).getD QA
theorem Qq8:Cp QdW Qjm=some Ql7:=some_of (by decide+kernel)
abbrev Qb2:=Dn QdW Ql7
abbrev QhW:=Gc "line_by" 2 Qb2 Qjm
abbrev QdZ:=top 13
theorem QqX:Sc QdZ ["one","other"]:=scM rfl rfl rfl (by decide+kernel)
theorem QrK:Qv "product" QdZ ["one","other"]:=λ | _,_,_,_,_,_,[_,_],_=>rfl
def QlZ:=(Cp QdZ QhW).getD QA
theorem QrI:Cp QdZ QhW=some QlZ:=some_of (by decide+kernel)
abbrev QaM:=Dn QdZ QlZ
abbrev QhK:=Gc "product" 2 QaM QhW
abbrev Qep:=top 15
theorem QrG:Sc Qep ["numbers"]:=scM rfl rfl rfl (by decide+kernel)
theorem QuZ:Qv "common" Qep ["numbers"]:=λ | _,_,_,_,_,_,[_],_=>rfl
def Qns:=(Cp Qep QhK).getD QA
theorem QtS:Cp Qep QhK=some Qns:=some_of (by decide+kernel)
abbrev QdT:=Dn Qep Qns
abbrev QjO:=Gc "common" 1 QdT QhK
abbrev Qcv:=top 17
theorem QmF:Sc Qcv ["lines","at"]:=scM rfl rfl rfl (by decide+kernel)
theorem Qou:Qv "with_pivot" Qcv ["lines","at"]:=λ | _,_,_,_,_,_,[_,_],_=>rfl
def QhO:=(Cp Qcv QjO).getD QA
theorem Qon:Cp Qcv QjO=some QhO:=some_of (by decide+kernel)
abbrev Qcj:=Dn Qcv QhO
abbrev QfX:=Gc "with_pivot" 2 Qcj QjO
abbrev QcR:=top 18
theorem QnF:Sc QcR ["line","pivot_line","at","before"]:=scM rfl rfl rfl (by decide+kernel)
theorem Qpa:Qv "taken_off" QcR ["line","pivot_line","at","before"]:=λ | _,_,_,_,_,_,[_,_,_,_],_=>rfl
def QiW:=(Cp QcR QfX).getD QA
theorem Qpb:Cp QcR QfX=some QiW:=some_of (by decide+kernel)
abbrev QcW:=Dn QcR QiW
abbrev Qgm:=Gc "taken_off" 4 QcW QfX
abbrev QdY:=top 16
theorem QqT:Sc QdY ["lines"]:=scM rfl rfl rfl (by decide+kernel)
theorem QsL:Qv "cleared" QdY ["lines"]:=λ | _,_,_,_,_,_,[_],_=>rfl
def QlR:=(Cp QdY Qgm).getD QA
theorem QsP:Cp QdY Qgm=some QlR:=some_of (by decide+kernel)
abbrev Qd4:=Dn QdY QlR
abbrev Qig:=Gc "cleared" 1 Qd4 Qgm
abbrev Qbe:=top 19
theorem QjX:Sc Qbe ["lines"]:=scM rfl rfl rfl (by decide+kernel)
theorem Qkj:Qv "cleared_whole" Qbe ["lines"]:=λ | _,_,_,_,_,_,[_],_=>rfl
def Qga:=(Cp Qbe Qig).getD QA
theorem QkF:Cp Qbe Qig=some Qga:=some_of (by decide+kernel)
abbrev Qbd:=Dn Qbe Qga
abbrev Qee:=Gc "cleared_whole" 1 Qbd Qig
abbrev QbV:=top 20
theorem QkT:Sc QbV ["table"]:=scM rfl rfl rfl (by decide+kernel)
theorem Qmk:Qv "turned_back" QbV ["table"]:=λ | _,_,_,_,_,_,[_],_=>rfl
def QhC:=(Cp QbV Qee).getD QA
theorem Qmj:Cp QbV Qee=some QhC:=some_of (by decide+kernel)
abbrev QbT:=Dn QbV QhC
abbrev Qe4:=Gc "turned_back" 1 QbT Qee
abbrev Qfm:=top 22
theorem QtJ:Sc Qfm ["roads","lanes"]:=scM rfl rfl rfl (by decide+kernel)
theorem QvB:Qv "steps" Qfm ["roads","lanes"]:=λ | _,_,_,_,_,_,[_,_],_=>rfl
def Qp1:=(Cp Qfm Qe4).getD QA
theorem QvQ:Cp Qfm Qe4=some Qp1:=some_of (by decide+kernel)
abbrev Qd8:=Dn Qfm Qp1
abbrev QlI:=Gc "steps" 2 Qd8 Qe4
abbrev Qcz:=top 23
theorem Qmp:Sc Qcz ["net"]:=scM rfl rfl rfl (by decide+kernel)
theorem Qm0:Qv "toll_table" Qcz ["net"]:=λ | _,_,_,_,_,_,[_],_=>rfl
def Qh5:=(Cp Qcz QlI).getD QA
theorem Qnb:Cp Qcz QlI=some Qh5:=some_of (by decide+kernel)
abbrev Qcn:=Dn Qcz Qh5
abbrev QfY:=Gc "toll_table" 1 Qcn QlI
abbrev Qc2:=top 25
theorem QnM:Sc Qc2 ["net"]:=scM rfl rfl rfl (by decide+kernel)
theorem Qpn:Qv "net_table" Qc2 ["net"]:=λ | _,_,_,_,_,_,[_],_=>rfl
def QiV:=(Cp Qc2 QfY).getD QA
theorem Qpp:Cp Qc2 QfY=some QiV:=some_of (by decide+kernel)
abbrev Qa6:=Dn Qc2 QiV
abbrev Qgl:=Gc "net_table" 1 Qa6 QfY
abbrev QcN:=top 32
theorem Qn4:Sc QcN ["lines","number"]:=scM rfl rfl rfl (by decide+kernel)
theorem Qpg:Qv "in_common" QcN ["lines","number"]:=λ | _,_,_,_,_,_,[_,_],_=>rfl
def Qi0:=(Cp QcN Qgl).getD QA
theorem QoY:Cp QcN Qgl=some Qi0:=some_of (by decide+kernel)
abbrev QaP:=Dn QcN Qi0
abbrev Qgv:=Gc "in_common" 2 QaP Qgl
abbrev Qfn:=top 36
theorem Qu0:Sc Qfn ["factor","line","other_factor","other_line"]:=scM rfl rfl rfl (by decide+kernel)
theorem Qv1:Qv "added" Qfn ["factor","line","other_factor","other_line"]:=λ | _,_,_,_,_,_,[_,_,_,_],_=>rfl
def QpH:=(Cp Qfn Qgv).getD QA
theorem Qvm:Cp Qfn Qgv=some QpH:=some_of (by decide+kernel)
abbrev QbY:=Dn Qfn QpH
abbrev Qk3:=Gc "added" 4 QbY Qgv
abbrev Qd1:=top 37
theorem Qqv:Sc Qd1 ["one","other"]:=scM rfl rfl rfl (by decide+kernel)
theorem Qsi:Qv "weighed" Qd1 ["one","other"]:=λ | _,_,_,_,_,_,[_,_],_=>rfl
def QlU:=(Cp Qd1 Qk3).getD QA
theorem Qrg:Cp Qd1 Qk3=some QlU:=some_of (by decide+kernel)
abbrev Qd6:=Dn Qd1 QlU
abbrev Qh9:=Gc "weighed" 2 Qd6 Qk3
abbrev Qbv:=top 35
theorem Qj7:Sc Qbv ["free","last"]:=scM rfl rfl rfl (by decide+kernel)
theorem Qlw:Qv "column_steps" Qbv ["free","last"]:=λ | _,_,_,_,_,_,[_,_],_=>rfl
def QgD:=(Cp Qbv Qh9).getD QA
theorem Qli:Cp Qbv Qh9=some QgD:=some_of (by decide+kernel)
abbrev Qbx:=Dn Qbv QgD
abbrev QeF:=Gc "column_steps" 2 Qbx Qh9
abbrev QeD:=top 31
theorem Qrj:Sc QeD ["line","length"]:=scM rfl rfl rfl (by decide+kernel)
theorem Qur:Qv "within" QeD ["line","length"]:=λ | _,_,_,_,_,_,[_,_],_=>rfl
def Qov:=(Cp QeD QeF).getD QA
theorem Qt5:Cp QeD QeF=some Qov:=some_of (by decide+kernel)
abbrev QcE:=Dn QeD Qov
abbrev Qja:=Gc "within" 2 QcE QeF
abbrev Qfk:=top 34
theorem Qs5:Sc Qfk ["one","other","length"]:=scM rfl rfl rfl (by decide+kernel)
theorem QwW:Qv "mixed" Qfk ["one","other","length"]:=λ | _,_,_,_,_,_,[_,_,_],_=>rfl
def QpG:=(Cp Qfk Qja).getD QA
theorem Qwu:Cp Qfk Qja=some QpG:=some_of (by decide+kernel)
abbrev Qfg:=Dn Qfk QpG
abbrev Qlb:=Gc "mixed" 3 Qfg Qja
abbrev QbQ:=top 33
theorem QlE:Sc QbQ ["lines","length"]:=scM rfl rfl rfl (by decide+kernel)
theorem QmB:Qv "free_column" QbQ ["lines","length"]:=λ | _,_,_,_,_,_,[_,_],_=>rfl
def QhI:=(Cp QbQ Qlb).getD QA
theorem Qmv:Cp QbQ Qlb=some QhI:=some_of (by decide+kernel)
abbrev QbO:=Dn QbQ QhI
abbrev QeX:=Gc "free_column" 2 QbO Qlb
abbrev QeB:=top 30
theorem Qq7:Sc QeB ["line","number"]:=scM rfl rfl rfl (by decide+kernel)
theorem Qu1:Qv "shared" QeB ["line","number"]:=λ | _,_,_,_,_,_,[_,_],_=>rfl
def Qoy:=(Cp QeB QeX).getD QA
theorem Qtu:Cp QeB QeX=some Qoy:=some_of (by decide+kernel)
abbrev Qb8:=Dn QeB Qoy
abbrev QjB:=Gc "shared" 2 Qb8 QeX
abbrev Qby:=top 28
theorem Qks:Sc Qby ["parts","whole"]:=scM rfl rfl rfl (by decide+kernel)
theorem QlJ:Qv "right_tables" Qby ["parts","whole"]:=λ | _,_,_,_,_,_,[_,_],_=>rfl
def QgM:=(Cp Qby QjB).getD QA
theorem Qlv:Cp Qby QjB=some QgM:=some_of (by decide+kernel)
abbrev QbA:=Dn Qby QgM
abbrev Qey:=Gc "right_tables" 2 QbA QjB
abbrev Qc0:=top 29
theorem Qow:Sc Qc0 ["line","factor"]:=scM rfl rfl rfl (by decide+kernel)
theorem Qpe:Qv "by_number" Qc0 ["line","factor"]:=λ | _,_,_,_,_,_,[_,_],_=>rfl
def Qi9:=(Cp Qc0 Qey).getD QA
theorem QoS:Cp Qc0 Qey=some Qi9:=some_of (by decide+kernel)
abbrev QcP:=Dn Qc0 Qi9
abbrev Qgk:=Gc "by_number" 2 QcP Qey
abbrev QbN:=top 27
theorem Qls:Sc QbN ["table"]:=scM rfl rfl rfl (by decide+kernel)
theorem QmD:Qv "ring_tables" QbN ["table"]:=λ | _,_,_,_,_,_,[_],_=>rfl
def QhD:=(Cp QbN Qgk).getD QA
theorem Qmt:Cp QbN Qgk=some QhD:=some_of (by decide+kernel)
abbrev Q8:=Dn QbN QhD
abbrev QeZ:=Gc "ring_tables" 1 Q8 Qgk
abbrev QaY:=top 39
theorem QiO:Sc QaY ["middle"]:=scM rfl rfl rfl (by decide+kernel)
theorem QjQ:Qv "middle_entries" QaY ["middle"]:=λ | _,_,_,_,_,_,[_],_=>rfl
def QfE:=(Cp QaY QeZ).getD QA
theorem QjJ:Cp QaY QeZ=some QfE:=some_of (by decide+kernel)
abbrev Qat:=Dn QaY QfE
abbrev QdV:=Gc "middle_entries" 1 Qat QeZ
abbrev QbC:=top 40
theorem Qkp:Sc QbC ["net"]:=scM rfl rfl rfl (by decide+kernel)
theorem QlL:Qv "ring_lengths" QbC ["net"]:=λ | _,_,_,_,_,_,[_],_=>rfl
def QgP:=(Cp QbC QdV).getD QA
theorem Qk9:Cp QbC QdV=some QgP:=some_of (by decide+kernel)
abbrev QbE:=Dn QbC QgP
abbrev QeK:=Gc "ring_lengths" 1 QbE QdV
abbrev Qch:=top 41
theorem Qms:Sc Qch ["net","row"]:=scM rfl rfl rfl (by decide+kernel)
theorem Qnv:Qv "ring_place" Qch ["net","row"]:=λ | _,_,_,_,_,_,[_,_],_=>rfl
def QhL:=(Cp Qch QeK).getD QA
theorem Qol:Cp Qch QeK=some QhL:=some_of (by decide+kernel)
abbrev QX:=Dn Qch QhL
abbrev QfL:=Gc "ring_place" 2 QX QeK
abbrev Qcw:=top 43
theorem Qmw:Sc Qcw ["_law_script","_law_many"]:=scM rfl rfl rfl (by decide+kernel)
theorem Qnu:Qv "_law_cells" Qcw ["_law_script","_law_many"]:=λ | _,_,_,_,_,_,[_,_],_=>rfl
def QhX:=(Cp Qcw QfL).getD QA
theorem QnB:Cp Qcw QfL=some QhX:=some_of (by decide+kernel)
abbrev Qcq:=Dn Qcw QhX
abbrev Qfz:=Gc "_law_cells" 2 Qcq QfL
abbrev Qcu:=top 44
theorem QmE:Sc Qcu ["_law_found"]:=scM rfl rfl rfl (by decide+kernel)
theorem QnS:Qv "_law_whole" Qcu ["_law_found"]:=λ | _,_,_,_,_,_,[_],_=>rfl
def Qh8:=(Cp Qcu Qfz).getD QA
theorem Qm7:Cp Qcu Qfz=some Qh8:=some_of (by decide+kernel)
abbrev Qcl:=Dn Qcu Qh8
abbrev Qfy:=Gc "_law_whole" 1 Qcl Qfz
abbrev Qbz:=top 45
theorem Qkg:Sc Qbz ["_law_found","_law_size"]:=scM rfl rfl rfl (by decide+kernel)
theorem QkU:Qv "_law_numbers" Qbz ["_law_found","_law_size"]:=λ | _,_,_,_,_,_,[_,_],_=>rfl
def Qg0:=(Cp Qbz Qfy).getD QA
theorem Qlr:Cp Qbz Qfy=some Qg0:=some_of (by decide+kernel)
abbrev QaA:=Dn Qbz Qg0
abbrev Qk2:=Gc "_law_numbers" 2 QaA Qfy
abbrev QU:=top 46
theorem Qda:Sc QU ["_law_table"]:=scM rfl rfl rfl (by decide+kernel)
theorem Qcr:Qv "_law_measure" QU ["_law_table"]:=λ | _,_,_,_,_,_,[_],_=>rfl
abbrev QfP:Den:=λ_=>none
abbrev QdO:=Gc "_law_measure" 1 QfP Qk2
def QfC:=(Cp QU QdO).getD QA
theorem QjF:Cp QU QdO=some QfC:=some_of (by decide+kernel)
abbrev QcA:=Dn QU QfC
abbrev QdP:=Gc "_law_measure" 1 QcA QdO
def QfN:=(Cp QU QdP).getD QA
theorem Qjl:Cp QU QdP=some QfN:=some_of (by decide+kernel)
abbrev QcJ:=Dn QU QfN
abbrev QdS:=Gc "_law_measure" 1 QcJ QdP
def QfV:=(Cp QU QdS).getD QA
theorem QjT:Cp QU QdS=some QfV:=some_of (by decide+kernel)
abbrev QcB:=Dn QU QfV
abbrev QdU:=Gc "_law_measure" 1 QcB QdS
def Qft:=(Cp QU QdU).getD QA
theorem Qjk:Cp QU QdU=some Qft:=some_of (by decide+kernel)
abbrev QcC:=Dn QU Qft
abbrev QdM:=Gc "_law_measure" 1 QcC QdU
abbrev Qa0:=QcC
abbrev QcT:=top 47
theorem Qoi:Sc QcT ["_law_cells_here","_law_many","_law_kind"]:=scM rfl rfl rfl (by decide+kernel)
theorem Qph:Qv "_law_base" QcT ["_law_cells_here","_law_many","_law_kind"]:=λ | _,_,_,_,_,_,[_,_,_],_=>rfl
def QiX:=(Cp QcT QdM).getD QA
theorem QoN:Cp QcT QdM=some QiX:=some_of (by decide+kernel)
abbrev QcU:=Dn QcT QiX
abbrev Qgz:=Gc "_law_base" 3 QcU QdM
abbrev QcZ:=top 48
theorem Qm2:Sc QcZ ["_law_many","_law_ways","_law_room"]:=scM rfl rfl rfl (by decide+kernel)
theorem QoJ:Qv "_law_fits" QcZ ["_law_many","_law_ways","_law_room"]:=λ | _,_,_,_,_,_,[_,_,_],_=>rfl
def Qi4:=(Cp QcZ Qgz).getD QA
theorem QoI:Cp QcZ Qgz=some Qi4:=some_of (by decide+kernel)
abbrev QcM:=Dn QcZ Qi4
abbrev Qgx:=Gc "_law_fits" 3 QcM Qgz
abbrev QcO:=top 49
theorem QnY:Sc QcO ["_law_ways","_law_cells_here","_law_many","_law_kind","_law_room"]:=scM rfl rfl rfl (by decide+kernel)
theorem Qo2:Qv "_law_more" QcO ["_law_ways","_law_cells_here","_law_many","_law_kind","_law_room"]:=λ | _,_,_,_,_,_,[_,_,_,_,_],_=>rfl
def Qi2:=(Cp QcO Qgx).getD QA
theorem QoW:Cp QcO Qgx=some Qi2:=some_of (by decide+kernel)
abbrev Qc5:=Dn QcO Qi2
abbrev Qgy:=Gc "_law_more" 5 Qc5 Qgx
abbrev Qdn:=top 50
theorem Qo8:Sc Qdn ["_law_cells_here"]:=scM rfl rfl rfl (by decide+kernel)
theorem Qqw:Qv "_law_net" Qdn ["_law_cells_here"]:=λ | _,_,_,_,_,_,[_],_=>rfl
def Qkn:=(Cp Qdn Qgy).getD QA
theorem QqA:Cp Qdn Qgy=some Qkn:=some_of (by decide+kernel)
abbrev Qdu:=Dn Qdn Qkn
abbrev Qhu:=Gc "_law_net" 1 Qdu Qgy
abbrev Qcp:=top 51
theorem QmA:Sc Qcp ["_law_net_here"]:=scM rfl rfl rfl (by decide+kernel)
theorem Qop:Qv "_law_tolls" Qcp ["_law_net_here"]:=λ | _,_,_,_,_,_,[_],_=>rfl
def Qid:=(Cp Qcp Qhu).getD QA
theorem Qos:Cp Qcp Qhu=some Qid:=some_of (by decide+kernel)
abbrev Qci:=Dn Qcp Qid
abbrev Qfs:=Gc "_law_tolls" 1 Qci Qhu
abbrev QcV:=top 52
theorem Qoz:Sc QcV ["_law_net_here"]:=scM rfl rfl rfl (by decide+kernel)
theorem QoX:Qv "_law_copy" QcV ["_law_net_here"]:=λ | _,_,_,_,_,_,[_],_=>rfl
def QiY:=(Cp QcV Qfs).getD QA
theorem Qpk:Cp QcV Qfs=some QiY:=some_of (by decide+kernel)
abbrev QcX:=Dn QcV QiY
abbrev Qgu:=Gc "_law_copy" 1 QcX Qfs
abbrev QbM:=top 53
theorem Qlf:Sc QbM ["_law_tolls_here","_law_row_here","_law_counts"]:=scM rfl rfl rfl (by decide+kernel)
theorem Qmu:Qv "_law_behind" QbM ["_law_tolls_here","_law_row_here","_law_counts"]:=λ | _,_,_,_,_,_,[_,_,_],_=>rfl
def QhH:=(Cp QbM Qgu).getD QA
theorem Qmm:Cp QbM Qgu=some QhH:=some_of (by decide+kernel)
abbrev QbU:=Dn QbM QhH
abbrev Qe0:=Gc "_law_behind" 3 QbU Qgu
abbrev Qdy:=top 54
theorem QoT:Sc Qdy ["_law_cells_here","_law_start","_law_many","_law_far"]:=scM rfl rfl rfl (by decide+kernel)
theorem Qqf:Qv "_law_row" Qdy ["_law_cells_here","_law_start","_law_many","_law_far"]:=λ | _,_,_,_,_,_,[_,_,_,_],_=>rfl
def QkQ:=(Cp Qdy Qe0).getD QA
theorem Qp7:Cp Qdy Qe0=some QkQ:=some_of (by decide+kernel)
abbrev Qa8:=Dn Qdy QkQ
abbrev Qg3:=Gc "_law_row" 4 Qa8 Qe0
abbrev Qco:=top 55
theorem Qmx:Sc Qco ["_law_table","_law_row_here"]:=scM rfl rfl rfl (by decide+kernel)
theorem Qot:Qv "_law_alike" Qco ["_law_table","_law_row_here"]:=λ | _,_,_,_,_,_,[_,_],_=>rfl
def Qil:=(Cp Qco Qg3).getD QA
theorem QnC:Cp Qco Qg3=some Qil:=some_of (by decide+kernel)
abbrev Qct:=Dn Qco Qil
abbrev Qfx:=Gc "_law_alike" 2 Qct Qg3
abbrev QbW:=top 56
theorem Qk8:Sc QbW ["_law_found","_law_lengths"]:=scM rfl rfl rfl (by decide+kernel)
theorem Qmo:Qv "_law_placed" QbW ["_law_found","_law_lengths"]:=λ | _,_,_,_,_,_,[_,_],_=>rfl
def QhG:=(Cp QbW Qfx).getD QA
theorem QmG:Cp QbW Qfx=some QhG:=some_of (by decide+kernel)
abbrev Q4:=Dn QbW QhG
abbrev Qe1:=Gc "_law_placed" 2 Q4 Qfx
abbrev Qa2:=top 57
theorem QiN:Sc Qa2 ["_law_net_here","_law_row_here","_law_lengths"]:=scM rfl rfl rfl (by decide+kernel)
theorem Qjy:Qv "_law_by_grains" Qa2 ["_law_net_here","_law_row_here","_law_lengths"]:=λ | _,_,_,_,_,_,[_,_,_],_=>rfl
def QfB:=(Cp Qa2 Qe1).getD QA
theorem QjI:Cp Qa2 Qe1=some QfB:=some_of (by decide+kernel)
abbrev QaZ:=Dn Qa2 QfB
abbrev QdQ:=Gc "_law_by_grains" 3 QaZ Qe1
abbrev Qbc:=top 58
theorem QjA:Sc Qbc ["_law_cells_here","_law_many"]:=scM rfl rfl rfl (by decide+kernel)
theorem Qka:Qv "_law_two_rows" Qbc ["_law_cells_here","_law_many"]:=λ | _,_,_,_,_,_,[_,_],_=>rfl
def Qgd:=(Cp Qbc QdQ).getD QA
theorem QkI:Cp Qbc QdQ=some Qgd:=some_of (by decide+kernel)
abbrev Qbf:=Dn Qbc Qgd
abbrev Qeb:=Gc "_law_two_rows" 2 Qbf QdQ
abbrev QcY:=top 59
theorem Qom:Sc QcY ["_law_net_here","_law_one","_law_other","_law_lengths","_law_counts"]:=scM rfl rfl rfl (by decide+kernel)
theorem Qpd:Qv "_law_good" QcY ["_law_net_here","_law_one","_law_other","_law_lengths","_law_counts"]:=λ | _,_,_,_,_,_,[_,_,_,_,_],_=>rfl
def QiU:=(Cp QcY Qeb).getD QA
theorem QoM:Cp QcY Qeb=some QiU:=some_of (by decide+kernel)
abbrev Qc3:=Dn QcY QiU
abbrev QiT:=Gc "_law_good" 5 Qc3 Qeb
abbrev Qiq:=top 60
theorem QxA:Sc Qiq ["_law_script"]:=scM rfl rfl rfl (by decide+kernel)
theorem QzM:Qv "law" Qiq ["_law_script"]:=λ | _,_,_,_,_,_,[_],_=>rfl
def Qu3:=(Cp Qiq QiT).getD QA
theorem QyY:Cp Qiq QiT=some Qu3:=some_of (by decide+kernel)
abbrev Qqe:=Dn Qiq Qu3
theorem QoO:QcQ=Qo 3 (HS.Qgw):=by kernel_rfl
theorem Qts:Qca=Qo 2 (HS.QoA):=by kernel_rfl
theorem QsZ:QaE=Qo 1 (HS.QnL Qca):=by kernel_rfl
theorem QqE:Qbj=Qo 2 (HS.Qkx):=by kernel_rfl
theorem Qnk:Qad=Qo 1 (HS.QhP Qbj):=by kernel_rfl
theorem Qqi:Qbl=Qo 1 (HS.Qj1):=by kernel_rfl
theorem QtK:QeE=Qo 2 (HS.QnJ):=by kernel_rfl
theorem QrU:Qb2=Qo 2 (HS.QlX QeE):=by kernel_rfl
theorem Qsf:QaM=Qo 3 (HS.Qme QaE Qb2):=by kernel_rfl
theorem Qt4:QdT=Qo 5 (HS.Qhb):=by kernel_rfl
theorem Qm5:Qcj=Qo 4 (HS.QgN Qbl):=by kernel_rfl
theorem QoZ:QcW=Qo 4 (HS.QiS):=by kernel_rfl
theorem QrA:Qd4=Qo 5 (HS.Qf7 Qcj QcW):=by kernel_rfl
theorem Qkl:Qbd=Qo 2 (HS.Qgg Qd4):=by kernel_rfl
theorem QmH:QbT=Qo 3 (HS.QhE Qbj Qbd):=by kernel_rfl
theorem Qv7:Qd8=Qo 4 (HS.QlN):=by kernel_rfl
theorem Qnm:Qcn=Qo 5 (HS.QfU Qd8):=by kernel_rfl
theorem Qo9:Qa6=Qo 1 (HS.Qi8 Qbl Qcn):=by kernel_rfl
theorem Qpm:QaP=Qo 2 (HS.QiQ QdT):=by kernel_rfl
theorem Qwh:QbY=Qo 4 (HS.QpA):=by kernel_rfl
theorem Qss:Qd6=Qo 5 (HS.Qf6 QbY):=by kernel_rfl
theorem QlC:Qbx=Qo 10 (HS.Qdx Qad Qd6 QbY QaE):=by kernel_rfl
theorem QtZ:QcE=Qo 2 (HS.Qny):=by kernel_rfl
theorem QvO:Qfg=Qo 5 (HS.QiA QaP QcE):=by kernel_rfl
theorem Qmn:QbO=Qo 4 (HS.QdI Qca Qfg):=by kernel_rfl
theorem Quv:Qb8=Qo 2 (HS.QnZ):=by kernel_rfl
theorem Qk4:QbA=Qo 11 (HS.Qdo Qad QaP Qb8 QcE QbO Qbx QaM):=by kernel_rfl
theorem Qpf:QcP=Qo 2 (HS.QiR):=by kernel_rfl
theorem Qmz:Q8=Qo 9 (HS.QhF QbT QbA QcP Qad Qb8 QaM QaE):=by kernel_rfl
theorem Qjo:Qat=Qo 1 (HS.QfS):=by kernel_rfl
theorem QlO:QbE=Qo 2 (HS.QgT Qa6 Q8 Qat):=by kernel_rfl
theorem Qnr:QX=Qo 4 (HS.QhY QcQ Qa6 Q8 QaE Qb2 Qat):=by kernel_rfl
theorem QnU:Qcq=Qo 9 (HS.QfA):=by kernel_rfl
theorem Qn8:Qcl=Qo 1 (HS.Qh0):=by kernel_rfl
theorem QkR:QaA=Qo 2 (HS.QfI Qcl):=by kernel_rfl
theorem QjW:QcA=Qo 4 (HS.Qcg QfP):=by kernel_rfl
theorem QjU:QcJ=Qo 4 (HS.Qcg QcA):=by kernel_rfl
theorem QjC:QcB=Qo 4 (HS.Qcg QcJ):=by kernel_rfl
theorem Qjw:QcC=Qo 4 (HS.Qcg QcB):=by kernel_rfl
theorem Qpq:QcU=Qo 12 (HS.Qe3):=by kernel_rfl
theorem QoU:QcM=Qo 9 (HS.QeW):=by kernel_rfl
theorem Qpl:Qc5=Qo 12 (HS.Qe2 QcM):=by kernel_rfl
theorem QqZ:Qdu=Qo 6 (HS.Qex QcU Qc5):=by kernel_rfl
theorem Qoh:Qci=Qo 6 (HS.QgC):=by kernel_rfl
theorem QoR:QcX=Qo 1 (HS.Qgj):=by kernel_rfl
theorem Qmr:QbU=Qo 5 (HS.Qcc):=by kernel_rfl
theorem Qqc:Qa8=Qo 4 (HS.QgS):=by kernel_rfl
theorem QnN:Qct=Qo 4 (HS.QcI Qa0):=by kernel_rfl
theorem Qml:Q4=Qo 2 (HS.Qe5 QaA):=by kernel_rfl
theorem Qji:QaZ=Qo 6 (HS.Qec QX Q4):=by kernel_rfl
theorem QkD:Qbf=Qo 5 (HS.QbJ Qa8):=by kernel_rfl
theorem QoQ:Qc3=Qo 13 (HS.Qf3 Qci QX Q4 QbU QaZ Qct):=by kernel_rfl
theorem Qzi:Qqe=Qo 10 (HS.Qmf Qcq Qdu Qbf Qa8 QcX QbE QaA Qc3 QX Q4):=by kernel_rfl
end
end Law
namespace HS
open PySem PySem.Spec L2
noncomputable def QtQ(mg:Str->Option Value):List Str->Prop
 | []=>True
 | x::r=>mg x=none/\QtQ mg r
theorem Qni{mg:Str->Option Value}:∀{l:List Str},QtQ mg l->∀x∈l,mg x=none
 | [],_,x,h=>by simp at h
 | y::r,h,x,hx=>by
  rcases Zs.mp hx with rfl | hx
  ·exact h.1
  ·exact Qni h.2 x hx
noncomputable def Quf(mg:Str->Option Value):List (Str×Int)->Prop
 | []=>True
 | (x,i)::r=>(∃t,mg x=some (.int i t))/\Quf mg r
theorem Qoa{mg:Str->Option Value}:∀{l:List (Str×Int)},Quf mg l->∀x i,look x l=some i->∃t,mg x=some (.int i t)
 | [],_,x,i,h=>by cases h
 | (y,j)::r,h,x,i,hx=>by
  unfold look at hx
  split at hx
  ·rename_i e;cases hx;subst e;exact h.1
  ·exact Qoa h.2 x i hx
theorem Qw0{mg:Str->Option Value}{cs:List (Str×Int)}(b:QtQ mg QnA)(c:Quf mg cs):Qg9 mg cs:=⟨Qni b,Qoa c⟩
end HS
namespace Law
open HS
theorem Qzz:Qn0 Qcn:=by rw[Qnm,Qv7];exact QvP
theorem QxG:QmP Qbl:=by rw[Qqi];exact Qyq
theorem Qps:QjN Qa6:=by rw[Qo9];exact QrD QxG Qzz
theorem QpB:Qhz Qca:=by rw[Qts];exact QsQ
theorem Qir:Qet QaE:=by rw[QsZ];exact Qr7 QpB
theorem Qwq:QjM QeE:=by rw[QtK];exact Qq9
theorem QpD:Qhn Qb2:=by rw[QrU];exact QsJ Qwq
theorem Qm9:Qgc QaM:=by rw[Qsf];exact Qp8 Qir QpD
theorem QvA:QjR QdT:=by rw[Qt4];exact QrM
theorem Qvb:QkE Qbj:=by rw[QqE];exact QvG
theorem QoB:Qg2 Qad:=by rw[Qnk];exact Qtx Qvb
theorem QAv:Qjg Qcj:=by rw[Qm5];exact Qsw QxG
theorem QzV:QlD QcW:=by rw[QoZ];exact Qum
theorem QAg:Qhg Qd4:=by rw[QrA];exact Qo1 QAv QzV
theorem QzW:Qgn Qbd:=by rw[Qkl];exact Qnh QAg
theorem hTB:QlP QbT:=by rw[QmH];exact Qs4 Qvb QzW
theorem QrO:Qiw QaP:=by rw[Qpm];exact Qu2 QvA
theorem Qsn:QiD QbY:=by rw[Qwh];exact QtC
theorem QxH:Qln Qd6:=by rw[Qss];exact Quj Qsn
theorem Qxi:Qk0 Qbx:=by rw[QlC];exact Qti QoB QxH Qsn Qir
theorem QpX:Qhl QcE:=by rw[QtZ];exact QsY
theorem Qyw:Qlp Qfg:=by rw[QvO];exact Qtq QrO QpX
theorem QzF:Qoq QbO:=by rw[Qmn];exact Qwm QpB Qyw
theorem QpS:Qha Qb8:=by rw[Quv];exact Qr9
theorem Qxm:Qlh QbA:=by rw[Qk4];exact QuA QoB QrO QpS QpX QzF Qxi Qm9
theorem QxB:Qk6 QcP:=by rw[Qpf];exact Qus
theorem QxV:Qis Q8:=by rw[Qmz];exact Quy hTB Qxm QxB QoB QpS Qm9 Qir
theorem QzA:Qob QcQ:=by rw[QoO];exact Qwd
theorem Qx4:QmK Qat:=by rw[Qjo];exact QyC
theorem QyU:Qnq Q8 QbE:=by rw[QlO];exact QvH (Qpt Qps) Qx4
theorem QlH:QfT Q8 QX:=by rw[Qnr];exact QsH QzA (Qpt Qps) Qir QpD Qx4
theorem QyL:QkZ Qcl:=by rw[Qn8];exact QtB
theorem Qxy:QkG QaA:=by rw[QkR];exact QwJ QyL
theorem Qyl:TabsOk Qci:=by rw[Qoh];exact QwC
theorem Qzf:QlA QcX:=by rw[QoR];exact Qs8
theorem Qxx:CellsOk Qcq:=by rw[QnU];exact Qtl
theorem Qy7:QkW QcU:=by rw[Qpq];exact QuS
theorem QzN:Qlt QcM:=by rw[QoU];exact QtM
theorem Qzw:Qle Qc5:=by rw[Qpl];exact Qtg QzN
theorem Qwl:Qhv QbU:=by rw[Qmr];exact QoK
theorem hM1:Qeg 1 QcA:=by rw[QjW];exact Qf1 Qxu
theorem hM2:Qeg 2 QcJ:=by rw[QjU];exact Qf1 hM1
theorem hM3:Qeg 3 QcB:=by rw[QjC];exact Qf1 hM2
theorem hM4:Qeg 4 QcC:=by rw[Qjw];exact Qf1 hM3
theorem QzL:Qeg 4 Qa0:=hM4
theorem QyA:QjP Qct:=by rw[QnN];exact QsE QzL
theorem QAf:Qly Qdu:=by rw[QqZ];exact QuK Qy7 Qzw
theorem Qym:Qj6 Qa8:=by rw[Qqc];exact Qv5
theorem Qlq:Qef Q4:=by rw[Qml];exact Qpi Qxy
theorem Qvq:Qhp Q8 QaZ:=by rw[Qji];exact Qpc QlH Qlq
theorem QzO:Qjs Qbf:=by rw[QkD];exact QrS Qym
theorem QyP:QjD Q8 Qc3:=by rw[QoQ];exact Qrx Qyl QlH Qlq Qwl Qvq QyA
theorem Qxc(ns:List Int)(h:ns.length<=63):∃fr,Qqe [.lst (ns.map .int)]=some (.bl true,fr):=by
 rw[Qzi]
 exact⟨true,QyE QxV Qxx QAf QzO Qym Qzf QyU Qxy QyP QlH Qlq ns h⟩
end Law
namespace PySem.W.Fast
def tw16765117766195088502:=0
def tw5603630351388479072:=0
def tw1623374762570897499:=0
def tw2065029702633480876:=0
def tw10946870558728583602:=0
def tw6178232926556235534:=0
def tw13827716822554389349:=0
def tw13085781986525082417:=0
def tw15568253996263282411:=0
def tw8751246125180657833:=0
def tw11746943693655767272:=0
def tw5224811824132161958:=0
def tw11352152891539960061:=0
def tw10452576692888945986:=0
def tw8688829018601215138:=0
def tw7523418319511563850:=0
def tw2713726418189380606:=0
def tw17388736039436776481:=0
def tw3688130875429511968:=0
def tw12882909493970995370:=0
def tw1082674812134900161:=0
def tw9454419889679100947:=0
def tw4182822714065212717:=0
def tw5650373603086609430:=0
def tw3112404441173004197:=0
def tw4404778522048496774:=0
def tw15095510500209127593:=0
def tw1201003615341246708:=0
def tw2543814908021162332:=0
def tw2715686127628936317:=0
def tw5939803798100065989:=0
def tw10382854343589077973:=0
def tw2898175745945833451:=0
def tw5972519010089695394:=0
def tw15275723004479112641:=0
def tw16439057244232590802:=0
def tw3019406833879169482:=0
def tw8400740783491411225:=0
def tw17403706752179770802:=0
def tw18252901790035385066:=0
def tw9315506370904750013:=0
def tw1071210428261468900:=0
def tw14999668625993266377:=0
def tw18003857448578220129:=0
def tw9865509262608727870:=0
def tw14802306662029861105:=0
def tw7112271498944272755:=0
def tw14763845901435916154:=0
def tw4601867345715413073:=0
def tw705410574621026471:=0
def tw7720966131835155983:=0
def tw15006935323583919116:=0
def tw10640750664858509067:=0
def tw7509213493323144886:=0
def tw950351731911250001:=0
def tw8583050505316928567:=0
def tw11921209501514893949:=0
def tw14980940048172147571:=0
def tw12150797233380009402:=0
def tw1626553048450689231:=0
def tw14607725176622223178:=0
def tw819397513444775880:=0
def tw7609425403442317977:=0
def tw16459994933808766608:=0
def tw15806144280774970467:=0
def tw2711820123641357650:=0
def tw11412228389436289069:=0
def tw12662626293171932136:=0
def tw3030070102421388724:=0
def tw13733514247640147579:=0
def tw15634356969942919714:=0
def tw8643792235781155159:=0
def tw4404766530274203718:=0
def tw10218614990333176942:=0
def tw11263475190855156330:=0
def tw1499095169046332457:=0
def tw12804398659723713482:=0
def tw648831747183377143:=0
def tw7996032448483713852:=0
def tw8086296989260517414:=0
def tw13828121948363714857:=0
def tw2482788235519497472:=0
def tw10925950251047613496:=0
def tw16701708938809258302:=0
def tw6757578259466057184:=0
def tw15147617569648092267:=0
def tw5810685401956256535:=0
def tw11702132101739847274:=0
def tw14481653042229027014:=0
def tw14315288552027506173:=0
def tw677993512379608572:=0
def tw11304088690552267846:=0
def tw8862743909979178578:=0
def tw11465162011665603998:=0
def tw6282111835556552196:=0
def tw8543459111037064398:=0
def tw17007699715831135546:=0
def tw16451103805427498283:=0
def tw13515171105723799298:=0
def tw10383194158836757261:=0
def tw4853004789958631224:=0
def tw18348644581077779996:=0
def tw10673460302647802914:=0
def tw5316395645645252421:=0
def tw11767204953754588629:=0
def tw2896732006767777053:=0
def tw8829619761945704921:=0
def tw5451884016967460695:=0
def tw8649766753940661787:=0
def tw12453361288360136131:=0
def tw11847733764802398734:=0
def tw13514833853193012364:=0
def tw9732427251792174781:=0
def tw9449232202888357225:=0
def tw5255739857696257453:=0
def tw14473195121899126544:=0
def tw1250875125755314966:=0
def tw2520037964798066444:=0
def tw8333327677613846677:=0
def tw8665843251484922441:=0
def tw10433399177830838658:=0
def tw3172934034657316510:=0
def tw13180356589096899233:=0
def tw17892023083656169533:=0
def tw13328068769582349737:=0
def tw8016141721135381643:=0
def tw10664576629423189096:=0
def tw841085363241354605:=0
def tw12532975426516078071:=0
def tw12971336353988049443:=0
def tw15398564325605261730:=0
def tw2482119317363610254:=0
def tw1808988923695587648:=0
def tw6392499091135772541:=0
def tw2595993615372239354:=0
end PySem.W.Fast
open PySem PySem.W PyProof.Rows HS
set_option maxRecDepth 100000 in
set_option maxHeartbeats 0 in
theorem PySem.Challenge.cw_heapstill_k45_whole_places_in_rings_holds : PySem.Challenge.rw_heapstill_k45_whole_places_in_rings.Holds := by
 w_on;o_law;k_head;(case hw=>w_witness2)
 k_fill
 refine HS.QtN (l:=PySem.Challenge.rw_heapstill_k45_whole_places_in_rings) (k:=54) (x:= "_law_script") (den:=Law.Qqe) rfl rfl ⟨rfl,by decide,by decide⟩ (λw h Y=>PySem.W.kIn_of Y) Law.Qxc ?F
 case F=>
  intro w mg fa h KX G hmg
  obtain⟨f_need_rows,f_column,f_turned,f_unit_row,f_unit_table,f_opposite,f_scalar,f_line_by,f_product,f_common,f_with_pivot,f_taken_off,f_cleared,f_cleared_whole,f_turned_back,f_steps,f_toll_table,f_net_table,f_in_common,f_added,f_weighed,f_column_steps,f_within,f_mixed,f_free_column,f_shared,f_right_tables,f_by_number,f_ring_tables,f_middle_entries,f_ring_lengths,f_ring_place,f__law_cells,f__law_whole,f__law_numbers,f__law_measure,f__law_base,f__law_fits,f__law_more,f__law_net,f__law_tolls,f__law_copy,f__law_behind,f__law_row,f__law_alike,f__law_placed,f__law_by_grains,f__law_two_rows,f__law_good,f_law⟩:HS.Fact (L2.KOf KX) "need_rows" Law.Qc1/\HS.Fact (L2.KOf KX) "column" Law.Qen/\HS.Fact (L2.KOf KX) "turned" Law.QeH/\HS.Fact (L2.KOf KX) "unit_row" Law.Qdm/\HS.Fact (L2.KOf KX) "unit_table" Law.Qcx/\HS.Fact (L2.KOf KX) "opposite" Law.Qdp/\HS.Fact (L2.KOf KX) "scalar" Law.QeJ/\HS.Fact (L2.KOf KX) "line_by" Law.QdW/\HS.Fact (L2.KOf KX) "product" Law.QdZ/\HS.Fact (L2.KOf KX) "common" Law.Qep/\HS.Fact (L2.KOf KX) "with_pivot" Law.Qcv/\HS.Fact (L2.KOf KX) "taken_off" Law.QcR/\HS.Fact (L2.KOf KX) "cleared" Law.QdY/\HS.Fact (L2.KOf KX) "cleared_whole" Law.Qbe/\HS.Fact (L2.KOf KX) "turned_back" Law.QbV/\HS.Fact (L2.KOf KX) "steps" Law.Qfm/\HS.Fact (L2.KOf KX) "toll_table" Law.Qcz/\HS.Fact (L2.KOf KX) "net_table" Law.Qc2/\HS.Fact (L2.KOf KX) "in_common" Law.QcN/\HS.Fact (L2.KOf KX) "added" Law.Qfn/\HS.Fact (L2.KOf KX) "weighed" Law.Qd1/\HS.Fact (L2.KOf KX) "column_steps" Law.Qbv/\HS.Fact (L2.KOf KX) "within" Law.QeD/\HS.Fact (L2.KOf KX) "mixed" Law.Qfk/\HS.Fact (L2.KOf KX) "free_column" Law.QbQ/\HS.Fact (L2.KOf KX) "shared" Law.QeB/\HS.Fact (L2.KOf KX) "right_tables" Law.Qby/\HS.Fact (L2.KOf KX) "by_number" Law.Qc0/\HS.Fact (L2.KOf KX) "ring_tables" Law.QbN/\HS.Fact (L2.KOf KX) "middle_entries" Law.QaY/\HS.Fact (L2.KOf KX) "ring_lengths" Law.QbC/\HS.Fact (L2.KOf KX) "ring_place" Law.Qch/\HS.Fact (L2.KOf KX) "_law_cells" Law.Qcw/\HS.Fact (L2.KOf KX) "_law_whole" Law.Qcu/\HS.Fact (L2.KOf KX) "_law_numbers" Law.Qbz/\HS.Fact (L2.KOf KX) "_law_measure" Law.QU/\HS.Fact (L2.KOf KX) "_law_base" Law.QcT/\HS.Fact (L2.KOf KX) "_law_fits" Law.QcZ/\HS.Fact (L2.KOf KX) "_law_more" Law.QcO/\HS.Fact (L2.KOf KX) "_law_net" Law.Qdn/\HS.Fact (L2.KOf KX) "_law_tolls" Law.Qcp/\HS.Fact (L2.KOf KX) "_law_copy" Law.QcV/\HS.Fact (L2.KOf KX) "_law_behind" Law.QbM/\HS.Fact (L2.KOf KX) "_law_row" Law.Qdy/\HS.Fact (L2.KOf KX) "_law_alike" Law.Qco/\HS.Fact (L2.KOf KX) "_law_placed" Law.QbW/\HS.Fact (L2.KOf KX) "_law_by_grains" Law.Qa2/\HS.Fact (L2.KOf KX) "_law_two_rows" Law.Qbc/\HS.Fact (L2.KOf KX) "_law_good" Law.QcY/\HS.Fact (L2.KOf KX) "law" Law.Qiq:=by
   refine⟨?_,?_,?_,?_,?_,?_,?_,?_,?_,?_,?_,?_,?_,?_,?_,?_,?_,?_,?_,?_,?_,?_,?_,?_,?_,?_,?_,?_,?_,?_,?_,?_,?_,?_,?_,?_,?_,?_,?_,?_,?_,?_,?_,?_,?_,?_,?_,?_,?_,?_⟩<;>(dsimp only[L2.KOf];refine' HS.fact_mk ?a ?l ?c ?k;(case a=>k_is);(case l=>k_is);(case c=>k_is);(case k=>k_is))
  have M:HS.Qg9 mg Law.cst:=by
   obtain⟨n_range,n_enumerate,n_zip,n_len,n_list,n_min,n_max,n_sum,n_abs,n_isinstance,n_int,n_bool,n_tuple,n_str,n_divmod,n_sorted,n_any,n_all⟩:PySem.W.nsIn (L2.KOf KX) mainGlobals "range" =some none/\PySem.W.nsIn (L2.KOf KX) mainGlobals "enumerate" =some none/\PySem.W.nsIn (L2.KOf KX) mainGlobals "zip" =some none/\PySem.W.nsIn (L2.KOf KX) mainGlobals "len" =some none/\PySem.W.nsIn (L2.KOf KX) mainGlobals "list" =some none/\PySem.W.nsIn (L2.KOf KX) mainGlobals "min" =some none/\PySem.W.nsIn (L2.KOf KX) mainGlobals "max" =some none/\PySem.W.nsIn (L2.KOf KX) mainGlobals "sum" =some none/\PySem.W.nsIn (L2.KOf KX) mainGlobals "abs" =some none/\PySem.W.nsIn (L2.KOf KX) mainGlobals "isinstance" =some none/\PySem.W.nsIn (L2.KOf KX) mainGlobals "int" =some none/\PySem.W.nsIn (L2.KOf KX) mainGlobals "bool" =some none/\PySem.W.nsIn (L2.KOf KX) mainGlobals "tuple" =some none/\PySem.W.nsIn (L2.KOf KX) mainGlobals "str" =some none/\PySem.W.nsIn (L2.KOf KX) mainGlobals "divmod" =some none/\PySem.W.nsIn (L2.KOf KX) mainGlobals "sorted" =some none/\PySem.W.nsIn (L2.KOf KX) mainGlobals "any" =some none/\PySem.W.nsIn (L2.KOf KX) mainGlobals "all" =some none:=by refine⟨?_,?_,?_,?_,?_,?_,?_,?_,?_,?_,?_,?_,?_,?_,?_,?_,?_,?_⟩<;>(dsimp only[L2.KOf];k_is)
   exact HS.Qw0 ⟨PySem.W.mg_none_of KX G n_range,PySem.W.mg_none_of KX G n_enumerate,PySem.W.mg_none_of KX G n_zip,PySem.W.mg_none_of KX G n_len,PySem.W.mg_none_of KX G n_list,PySem.W.mg_none_of KX G n_min,PySem.W.mg_none_of KX G n_max,PySem.W.mg_none_of KX G n_sum,PySem.W.mg_none_of KX G n_abs,PySem.W.mg_none_of KX G n_isinstance,PySem.W.mg_none_of KX G n_int,PySem.W.mg_none_of KX G n_bool,PySem.W.mg_none_of KX G n_tuple,PySem.W.mg_none_of KX G n_str,PySem.W.mg_none_of KX G n_divmod,PySem.W.mg_none_of KX G n_sorted,PySem.W.mg_none_of KX G n_any,PySem.W.mg_none_of KX G n_all,True.intro⟩ True.intro
  have t0:∀base:Heap,HS.QdH (PySem.Challenge.rw_heapstill_k45_whole_places_in_rings).prog w (L2.KOf KX) mg base 0 []:=λ_=>HS.QdH.nil
  have t_need_rows:=λb=>(t0 b).cons (HS.Qw KX G f_need_rows Law.Qnn Law.Qo7 M (t0 b) Law.Qo4)
  have t_column:=λb=>(t_need_rows b).cons (HS.Qw KX G f_column Law.QsT Law.QtV M (t_need_rows b) Law.Qtm)
  have t_turned:=λb=>(t_column b).cons (HS.Qw KX G f_turned Law.Qsu Law.Quc M (t_column b) Law.Qtz)
  have t_unit_row:=λb=>(t_turned b).cons (HS.Qw KX G f_unit_row Law.Qo5 Law.Qq0 M (t_turned b) Law.QqK)
  have t_unit_table:=λb=>(t_unit_row b).cons (HS.Qw KX G f_unit_table Law.Qmy Law.Qok M (t_unit_row b) Law.QnV)
  have t_opposite:=λb=>(t_unit_table b).cons (HS.Qw KX G f_opposite Law.Qo0 Law.Qqo M (t_unit_table b) Law.QqP)
  have t_scalar:=λb=>(t_opposite b).cons (HS.Qw KX G f_scalar Law.Qsv Law.Qtw M (t_opposite b) Law.Quw)
  have t_line_by:=λb=>(t_scalar b).cons (HS.Qw KX G f_line_by Law.Qqp Law.Qrz M (t_scalar b) Law.Qq8)
  have t_product:=λb=>(t_line_by b).cons (HS.Qw KX G f_product Law.QqX Law.QrK M (t_line_by b) Law.QrI)
  have t_common:=λb=>(t_product b).cons (HS.Qw KX G f_common Law.QrG Law.QuZ M (t_product b) Law.QtS)
  have t_with_pivot:=λb=>(t_common b).cons (HS.Qw KX G f_with_pivot Law.QmF Law.Qou M (t_common b) Law.Qon)
  have t_taken_off:=λb=>(t_with_pivot b).cons (HS.Qw KX G f_taken_off Law.QnF Law.Qpa M (t_with_pivot b) Law.Qpb)
  have t_cleared:=λb=>(t_taken_off b).cons (HS.Qw KX G f_cleared Law.QqT Law.QsL M (t_taken_off b) Law.QsP)
  have t_cleared_whole:=λb=>(t_cleared b).cons (HS.Qw KX G f_cleared_whole Law.QjX Law.Qkj M (t_cleared b) Law.QkF)
  have t_turned_back:=λb=>(t_cleared_whole b).cons (HS.Qw KX G f_turned_back Law.QkT Law.Qmk M (t_cleared_whole b) Law.Qmj)
  have t_steps:=λb=>(t_turned_back b).cons (HS.Qw KX G f_steps Law.QtJ Law.QvB M (t_turned_back b) Law.QvQ)
  have t_toll_table:=λb=>(t_steps b).cons (HS.Qw KX G f_toll_table Law.Qmp Law.Qm0 M (t_steps b) Law.Qnb)
  have t_net_table:=λb=>(t_toll_table b).cons (HS.Qw KX G f_net_table Law.QnM Law.Qpn M (t_toll_table b) Law.Qpp)
  have t_in_common:=λb=>(t_net_table b).cons (HS.Qw KX G f_in_common Law.Qn4 Law.Qpg M (t_net_table b) Law.QoY)
  have t_added:=λb=>(t_in_common b).cons (HS.Qw KX G f_added Law.Qu0 Law.Qv1 M (t_in_common b) Law.Qvm)
  have t_weighed:=λb=>(t_added b).cons (HS.Qw KX G f_weighed Law.Qqv Law.Qsi M (t_added b) Law.Qrg)
  have t_column_steps:=λb=>(t_weighed b).cons (HS.Qw KX G f_column_steps Law.Qj7 Law.Qlw M (t_weighed b) Law.Qli)
  have t_within:=λb=>(t_column_steps b).cons (HS.Qw KX G f_within Law.Qrj Law.Qur M (t_column_steps b) Law.Qt5)
  have t_mixed:=λb=>(t_within b).cons (HS.Qw KX G f_mixed Law.Qs5 Law.QwW M (t_within b) Law.Qwu)
  have t_free_column:=λb=>(t_mixed b).cons (HS.Qw KX G f_free_column Law.QlE Law.QmB M (t_mixed b) Law.Qmv)
  have t_shared:=λb=>(t_free_column b).cons (HS.Qw KX G f_shared Law.Qq7 Law.Qu1 M (t_free_column b) Law.Qtu)
  have t_right_tables:=λb=>(t_shared b).cons (HS.Qw KX G f_right_tables Law.Qks Law.QlJ M (t_shared b) Law.Qlv)
  have t_by_number:=λb=>(t_right_tables b).cons (HS.Qw KX G f_by_number Law.Qow Law.Qpe M (t_right_tables b) Law.QoS)
  have t_ring_tables:=λb=>(t_by_number b).cons (HS.Qw KX G f_ring_tables Law.Qls Law.QmD M (t_by_number b) Law.Qmt)
  have t_middle_entries:=λb=>(t_ring_tables b).cons (HS.Qw KX G f_middle_entries Law.QiO Law.QjQ M (t_ring_tables b) Law.QjJ)
  have t_ring_lengths:=λb=>(t_middle_entries b).cons (HS.Qw KX G f_ring_lengths Law.Qkp Law.QlL M (t_middle_entries b) Law.Qk9)
  have t_ring_place:=λb=>(t_ring_lengths b).cons (HS.Qw KX G f_ring_place Law.Qms Law.Qnv M (t_ring_lengths b) Law.Qol)
  have t__law_cells:=λb=>(t_ring_place b).cons (HS.Qw KX G f__law_cells Law.Qmw Law.Qnu M (t_ring_place b) Law.QnB)
  have t__law_whole:=λb=>(t__law_cells b).cons (HS.Qw KX G f__law_whole Law.QmE Law.QnS M (t__law_cells b) Law.Qm7)
  have t__law_numbers:=λb=>(t__law_whole b).cons (HS.Qw KX G f__law_numbers Law.Qkg Law.QkU M (t__law_whole b) Law.Qlr)
  have t__law_measure_0:=λb=>(t__law_numbers b).cons (HS.QqD KX G f__law_measure Law.Qcr)
  have t__law_measure_1:=λb=>(t__law_measure_0 b).cons (HS.Qw KX G f__law_measure Law.Qda Law.Qcr M (t__law_measure_0 b) Law.QjF)
  have t__law_measure_2:=λb=>(t__law_measure_1 b).cons (HS.Qw KX G f__law_measure Law.Qda Law.Qcr M (t__law_measure_1 b) Law.Qjl)
  have t__law_measure_3:=λb=>(t__law_measure_2 b).cons (HS.Qw KX G f__law_measure Law.Qda Law.Qcr M (t__law_measure_2 b) Law.QjT)
  have t__law_measure_4:=λb=>(t__law_measure_3 b).cons (HS.Qw KX G f__law_measure Law.Qda Law.Qcr M (t__law_measure_3 b) Law.Qjk)
  have t__law_base:=λb=>(t__law_measure_4 b).cons (HS.Qw KX G f__law_base Law.Qoi Law.Qph M (t__law_measure_4 b) Law.QoN)
  have t__law_fits:=λb=>(t__law_base b).cons (HS.Qw KX G f__law_fits Law.Qm2 Law.QoJ M (t__law_base b) Law.QoI)
  have t__law_more:=λb=>(t__law_fits b).cons (HS.Qw KX G f__law_more Law.QnY Law.Qo2 M (t__law_fits b) Law.QoW)
  have t__law_net:=λb=>(t__law_more b).cons (HS.Qw KX G f__law_net Law.Qo8 Law.Qqw M (t__law_more b) Law.QqA)
  have t__law_tolls:=λb=>(t__law_net b).cons (HS.Qw KX G f__law_tolls Law.QmA Law.Qop M (t__law_net b) Law.Qos)
  have t__law_copy:=λb=>(t__law_tolls b).cons (HS.Qw KX G f__law_copy Law.Qoz Law.QoX M (t__law_tolls b) Law.Qpk)
  have t__law_behind:=λb=>(t__law_copy b).cons (HS.Qw KX G f__law_behind Law.Qlf Law.Qmu M (t__law_copy b) Law.Qmm)
  have t__law_row:=λb=>(t__law_behind b).cons (HS.Qw KX G f__law_row Law.QoT Law.Qqf M (t__law_behind b) Law.Qp7)
  have t__law_alike:=λb=>(t__law_row b).cons (HS.Qw KX G f__law_alike Law.Qmx Law.Qot M (t__law_row b) Law.QnC)
  have t__law_placed:=λb=>(t__law_alike b).cons (HS.Qw KX G f__law_placed Law.Qk8 Law.Qmo M (t__law_alike b) Law.QmG)
  have t__law_by_grains:=λb=>(t__law_placed b).cons (HS.Qw KX G f__law_by_grains Law.QiN Law.Qjy M (t__law_placed b) Law.QjI)
  have t__law_two_rows:=λb=>(t__law_by_grains b).cons (HS.Qw KX G f__law_two_rows Law.QjA Law.Qka M (t__law_by_grains b) Law.QkI)
  have t__law_good:=λb=>(t__law_two_rows b).cons (HS.Qw KX G f__law_good Law.Qom Law.Qpd M (t__law_two_rows b) Law.QoM)
  exact HS.Qy1 KX G hmg f_law Law.QxA Law.QzM M (λbase=>t__law_good base) Law.QyY
