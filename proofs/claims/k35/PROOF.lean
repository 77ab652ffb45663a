import PyProof.Rows.All
import Wide.All
import OpenK.AllK
import Wide.FinOn
import Lean
import PyProof.EqAt
import PyProof.EqKinds
import PyProof.TupleCall
import PyProof.ZipIter
import PyProof.EnumMake
import PyProof.Rows.FactsT2
import PyProof.Rows.EnumRows
import PyProof.P3In
import PyProof.NeData
import KE.KUnpack
import PyProof.Rows.SumAny
import PyProof.Rows.MinMaxN
import PyProof.Rows.ListRangeD
import PyProof.Rows.Range3
import PyProof.Rows.RuleM_int
import PyProof.Rows.SortShell
import KE.KTryOn
import PyProof.ExcBaseAll.ValueError
import PyProof.RulesAs
import PyProof.ExcAttrAll.ValueError
import PyProof.Rows.RegTopCatchBFacts
import KE.RegKTryMore
import KE.RegKIsAll
import PySem.Challenge.RW_heapstill_k35_whole_ring_tables
set_option Elab.async false
set_option linter.all false
set_option maxRecDepth 100000
def Za:= @Option.bind_some
def Zb:= @List.getElem?_set_ne
def Zc:= @List.mem_append_right
def Zd:= @List.getElem?_eq_some_iff
def Ze:= @List.getElem?_set_self
def Zf:= @Option.map_eq_some_iff
def Zg:= @List.mem_cons_of_mem
def Zh:= @List.mem_append_left
def Zi:= @Nat.le_refl
def Zj:= @Bool.and_eq_true
def Zk:= @Nat.le_trans
def Zl:= @List.getElem?_map
def Zm:= @List.mem_cons
def Zn:= @PySem.Heap.get?_push_of_some
def Zo:= @List.length_range
def Zp:= @Nat.lt_of_lt_of_le
def Zq:= @List.mem_cons_self
def Zr:= @List.mem_range
def Zs:= @List.getElem?_eq_none
def Zt:= @List.length_append
def Zu:= @Int.mul_zero
def Zv:= @List.lookup_cons
def Zw:= @List.size_toArray
def Zx:= @List.length_map
def Zy:= @PySem.Heap.lt_size
def Zz:= @List.length_set
def ZA:= @List.mem_singleton
def ZC:= @Int.toNat_natCast
def ZD:= @Int.zero_mul
def ZE:= @List.length_cons
def ZF:= @Int.emod_lt_of_pos
def ZG:= @List.getElem?_range
def ZH:= @Nat.pow_le_pow_right
def ZI:= @Int.mul_assoc
def ZJ:= @List.mem_append
def ZK:= @Int.mul_left_comm
def ZL:= @List.map_cons
def ZM:= @Int.emod_nonneg
def ZN:= @PySem.Heap.get?_push_size
def ZO:= @List.map_congr_left
def ZP:= @List.count_eq_zero
def ZQ:= @Int.one_mul
def ZR:= @PyProof.Rows.callWith_type1
def ZS:= @Nat.zero_le
def ZT:= @Int.natAbs_mul
def ZU:= @Nat.ne_of_lt
def ZV:= @Int.add_mul
def ZW:= @Nat.lt_of_le_of_lt
def ZX:= @Int.mul_one
def ZY:= @Option.map_some
def ZZ:= @Nat.lt_irrefl
def Zaa:= @List.count_pos_iff
def Zab:= @Int.mul_comm
def Zac:= @Int.natCast_mul
def Zad:= @PySem.mem_of_lookup
def Zae:= @List.replicate_succ
def Zaf:= @List.mem_map
def Zag:= @List.count_append
def Zah:= @List.nodup_iff_count
def Zai:= @List.all_eq_true
def Zaj:= @List.drop_eq_getElem_cons
def Zak:= @List.flatten_cons
def Zal:= @Int.natAbs_dvd_natAbs
def Zam:= @List.getElem?_eq_getElem
def Zan:= @List.nodup_cons
def Zao:= @Bool.false_ne_true
def Zap:= @Int.dvd_mul_of_dvd_left
def Zaq:= @List.nodup_nil
def Zar:= @List.getD_eq_getElem?_getD
def Zas:= @Int.mul_add
def Zat:= @Int.dvd_add
def Zau:= @List.getElem?_append_left
def Zav:= @Int.eq_of_mul_eq_mul_left
def Zaw:= @List.sum_cons
def Zax:= @Int.neg_mul
def Zay:= @List.reverse_cons
def Zaz:= @List.map_append
def ZaA:= @Int.sub_add_cancel
def ZaB:= @List.set_eq_take_append_cons_drop
def ZaC:= @Classical.byContradiction
def ZaD:= @List.mem_filter
def ZaE:= @List.count_cons
def ZaF:= @Int.natCast_add
def ZaG:= @List.mem_of_getElem?
def ZaH:= @Nat.mul_comm
def ZaI:= @List.nodup_append
def ZaJ:= @Bool.not_eq_true'
def ZaK:= @Int.mul_le_mul_of_nonneg_right
def ZaL:= @Nat.mul_le_mul
def ZaM:= @List.take_of_length_le
def ZaN:= @List.map_map
def ZaO:= @List.range_succ_eq_map
def ZaP:= @Nat.add_sub_cancel
def ZaQ:= @Int.zero_sub
def ZaR:= @PySem.W.kia_one
def ZaS:= @List.take_append_drop
def ZaT:= @List.ext_getElem?
def ZaU:= @Int.natAbs_add_le
def ZaV:= @PySem.Heap.size_push
def ZaW:= @Int.dvd_sub
def ZaX:= @Nat.mul_le_mul_right
def ZaY:= @List.length_take
def ZaZ:= @List.cons_append
def Zba:= @Int.add_zero
def Zbb:= @Nat.pow_succ
def Zbc:= @PyProof.noPylong_of_log2
def Zbd:= @List.nil_append
def Zbe:= @List.length_nil
def Zbf:= @List.mem_filterMap
def Zbg:= @Int.mul_nonpos_of_nonneg_of_nonpos
def Zbh:= @Nat.le_succ
def Zbi:= @PySem.F.plainAttrs_list
def Zbj:= @PyProof.Rows.intBits_le
def Zbk:= @Nat.le_of_lt
def Zbl:= @List.append_assoc
def Zbm:= @Nat.lt_succ_of_lt
def Zbn:= @PyProof.Rows.boot_list
def Zbo:= @List.length_singleton
def Zbp:= @List.contains_iff_mem
def Zbq:= @Nat.lt_succ_self
def Zbr:= @List.mem_flatten
def Zbs:= @Nat.min_le_right
def Zbt:= @Nat.add_le_add_right
def Zbu:= @Int.neg_neg
def Zbv:= @List.append_nil
def Zbw:= @List.filterMap_cons
def Zbx:= @List.sum_append_int
def Zby:= @Int.sub_self
def Zbz:= @List.getElem?_append_right
def ZbA:= @Int.mul_nonneg
def ZbB:= @List.getElem?_eq_none_iff
def ZbC:= @List.getElem?_set
def ZbD:= @Option.isSome_iff_exists
def ZbE:= @List.getElem?_replicate
def ZbF:= @List.not_mem_nil
def ZbG:= @List.foldlM_cons
def ZbH:= @PyProof.Rows.boot_tuple
def ZbI:= @Classical.axiomOfChoice
def ZbJ:= @Nat.le_mul_of_pos_right
def ZbK:= @PySem.W.cellsFrom_some
def ZbL:= @Nat.succ_mul
def ZbM:= @Nat.lt_trans
def ZbN:= @List.all_map
def ZbO:= @Int.fmod_nonneg_of_pos
def ZbP:= @Nat.zero_add
def ZbQ:= @List.of_mem_zip
def ZbR:= @Bool.or_eq_true
def ZbS:= @List.range_succ
def ZbT:= @Nat.min_eq_left
def ZbU:= @Nat.log2_lt
def ZbV:= @Int.le_refl
def ZbW:= @Int.mul_sub
def ZbX:= @PySem.W.mg_of
namespace L2
open PySem PySem.Spec PyProof.Rows
noncomputable abbrev Key:=Sum Int Str
noncomputable def Qt3:Key->Value->Bool
 | .inl k,v=>Value.isInt k v
 | .inr x,v=>Value.isStrOf x v
noncomputable def Qy0(w:World):Key->Int
 | .inl k=>hashInt k
 | .inr x=>hashStr w x
theorem QaZ:∀{k:Key}{v:Value},Qt3 k v=true->(∃i t,k=Sum.inl i/\v=Value.int i t)∨(∃x t,k=Sum.inr x/\v=Value.str x t)
 | .inl i,v,h=>by
  obtain⟨t,e⟩:=Value.isInt_shape (k:=i) (v:=v) h
  exact .inl ⟨i,t,rfl,e⟩
 | .inr x,v,h=>by
  obtain⟨t,e⟩:=Value.isStrOf_shape (x:=x) (v:=v) h
  exact .inr ⟨x,t,rfl,e⟩
theorem QvL(a b:Int):decide ((Sum.inl a:Key)=Sum.inl b)=(a == b):=by
 by_cases e:a=b
 ·subst e;simp
 ·have h:¬(Sum.inl a:Key)=Sum.inl b:=λq=>e (Sum.inl.inj q)
  rw[decide_eq_false h]
  exact(beq_eq_false_iff_ne.mpr e).symm
theorem QvQ(a b:Str):decide ((Sum.inr a:Key)=Sum.inr b)=decide (a=b):=by
 by_cases e:a=b
 ·subst e;simp
 ·have h:¬(Sum.inr a:Key)=Sum.inr b:=λq=>e (Sum.inr.inj q)
  rw[decide_eq_false h,decide_eq_false e]
theorem QwY(a:Int)(b:Str):decide ((Sum.inl a:Key)=Sum.inr b)=false:=decide_eq_false (λq=>nomatch q)
theorem Qwn(a:Str)(b:Int):decide ((Sum.inr a:Key)=Sum.inl b)=false:=decide_eq_false (λq=>nomatch q)
noncomputable def Qkv(prog:Program)(w:World):PySem.KeyKind prog w Key where
 is:=Qt3
 hash:=Qy0 w
 inj:=λv a b ha hb=>by
  rcases QaZ ha with⟨i,t,rfl,rfl⟩ | ⟨x,t,rfl,rfl⟩
  ·rcases QaZ hb with⟨j,u,rfl,e⟩ | ⟨y,u,rfl,e⟩
   ·injection e with e1 _;rw[e1]
   ·exact nomatch e
  ·rcases QaZ hb with⟨j,u,rfl,e⟩ | ⟨y,u,rfl,e⟩
   ·exact nomatch e
   ·injection e with e1 _;rw[e1]
 byValue:=λk v h=>by
  rcases QaZ h with⟨i,t,rfl,rfl⟩ | ⟨x,t,rfl,rfl⟩<;>rfl
 pyHash:=λhv h=>by
  rcases QaZ hv with⟨i,t,rfl,rfl⟩ | ⟨x,t,rfl,rfl⟩
  ·exact wpAny_pyHash_int h
  ·exact wpAny_pyHash_str h
 eqBool:=λhu hv h=>by
  rcases QaZ hu with⟨i,t,rfl,rfl⟩ | ⟨x,t,rfl,rfl⟩
  ·rcases QaZ hv with⟨j,u,rfl,rfl⟩ | ⟨y,u,rfl,rfl⟩
   ·rw[QvL]at h;exact wpAny_eqBool_int h
   ·rw[QwY]at h;exact SeqAt.EqAt.int_str i t y u _ _ _ _ h
  ·rcases QaZ hv with⟨j,u,rfl,rfl⟩ | ⟨y,u,rfl,rfl⟩
   ·rw[Qwn]at h;exact SeqAt.EqAt.str_int x t j u _ _ _ _ h
   ·rw[QvQ]at h;exact wpAny_eqBool_str h
 «strs» :=λk x t v h=>by
  rcases QaZ h with⟨i,u,rfl,e⟩ | ⟨y,u,rfl,e⟩
  ·exact nomatch e
  ·injection e with e1 _
   subst e1
   cases v<;>rfl
end L2
namespace L2
open PySem PySem.Spec PyProof.Rows
inductive V where
 | non | bl (b:Bool) | int (i:Int) | str (x:Str) | byt (b:Array UInt8) | flt (b:UInt64) | ref (a:Addr) | ty (n:String)
 deriving DecidableEq
noncomputable def RelV:V->Value->Prop
 | .non,u=>u=Value.none
 | .bl b,u=>u=Value.bool b
 | .int i,u=>∃t,u=Value.int i t
 | .str x,u=>∃t,u=Value.str x t
 | .byt b,u=>∃t,u=Value.bytes b t
 | .flt b,u=>∃t,u=Value.float b t
 | .ref a,u=>u=Value.ref a
 | .ty n,u=>u=Value.type n
noncomputable abbrev QD:List V->List Value->Prop:=Paired RelV
theorem QD.length{xs:List V}{us:List Value}(r:QD xs us):xs.length=us.length:=Paired.length r
theorem QD.get:∀{xs:List V}{us:List Value}{i:Nat}{x:V},QD xs us->xs[i]? =some x->∃u,us[i]? =some u/\RelV x u
 | _,_,_,_,.nil,e=>by simp at e
 | _,_,0,_,.cons r _,e=>by simp at e;subst e;exact⟨_,rfl,r⟩
 | _,_,i+1,x,.cons _ t,e=>by
  obtain⟨u,h1,h2⟩:=QD.get (i:=i) (x:=x) t (by simpa using e)
  exact⟨u,by simpa using h1,h2⟩
theorem QD.set{x:V}{u:Value}(r:RelV x u):∀{xs:List V}{us:List Value}(i:Nat),QD xs us->QD (xs.set i x) (us.set i u)
 | _,_,_,.nil=> .nil
 | _,_,0,.cons _ t=> .cons r t
 | _,_,i+1,.cons q t=> .cons q (QD.set r i t)
theorem QD.append:∀{xs ys:List V}{us ws:List Value},QD xs us->QD ys ws->QD (xs++ys) (us++ws)
 | _,_,_,_,.nil,s=>s
 | _,_,_,_,.cons r t,s=> .cons r (QD.append t s)
theorem QD.take:∀{xs:List V}{us:List Value}(n:Nat),QD xs us->QD (xs.take n) (us.take n)
 | _,_,0,_=> .nil
 | _,_,_+1,.nil=> .nil
 | _,_,n+1,.cons r t=> .cons r (QD.take n t)
theorem QD.drop:∀{xs:List V}{us:List Value}(n:Nat),QD xs us->QD (xs.drop n) (us.drop n)
 | _,_,0,r=>r
 | _,_,_+1,.nil=> .nil
 | _,_,n+1,.cons _ t=>QD.drop n t
theorem QD.none_of:∀{xs:List V}{us:List Value}{i:Nat},QD xs us->xs[i]? =none->us[i]? =none:=λ{xs us i} r e=>by
 have h1:=r.length
 have h2:xs.length<=i:=ZbB.mp e
 exact ZbB.mpr (by omega)
noncomputable def Qk5:Option V->Option Value->Prop
 | some v,some u=>RelV v u
 | none,none=>True
 | _,_=>False
noncomputable def KV{κ:Type}:List (κ×V)->List (κ×Value)->Prop:=Paired λ(p:κ×V) (q:κ×Value)=>p.1=q.1/\RelV p.2 q.2
noncomputable def kV:Key->V
 | .inl i=> .int i
 | .inr x=> .str x
inductive HO where
 | lst (xs:List V)
 | tup (xs:List V)
 | dK (kvs:List (Key×V)) | dT (kvs:List (List Key×V))
 | set (S:Int->Bool) (n:Nat)
 | ins (C dx:Addr) (fs:List (Str×V))
 | own (x:Addr)
 | xd (fs:List (Str×V))
 | met (f x:Addr)
 | rng (lo hi:Int)
 | frz (o:Obj) (u:HO)
 | tbl (ps:Array Value)
 | ext (φ:Heap->Prop)
noncomputable abbrev Hp:=Addr->Option HO
noncomputable def upd(H:Hp)(a:Addr)(o:HO):Hp:=λb=>if b=a then some o else H b
theorem Qai{H:Hp}{a:Addr}{o:HO}:upd H a o a=some o:=by unfold upd;rw[if_pos rfl]
theorem QQ{H:Hp}{a b:Addr}{o:HO}(h:b≠a):upd H a o b=H b:=by unfold upd;rw[if_neg h]
theorem Qmc{H:Hp}{a b:Addr}{o u:HO}(h:H a=some o)(h':H b=some u)(d:o≠u):a≠b:=by
 intro e;subst e;rw[h]at h';exact d (Option.some.inj h')
theorem QbN{H:Hp}{a b:Addr}{o:HO}(h:H a=some o)(h':H b=none):a≠b:=by
 intro e;subst e;rw[h]at h';cases h'
section
variable (P:Program) (w:World)
noncomputable def Qcr(H:Hp)(h:Heap)(a:Addr):HO->Prop
 | .lst xs=>xs.length<=sizeLine/\∃(its:List Value) (n:Nat),QD xs its/\h.get? a=some {cls:= .type "list",data:= .seq its.toArray n}
 | .tup xs=>xs.length<=sizeLine/\∃its:List Value,QD xs its/\IsTup h a its.toArray
 | .dK kvs=>kvs.length<=sizeLine/\(a == sysModules)=false/\∃vs,KV kvs vs/\h.DictOf (Qkv P w) a vs
 | .dT kvs=>kvs.length<=sizeLine/\(a == sysModules)=false/\∃xs:List (List Key×Addr×Value),
   Paired (λ(p:List Key×V) (q:List Key×Addr×Value)=>p.1=q.1/\H q.2.1=some (.tup (p.1.map kV))/\RelV p.2 q.2.2) kvs xs∧
   ∃o es ep,h.get? a=some o/\o.ExactDict/\o.data= .dict es ep/\es.toList=xs.map (entryOfKey (tupleKind (Qkv P w)))/\(xs.map (·.1)).Nodup
 | .set S n=>h.SetOf (intKind P w) a S n
 | .ins C dx fs=>H dx=some (.own a)/\fs.length<=1000/\dx≠a/\h.get? a=some (PySem.W.instObj C dx)∧
   ∃mA,h.Ns1 dx mA/\(∀f,Qk5 (fs.lookup f) (mA f))/\PySem.Within mA (fs.map (·.1))
 | .own _=>∃o,h.get? a=some o
 | .xd fs=>∃mA,h.Ns1 a mA/\∀f,Qk5 (fs.lookup f) (mA f)
 | .rng lo hi=>∃t u v,h.get? a=some {cls:= .type "range",data:= .fields #[.int lo t,.int hi u,.int 1 v]}
 | .frz o u=>h.get? a=some o/\Qcr H h a u
 | .tbl ps=>h.get? a=some {cls:= .none,data:= .fields ps}
 | .met f x=>h.get? a=some (PySem.W.methodObj (.ref f) (.ref x))
 | .ext φ=>φ h/\(∃o,h.get? a=some o)/\∀h1 h2:Heap,φ h1->(∀o,h1.get? a=some o->h2.get? a=some o)->φ h2
def HOk(H:Hp)(h:Heap):Prop:=∀a o,H a=some o->Qcr P w H h a o
end
section
variable {P:Program}{w:World}{H H':Hp}{h h':Heap}{a:Addr}{o:HO}
theorem Qcr.lt(x:Qcr P w H h a o):a<h.objs.size:=by
 cases o with
 | lst xs=>obtain⟨_,_,_,_,e⟩:=x;exact Zy e
 | tup xs=>obtain⟨_,_,_,p⟩:=x;exact p.lt
 | dK kvs=>obtain⟨_,_,_,_,o,_,_,e,_⟩:=x;exact Zy e
 | dT kvs=>obtain⟨_,_,_,_,o,_,_,e,_⟩:=x;exact Zy e
 | set S n=>obtain⟨o,_,_,_,e,_⟩:=x;exact Zy e
 | ins C dx fs=>obtain⟨_,_,_,e,_⟩:=x;exact Zy e
 | own y=>obtain⟨_,e⟩:=x;exact Zy e
 | xd fs=>obtain⟨_,⟨_,_,_,e,_⟩,_⟩:=x;exact Zy e
 | rng lo hi=>obtain⟨_,_,_,e⟩:=x;exact Zy e
 | frz ob u=>obtain⟨e,_⟩:=x;exact Zy e
 | tbl ps=>exact Zy (show h.get? a=some _ from x)
 | met f y=>exact Zy (show h.get? a=some _ from x)
 | ext φ=>obtain⟨_,⟨_,e⟩,_⟩:=x;exact Zy e
theorem Paired.Qv6{α β:Type}{F G:α->β->Prop}:∀{l₁:List α}{l₂:List β},Paired F l₁ l₂->(∀a b,F a b->G a b)->Paired G l₁ l₂
 | _,_,.nil,_=> .nil
 | _,_,.cons r t,f=> .cons (f _ _ r) (Paired.Qv6 t f)
theorem Qcr.Qi2(x:Qcr P w H h a o)(k:∀b u,(b=a∨H b=some (.own a))->h.get? b=some u->h'.get? b=some u)
  (ho:∀b,H b=some (.own a)->H' b=some (.own a)) (ht:∀b xs,H b=some (.tup xs)->H' b=some (.tup xs)):Qcr P w H' h' a o:=by
 induction o with
 | lst xs=>obtain⟨z,its,n,r,e⟩:=x;exact⟨z,its,n,r,k _ _ (.inl rfl) e⟩
 | tup xs=>obtain⟨z,its,r,ob,e,c⟩:=x;exact⟨z,its,r,ob,k _ _ (.inl rfl) e,c⟩
 | dK kvs=>obtain⟨z,y,vs,r,ob,es,ep,e,c⟩:=x;exact⟨z,y,vs,r,ob,es,ep,k _ _ (.inl rfl) e,c⟩
 | dT kvs=>
  obtain⟨z,y,xs,r,ob,es,ep,e,c⟩:=x
  exact⟨z,y,xs,Paired.Qv6 r λp q z=>⟨z.1,ht _ _ z.2.1,z.2.2⟩,ob,es,ep,k _ _ (.inl rfl) e,c⟩
 | set S n=>obtain⟨ob,es,ep,t,e,c⟩:=x;exact⟨ob,es,ep,t,k _ _ (.inl rfl) e,c⟩
 | ins C dx fs=>
  obtain⟨d,z,ne,e,mA,⟨od,es,ep,e2,c⟩,r⟩:=x
  exact⟨ho _ d,z,ne,k _ _ (.inl rfl) e,mA,⟨od,es,ep,k _ _ (.inr d) e2,c⟩,r⟩
 | own y=>obtain⟨ob,e⟩:=x;exact⟨ob,k _ _ (.inl rfl) e⟩
 | xd fs=>obtain⟨mA,⟨od,es,ep,e,c⟩,r⟩:=x;exact⟨mA,⟨od,es,ep,k _ _ (.inl rfl) e,c⟩,r⟩
 | rng lo hi=>obtain⟨t,u,v,e⟩:=x;exact⟨t,u,v,k _ _ (.inl rfl) e⟩
 | frz ob u ih=>obtain⟨e,q⟩:=x;exact⟨k _ _ (.inl rfl) e,ih q⟩
 | tbl ps=>
  have e:h.get? a=some {cls:= .none,data:= .fields ps}:=x
  show h'.get? a=some {cls:= .none,data:= .fields ps}
  exact k a _ (.inl rfl) e
 | met f y=>
  have e:h.get? a=some (PySem.W.methodObj (.ref f) (.ref y)):=x
  show h'.get? a=some (PySem.W.methodObj (.ref f) (.ref y))
  exact k a _ (.inl rfl) e
 | ext φ=>obtain⟨p,⟨o,e⟩,st⟩:=x;exact⟨st _ _ p λo q=>k _ _ (.inl rfl) q,⟨o,k _ _ (.inl rfl) e⟩,st⟩
theorem HOk.lt(x:HOk P w H h)(e:H a=some o):a<h.objs.size:=(x a o e).lt
theorem HOk.fresh(x:HOk P w H h)(e:h.objs.size<=a):H a=none:=by
 cases q:H a with
 | none=>rfl
 | some u=>exact absurd (Zp (x.lt q) e) (ZZ _)
theorem HOk.kept(x:HOk P w H h)(k:∀b u,h.get? b=some u->h'.get? b=some u):HOk P w H h':=λa o e=>
 (x a o e).Qi2 (λb u _ q=>k b u q) (λ_ q=>q) λ_ _ q=>q
theorem HOk.laid(x:HOk P w H h)(k:∀b u,h.get? b=some u->h'.get? b=some u)(hp:h.objs.size<=a)(new:Qcr P w (upd H a o) h' a o):HOk P w (upd H a o) h':=λb u e=>by
 have hn:=x.fresh hp
 by_cases hb:b=a
 ·subst hb;rw[Qai]at e;cases e;exact new
 ·rw[QQ hb]at e
  exact(x b u e).Qi2 (λc v _ q=>k c v q) (λc q=>by rw[QQ (QbN q hn)];exact q) λc xs q=>by rw[QQ (QbN q hn)];exact q
end
def Rd(H:Hp)(a:Addr)(u:HO):Prop:=H a=some u∨∃o,H a=some (.frz o u)
theorem Rd.of{H:Hp}{a:Addr}{u:HO}(h:H a=some u):Rd H a u:= .inl h
theorem Rd.ok{P:Program}{w:World}{H:Hp}{h:Heap}{a:Addr}{u:HO}(r:Rd H a u)(x:HOk P w H h):Qcr P w H h a u:=by
 rcases r with r | ⟨o,r⟩
 ·exact x a u r
 ·obtain⟨_,q⟩:=x a _ r
  exact q
noncomputable def Mut:Option HO->Prop
 | some (.lst _)=>True
 | some (.dK _)=>True
 | some (.dT _)=>True
 | some (.set _ _)=>True
 | some (.ins _ _ _)=>True
 | some (.ext _)=>True
 | _=>False
section
variable {P:Program}{w:World}{H:Hp}{h h':Heap}{x e:Addr}{o':HO}
theorem HOk.write(ok:HOk P w H h)(mu:Mut (H x))(he:e=x∨H e=some (.own x))(k:∀b u,b≠e->h.get? b=some u->h'.get? b=some u)(heo:∃u,h'.get? e=some u)
  (new:Qcr P w (upd H x o') h' x o'):HOk P w (upd H x o') h':=λb u q=>by
 have nown:∀c y,H c=some (.own y)->c≠x:=λc y r z=>by subst z;rw[r]at mu;exact mu
 have ntup:∀c xs,H c=some (.tup xs)->c≠x:=λc xs r z=>by subst z;rw[r]at mu;exact mu
 by_cases hb:b=x
 ·subst hb;rw[Qai]at q;cases q;exact new
 ·rw[QQ hb]at q
  by_cases hbe:b=e
  ·have q':H b=some (.own x):=by
    rcases he with z | z
    ·exact absurd (hbe.trans z) hb
    ·rw[hbe];exact z
   rw[q]at q';cases q'
   obtain⟨v,hv⟩:=heo
   exact⟨v,by rw[hbe];exact hv⟩
  ·refine(ok b u q).Qi2 (λc v hc r=>k c v ?_ r) (λc r=>by rw[QQ (nown c b r)];exact r) λc xs r=>by rw[QQ (ntup c xs r)];exact r
   rcases hc with rfl | hc
   ·exact hbe
   ·rintro rfl
    rcases he with z | z
    ·exact nown c b hc z
    ·rw[hc]at z;cases z;exact hb rfl
end
structure Un (fs ex:List Addr) (H H':Hp) (h h':Heap):Prop where
 keep:∀b o,h.get? b=some o->H b=none->b∉fs->b∉ex->h'.get? b=some o
 slot:∀b o,h.get? b=some o->H b=none->b∈fs->b∉ex->∃sl,h'.get? b=some {o with slots:=sl}
 free:∀b o,h.get? b=some o->H b=none->b∉ex->H' b=none
 there:∀b o,h.get? b=some o->b∉ex->∃o',h'.get? b=some o'
 tups:∀b xs,H b=some (.tup xs)->H' b=some (.tup xs)
 frzs:∀b o u,H b=some (.frz o u)->H' b=some (.frz o u)
 tbls:∀b ps,H b=some (.tbl ps)->∃more,H' b=some (.tbl (ps++more))
section
variable {fs fs' ex ex':List Addr}{H H1 H2:Hp}{h h1 h2 h':Heap}{a x e:Addr}{o:HO}
theorem Un.any(u:Un fs ex H H1 h h1){b:Addr}{ob:Obj}(q:h.get? b=some ob)(n:H b=none)(hx:b∉ex):∃sl,h1.get? b=some {ob with slots:=sl}:=by
 by_cases hb:b∈fs
 ·exact u.slot b ob q n hb hx
 ·exact⟨ob.slots,u.keep b ob q n hb hx⟩
theorem Un.trans(a:Un fs ex H H1 h h1)(b:Un fs ex H1 H2 h1 h2):Un fs ex H H2 h h2 where
 keep:=λc ob q n hc hx=>b.keep c ob (a.keep c ob q n hc hx) (a.free c ob q n hx) hc hx
 slot:=λc ob q n hc hx=>by
  obtain⟨sl,e1⟩:=a.slot c ob q n hc hx
  obtain⟨sl',e2⟩:=b.slot c _ e1 (a.free c ob q n hx) hc hx
  exact⟨sl',e2⟩
 free:=λc ob q n hx=>by
  obtain⟨o',e1⟩:=a.there c ob q hx
  exact b.free c o' e1 (a.free c ob q n hx) hx
 there:=λc ob q hx=>by
  obtain⟨o',e1⟩:=a.there c ob q hx
  exact b.there c o' e1 hx
 tups:=λc xs q=>b.tups c xs (a.tups c xs q)
 frzs:=λc ob xs q=>b.frzs c ob xs (a.frzs c ob xs q)
 tbls:=λc ps q=>by
  obtain⟨m1,e1⟩:=a.tbls c ps q
  obtain⟨m2,e2⟩:=b.tbls c _ e1
  exact⟨m1++m2,by rw[e2,Array.append_assoc]⟩
theorem Un.kept(k:∀b u,h.get? b=some u->h'.get? b=some u):Un fs ex H H h h':=
 ⟨λb ob q _ _ _=>k b ob q,λb ob q _ _ _=>⟨ob.slots,k b ob q⟩,λ_ _ _ n _=>n,λb ob q _=>⟨ob,k b ob q⟩,λ_ _ q=>q,λ_ _ _ q=>q,λ_ ps q=>⟨#[],by rw[q];simp⟩⟩
theorem Un.refl:Un fs ex H H h h:=Un.kept λ_ _ q=>q
theorem Un.laid(k:∀b u,h.get? b=some u->h'.get? b=some u)(hp:h.objs.size<=a)(hn:H a=none):Un fs ex H (upd H a o) h h' where
 keep:=λb u q _ _ _=>k b u q
 slot:=λb u q _ _ _=>⟨u.slots,k b u q⟩
 free:=λb u q n _=>by rw[QQ (ZU (Zp (Zy q) hp))];exact n
 there:=λb u q _=>⟨u,k b u q⟩
 tups:=λb xs q=>by rw[QQ (QbN q hn)];exact q
 frzs:=λb u xs q=>by rw[QQ (QbN q hn)];exact q
 tbls:=λb ps q=>⟨#[],by rw[QQ (QbN q hn),q];simp⟩
theorem Un.write(mu:Mut (H x))(he:e=x∨H e=some (.own x))(k:∀b u,b≠e->h.get? b=some u->h'.get? b=some u)(heo:∃u,h'.get? e=some u):Un fs ex H (upd H x o) h h':=by
 have hx:∀b,H b=none->b≠x:=λb n z=>by subst z;rw[n]at mu;exact mu
 have hb:∀b,H b=none->b≠e:=λb n z=>by
  subst z
  rcases he with r | r
  ·exact hx b n r
  ·rw[n]at r;cases r
 have hm:∀b u,H b=some u->¬Mut (some u)->b≠x:=λb u q nm z=>by subst z;rw[q]at mu;exact nm mu
 refine⟨λb u q n _ _=>k b u (hb b n) q,λb u q n _ _=>⟨u.slots,k b u (hb b n) q⟩,λb u q n _=>by rw[QQ (hx b n)];exact n,λb u q _=>?_,
  λb xs q=>by rw[QQ (hm b _ q λz=>z)];exact q,λb u xs q=>by rw[QQ (hm b _ q λz=>z)];exact q,λb ps q=>⟨#[],by rw[QQ (hm b _ q λz=>z),q];simp⟩⟩
 by_cases hbe:b=e
 ·subst hbe;exact heo
 ·exact⟨u,k b u hbe q⟩
theorem Un.mono(u:Un fs ex H H1 h h1)(hs:∀b∈fs,b∈fs')(hx:∀b∈ex,b∈ex'):Un fs' ex' H H1 h h1:=
 ⟨λb ob q n hb he=>u.keep b ob q n (λz=>hb (hs b z)) λz=>he (hx b z),λ_ _ q n _ he=>u.any q n λz=>he (hx _ z),λb ob q n he=>u.free b ob q n λz=>he (hx b z),λb ob q he=>u.there b ob q λz=>he (hx b z),u.tups,u.frzs,u.tbls⟩
end
noncomputable def trk(h:Heap)(H:Hp):List Addr:=(List.range h.objs.size).filter λa=>(H a).isSome
noncomputable def Qgu(h:Heap)(H:Hp):Heap:=PySem.W.hideAll h (trk h H)
theorem Qrn(h:Heap)(H:Hp):(Qgu h H).objs.size=h.objs.size:=PySem.W.hideAll_size _ _
theorem Qtw{h:Heap}{H:Hp}{b:Addr}{o:Obj}(e:h.get? b=some o)(n:H b=none):(Qgu h H).get? b=some o:=
 PySem.W.hideAll_get _ e λhm=>by
  have q:(H b).isSome=true:=(ZaD.mp hm).2
  rw[n]at q;simp at q
theorem Qus{h:Heap}{H:Hp}{b:Addr}{o:Obj}(e:(Qgu h H).get? b=some o):h.get? b=some o/\H b=none:=by
 have e':h.get? b=some o:=PySem.W.of_hideAll (trk h H) e
 refine⟨e',?_⟩
 cases q:H b with
 | none=>rfl
 | some x=>
  have hm:b∈trk h H:=ZaD.mpr ⟨Zr.mpr (Zy e'),by simp[q]⟩
  have z:(Qgu h H).get? b=none:=PySem.W.hideAll_none (trk h H) hm
  rw[z]at e;cases e
noncomputable def Qvn(g h:Heap)(L:Addr):List (Addr×Obj):=(List.range h.objs.size).filterMap λa=>if a=L∨(g.get? a).isSome=true then none else(h.get? a).map λo=>(a,o)
noncomputable def rest(g h:Heap)(L d:Addr):List (Addr×Obj):=(Qvn g h L).filter λp=>decide (p.1≠d)
end L2
namespace L2
open PySem PySem.Spec PyProof.Rows
structure Mod (K:PySem.W.Frag) (mg:Str->Option Value) (base:Heap):Prop where
 kin:K.In base
 glob:base.Ns mainGlobals mg
 blt:∃mb,base.Ns builtinsNs mb/\∀x:Str,x≠ "__name__" ->mb x=bootBuiltins x
 nolimit:base.NoLimit
structure Cx where
 prog:Program
 w:World
 K:PySem.W.Frag
 mg:Str->Option Value
 base:Heap
 A:Around
 N:List Str
 s₀:Shared
 H₀:Hp
 env:Env
 outer:List Env
 stack:List Env
 ex:List Addr
 fn:Str->Bool
 calm:Bool
 pn:List (Addr×Obj)
 xe:Value->Shared->Prop
noncomputable def frs(l:List Env):List Addr:=l.filterMap (·.frame)
noncomputable abbrev Cx.fs(X:Cx):List Addr:=frs X.outer
def Vis(sc:Scope)(x:Str):Prop:=sc.names.lookup x=some .local ∨sc.names.lookup x=some .cell∨sc.names.lookup x=some .free
def Loc(sc:Scope)(x:Str):Prop:=sc.names.lookup x=some .local ∨sc.names.lookup x=some .cell
def Look(env:Env)(h:Heap)(m:Str->Option Value)(x:Str)(u:Value):Prop:=
 (env.kindOf x=some .local /\m x=some u)∨((env.kindOf x=some .cell∨env.kindOf x=some .free)/\∃c,env.cells.lookup x=some c/\h.IsCell c (some u))
structure Cx.Ok (X:Cx):Prop where
 mod:Mod X.K X.mg X.base
 kind:X.env.scope.kind= .function
 glob:X.env.globals=mainGlobals
 blt:X.env.builtins=builtinsNs
 above:X.s₀.heap.objs.size<=X.env.locals
 inj:∀x y c,X.env.cells.lookup x=some c->X.env.cells.lookup y=some c->x=y
 has:∀x,(X.env.kindOf x=some .cell∨X.env.kindOf x=some .free)->∃c,X.env.cells.lookup x=some c
 cab:∀x c,X.fn x=true->X.env.cells.lookup x=some c->X.s₀.heap.objs.size<=c
 hd:X.calm=true->X.A.handled=none
 frames:X.A.frames=some X.stack
 stk:X.stack=X.outer∨(X.stack=X.env::X.outer/\X.env.frame=some X.env.locals)
 exf:∀b∈X.ex,b≠X.env.locals/\∀x c,X.env.cells.lookup x=some c->c≠b
 bs:∀b o,X.base.get? b=some o->X.s₀.heap.get? b=some o/\X.H₀ b=none
 bsz:X.base.objs.size<=X.s₀.heap.objs.size
 noex:∀b o,X.base.get? b=some o->b∉X.ex
 exfs:∀b∈X.ex,b∉X.fs
 QdD:X.s₀.heap.FunFrames X.base X.outer
 frf:∀b∈X.fs,X.H₀ b=none
structure Inv (X:Cx) (pins:List (Addr×Obj)) (σ:List (Option V)) (H:Hp) (s:Shared):Prop where
 ok:X.Ok
 os:s.os=X.s₀.os
 bare:AllBare s.gens
 base:Un X.fs X.ex X.H₀ H X.s₀.heap s.heap
 loc:∃m,s.heap.Ns X.env.locals m/\∀(i:Nat) (x:Str) (v:V),X.N[i]? =some x->σ[i]? =some (some v)->Vis X.env.scope x->∃u,RelV v u/\Look X.env s.heap m x u
 cell:∀x c,X.env.cells.lookup x=some c->∃v,s.heap.IsCell c v
 free:H X.env.locals=none
 freeC:∀x c,X.env.cells.lookup x=some c->H c=none
 pin:∀p∈X.pn++pins,s.heap.get? p.1=some p.2/\H p.1=none/\p.1≠X.env.locals/\p.1∉X.fs/\∀v,p.2.data≠ .cell v
 hok:HOk X.prog X.w H s.heap
 len:σ.length=X.N.length
section
variable {X:Cx}{pins:List (Addr×Obj)}{σ:List (Option V)}{H H':Hp}{s:Shared}{h':Heap}
theorem Cx.Ok.Qzc(ok:X.Ok){b:Addr}{o:Obj}(e:X.base.get? b=some o):b∉X.fs:=λhb=>by
 have:=(ok.QdD.mem hb).1
 rw[e]at this;cases this
theorem Inv.bs(I:Inv X pins σ H s):∀b o,X.base.get? b=some o->s.heap.get? b=some o/\H b=none:=λb o e=>
 ⟨I.base.keep b o (I.ok.bs b o e).1 (I.ok.bs b o e).2 (I.ok.Qzc e) (I.ok.noex b o e),I.base.free b o (I.ok.bs b o e).1 (I.ok.bs b o e).2 (I.ok.noex b o e)⟩
theorem Inv.bk(I:Inv X pins σ H s):∀b o,X.base.get? b=some o->s.heap.get? b=some o:=λb o e=>(I.bs b o e).1
theorem Inv.mod(I:Inv X pins σ H s):Mod X.K X.mg X.base:=I.ok.mod
theorem Inv.kIn(I:Inv X pins σ H s):X.K.In s.heap:=I.ok.mod.kin.keeps I.bk
theorem Inv.nolimit(I:Inv X pins σ H s):s.heap.NoLimit:=I.ok.mod.nolimit.keeps I.bk
theorem Inv.fr(I:Inv X pins σ H s):∃m,Fr X.base X.env.locals s.heap m:=
 let ⟨m,hn,_⟩:=I.loc
 ⟨m,hn,I.bk,Zk I.ok.bsz I.ok.above⟩
theorem Inv.lt(I:Inv X pins σ H s):X.env.locals<s.heap.objs.size:=let ⟨_,hn,_⟩:=I.loc;hn.lt
theorem Inv.sz(I:Inv X pins σ H s):X.s₀.heap.objs.size<=s.heap.objs.size:=Zk I.ok.above (Zbk I.lt)
theorem Inv.QyF(I:Inv X pins σ H s){a:Addr}(h:s.heap.objs.size<=a):a∉X.fs:=λhb=>by
 obtain⟨_,o,ho,_⟩:=I.ok.QdD.mem hb
 exact absurd (Zp (Zy ho) (Zk I.sz h)) (ZZ _)
theorem Inv.cne(I:Inv X pins σ H s):∀x c,X.env.cells.lookup x=some c->c≠X.env.locals:=λx c e z=>by
 obtain⟨v,o,ho,hd⟩:=I.cell x c e
 obtain⟨m,⟨o',es,ep,ho',hd',_⟩,_⟩:=I.loc
 rw[z,ho']at ho;cases ho;rw[hd']at hd;cases hd
theorem Inv.QdD(I:Inv X pins σ H s):s.heap.FunFrames X.base X.outer:=by
 have all:∀(l:List Env),(∀b∈frs l,b∈X.fs)->X.s₀.heap.FunFrames X.base l->s.heap.FunFrames X.base l:=by
  intro l
  induction l with
  | nil=>intro _ _;trivial
  | cons env r ih=>
   intro hs hl
   obtain⟨hk,⟨L,o,hf,hn,ho,hd⟩,hr⟩:=hl
   have hL:L∈X.fs:=hs L (by unfold frs;rw[Zbw,hf];exact Zq)
   obtain⟨sl,e⟩:=I.base.slot L o ho (I.ok.frf L hL) hL λz=>I.ok.exfs L z hL
   exact⟨hk,⟨L,_,hf,hn,e,hd⟩,ih (λb hb=>hs b (by unfold frs;rw[Zbw,hf];exact Zg _ hb)) hr⟩
 exact all X.outer (λ_ hb=>hb) I.ok.QdD
theorem Inv.stack(I:Inv X pins σ H s):s.heap.FunFrames X.base X.stack:=by
 rcases I.ok.stk with e | ⟨e,hf⟩
 ·rw[e];exact I.QdD
 ·rw[e]
  obtain⟨m,hn,_⟩:=I.loc
  refine .cons (by rw[I.ok.kind];decide) hf hn ?_ I.QdD
  exact Heap.get?_none_of_le (Zk I.ok.bsz I.ok.above)
theorem Inv.QjO(I:Inv X pins σ H s):∀b∈frs X.stack,b∈X.env.locals::X.fs:=λb hb=>by
 rcases I.ok.stk with e | ⟨e,hf⟩
 ·rw[e]at hb;exact Zg _ hb
 ·rw[e]at hb
  unfold frs at hb
  rw[Zbw,hf]at hb
  exact hb
theorem Inv.Qox(I:Inv X pins σ H s):∀b∈frs X.stack,H b=none:=λb hb=>by
 rcases Zm.mp (I.QjO b hb)with e | hb
 ·rw[e];exact I.free
 ·obtain⟨_,o,ho,_⟩:=I.ok.QdD.mem hb
  exact I.base.free b o ho (I.ok.frf b hb) λz=>I.ok.exfs b z hb
theorem Inv.step{g':Array GenState}{t':Nat}{d':Drawn}{ch:List Addr}(I:Inv X pins σ H s)
  (hch:∀b∈ch,(b∈X.ex∨X.s₀.heap.objs.size<=b)/\b≠X.env.locals/\(∀x c,X.env.cells.lookup x=some c->c≠b)/\∀p∈X.pn++pins,p.1≠b)
  (keep:∀b o,b≠X.env.locals->b∉X.fs->b∉ch->s.heap.get? b=some o->H b=none->h'.get? b=some o)
  (slot:∀b o,b≠X.env.locals->b∈X.fs->b∉ch->s.heap.get? b=some o->H b=none->∃sl,h'.get? b=some {o with slots:=sl}) (free:∀b o,b∉ch->s.heap.get? b=some o->H b=none->H' b=none)
  (there:∀b o,b∉ch->s.heap.get? b=some o->∃o',h'.get? b=some o')
  (tups:∀b xs,H b=some (.tup xs)->H' b=some (.tup xs)) (frzs:∀b o u,H b=some (.frz o u)->H' b=some (.frz o u)) (tbls:∀b ps,H b=some (.tbl ps)->∃more,H' b=some (.tbl (ps++more)))
  (ns:∀m,s.heap.Ns X.env.locals m->h'.Ns X.env.locals m) (hok:HOk X.prog X.w H' h') (hg:AllBare g'):
  Inv X pins σ H' {s with heap:=h',gens:=g',drawn:=d',toks:=t'}:=by
 have neL:∀b o,X.s₀.heap.get? b=some o->b≠X.env.locals:=λb o e=>ZU (Zp (Zy e) I.ok.above)
 have neC:∀b o,X.s₀.heap.get? b=some o->b∉X.ex->b∉ch:=λb o e hx hb=>by
  rcases(hch b hb).1 with z | z
  ·exact hx z
  ·exact absurd (Zp (Zy e) z) (ZZ _)
 have cellK:∀x c,X.env.cells.lookup x=some c->∀v,s.heap.IsCell c v->h'.IsCell c v:=λx c e v ⟨o,ho,hd⟩=>by
  have nch:c∉ch:=λz=>(hch c z).2.2.1 x c e rfl
  by_cases hc:c∈X.fs
  ·obtain⟨sl,q⟩:=slot c o (I.cne x c e) hc nch ho (I.freeC x c e)
   exact⟨_,q,hd⟩
  ·exact⟨o,keep c o (I.cne x c e) hc nch ho (I.freeC x c e),hd⟩
 refine⟨I.ok,I.os,hg,⟨λb o e n hb hx=>?_,λb o e n hb hx=>?_,λb o e n hx=>?_,λb o e hx=>?_,λb xs e=>tups b xs (I.base.tups b xs e),λb o xs e=>frzs b o xs (I.base.frzs b o xs e),λb ps e=>?_⟩,?_,λx c e=>?_,?_,λx c e=>?_,λp hp=>?_,hok,I.len⟩
 ·exact keep b o (neL b o e) hb (neC b o e hx) (I.base.keep b o e n hb hx) (I.base.free b o e n hx)
 ·obtain⟨sl,e1⟩:=I.base.slot b o e n hb hx
  obtain⟨sl',e2⟩:=slot b _ (neL b o e) hb (neC b o e hx) e1 (I.base.free b o e n hx)
  exact⟨sl',e2⟩
 ·obtain⟨o',e1⟩:=I.base.there b o e hx
  exact free b o' (neC b o e hx) e1 (I.base.free b o e n hx)
 ·obtain⟨o',e1⟩:=I.base.there b o e hx
  exact there b o' (neC b o e hx) e1
 ·obtain⟨m1,e1⟩:=I.base.tbls b ps e
  obtain⟨m2,e2⟩:=tbls b _ e1
  exact⟨m1++m2,by rw[e2,Array.append_assoc]⟩
 ·obtain⟨m,hn,hl⟩:=I.loc
  refine⟨m,ns m hn,λi x v e1 e2 e3=>?_⟩
  obtain⟨u,r,l⟩:=hl i x v e1 e2 e3
  refine⟨u,r,?_⟩
  rcases l with l | ⟨k,c,e,z⟩
  ·exact .inl l
  ·exact .inr ⟨k,c,e,cellK x c e _ z⟩
 ·obtain⟨v,z⟩:=I.cell x c e
  exact⟨v,cellK x c e v z⟩
 ·obtain⟨m,⟨o,_,_,ho,_⟩,_⟩:=I.loc
  exact free _ o (λz=>(hch _ z).2.1 rfl) ho I.free
 ·obtain⟨v,o,ho,hd⟩:=I.cell x c e
  exact free c o (λz=>(hch c z).2.2.1 x c e rfl) ho (I.freeC x c e)
 ·obtain⟨e,n,ne,nf,d⟩:=I.pin p hp
  have nch:p.1∉ch:=λz=>(hch p.1 z).2.2.2 p hp rfl
  exact⟨keep p.1 p.2 ne nf nch e n,free p.1 p.2 nch e n,ne,nf,d⟩
theorem Inv.un{t':Nat}(I:Inv X pins σ H s)(u:Un X.fs [] H H' s.heap h')(hok:HOk X.prog X.w H' h'):Inv X pins σ H' {s with heap:=h',toks:=t'}:=by
 obtain⟨m,⟨o,es,ep,ho,r⟩,_⟩:=id I.loc
 obtain⟨sl,hL⟩:=u.any ho I.free (by simp)
 exact I.step (g':=s.gens) (d':=s.drawn) (ch:=[]) (λ_ z=>nomatch z) (λb o _ hb _ e n=>u.keep b o e n hb (by simp)) (λb o _ hb _ e n=>u.slot b o e n hb (by simp)) (λb o _ e n=>u.free b o e n (by simp)) (λb o _ e=>u.there b o e (by simp)) u.tups u.frzs u.tbls (λm' hm=>by
  obtain⟨o',es',ep',ho',r'⟩:=hm
  rw[ho]at ho';cases ho'
  exact⟨_,es',ep',hL,r'⟩) hok I.bare
theorem Inv.call{g':Array GenState}{t':Nat}{d':Drawn}{ch:List Addr}(I:Inv X pins σ H s)(u:Un (frs X.stack) ch H H' s.heap h')(hok:HOk X.prog X.w H' h')(hg:AllBare g')
  (hch:∀b∈ch,(b∈X.ex∨X.s₀.heap.objs.size<=b)/\b≠X.env.locals/\(∀x c,X.env.cells.lookup x=some c->c≠b)/\∀p∈X.pn++pins,p.1≠b):
  Inv X pins σ H' {s with heap:=h',gens:=g',drawn:=d',toks:=t'}:=by
 obtain⟨m,⟨o,es,ep,ho,r⟩,_⟩:=id I.loc
 obtain⟨sl,hL⟩:=u.any ho I.free λz=>(hch _ z).2.1 rfl
 exact I.step (ch:=ch) hch (λb o hL hb hc e n=>u.keep b o e n (λz=>(Zm.mp (I.QjO b z)).elim hL hb) hc) (λb o _ _ hc e n=>u.any e n hc) (λb o hc e n=>u.free b o e n hc) (λb o hc e=>u.there b o e hc) u.tups u.frzs u.tbls (λm' hm=>by
  obtain⟨o',es',ep',ho',r'⟩:=hm
  rw[ho]at ho';cases ho'
  exact⟨_,es',ep',hL,r'⟩) hok hg
theorem Inv.turned{t':Nat}{it:Addr}(I:Inv X pins σ H s)(k:∀b o,b≠it->s.heap.get? b=some o->h'.get? b=some o)(hn:H it=none)(hL:it≠X.env.locals)
  (h1:it∈X.ex∨X.s₀.heap.objs.size<=it) (h2:∀x c,X.env.cells.lookup x=some c->c≠it) (h3:∀p∈X.pn++pins,p.1≠it):Inv X pins σ H {s with heap:=h',toks:=t'}:=by
 have nit:∀b u,H b=some u->b≠it:=λb u e z=>by rw[z,hn]at e;cases e
 refine I.step (g':=s.gens) (d':=s.drawn) (ch:=[it]) (λb hb=>?_) (λb o _ _ hc e _=>k b o (λz=>hc (by simp[z])) e) (λb o _ _ hc e _=>⟨o.slots,k b o (λz=>hc (by simp[z])) e⟩) (λ_ _ _ _ n=>n)
  (λb o hc e=>⟨o,k b o (λz=>hc (by simp[z])) e⟩) (λ_ _ e=>e) (λ_ _ _ e=>e) (λb ps e=>⟨#[],by rw[e];simp⟩) (λm hm=>?_) (λb u e=>?_) I.bare
 ·have e:b=it:=by simpa using hb
  subst e
  exact⟨h1,hL,h2,h3⟩
 ·obtain⟨o,es,ep,ho,r⟩:=hm
  exact⟨o,es,ep,k _ o (Ne.symm hL) ho,r⟩
 ·refine(I.hok b u e).Qi2 (λc v hc q=>k c v ?_ q) (λ_ q=>q) λ_ _ q=>q
  rcases hc with z | z
  ·rw[z];exact nit b u e
  ·exact nit c _ z
theorem Inv.tok(I:Inv X pins σ H s)(t:Nat):Inv X pins σ H {s with toks:=t}:=I.un (h':=s.heap) (t':=t) Un.refl I.hok
theorem Inv.kept{t':Nat}(I:Inv X pins σ H s)(k:∀b u,s.heap.get? b=some u->h'.get? b=some u):Inv X pins σ H {s with heap:=h',toks:=t'}:=I.un (Un.kept k) (I.hok.kept k)
theorem Inv.laid{a:Addr}{o:HO}{t':Nat}(I:Inv X pins σ H s)(k:∀b u,s.heap.get? b=some u->h'.get? b=some u)(hp:s.heap.objs.size<=a)(new:Qcr X.prog X.w (upd H a o) h' a o):
  Inv X pins σ (upd H a o) {s with heap:=h',toks:=t'}:=I.un (Un.laid k hp (I.hok.fresh hp)) (I.hok.laid k hp new)
theorem Inv.write{x e:Addr}{o:HO}{t':Nat}(I:Inv X pins σ H s)(mu:Mut (H x))(he:e=x∨H e=some (.own x))(k:∀b u,b≠e->s.heap.get? b=some u->h'.get? b=some u)(heo:∃u,h'.get? e=some u)
  (new:Qcr X.prog X.w (upd H x o) h' x o):Inv X pins σ (upd H x o) {s with heap:=h',toks:=t'}:=I.un (Un.write mu he k heo) (I.hok.write mu he k heo new)
theorem Inv.weak{σ':List (Option V)}(I:Inv X pins σ H s)(hl:σ'.length=σ.length)(w:∀(i:Nat) v,σ'[i]? =some (some v)->σ[i]? =some (some v)):Inv X pins σ' H s:=
 ⟨I.ok,I.os,I.bare,I.base,let ⟨m,hn,hl'⟩:=I.loc;⟨m,hn,λi x v e1 e2 e3=>hl' i x v e1 (w i v e2) e3⟩,I.cell,I.free,I.freeC,I.pin,I.hok,hl.trans I.len⟩
theorem Inv.QoI{pins':List (Addr×Obj)}(I:Inv X pins σ H s)(h:∀p∈pins',s.heap.get? p.1=some p.2/\H p.1=none/\p.1≠X.env.locals/\p.1∉X.fs/\∀v,p.2.data≠ .cell v):Inv X pins' σ H s:=
 ⟨I.ok,I.os,I.bare,I.base,I.loc,I.cell,I.free,I.freeC,λp hp=>(ZJ.mp hp).elim (λz=>I.pin p (Zh _ z)) (h p),I.hok,I.len⟩
theorem Qnw{N:List Str}(hN:N.Nodup){i j:Nat}{x:Str}(a:N[i]? =some x)(b:N[j]? =some x):i=j:=by
 obtain⟨h1,e1⟩:=Zd.mp a
 obtain⟨h2,e2⟩:=Zd.mp b
 exact(List.getElem_inj hN).mp (e1.trans e2.symm)
theorem Qlm{M:Model}{A:Around}{E:Value->Shared->Prop}{i:Nat}{x:Str}{v:V}{u:Value}{Q:Unit->Shared->Prop}(I:Inv X pins σ H s)(hN:X.N.Nodup)(hi:X.N[i]? =some x)(hx:Loc X.env.scope x)(r:RelV v u)
  (h:∀s',Inv X pins (σ.set i (some v)) H s'->(∃a,Heap.SameBut a s.heap s'.heap/\(a=X.env.locals∨X.env.cells.lookup x=some a))->Q () s') (hf:X.fn x=true∨X.env.scope.names.lookup x=some .local :=by first | exact .inl rfl | exact .inr rfl | assumption):wpAny M A (storeName X.env x u) Q E s:=by
 obtain⟨m,hn,hl⟩:=id I.loc
 have hcls:(X.env.scope.kind == .class || (X.env.scope.kind == .module && X.env.locals != X.env.globals))=false:=by rw[I.ok.kind];rfl
 have hiσ:i<σ.length:=by rw[I.len];exact(Zd.mp hi).1
 have cne:=I.cne
 have tracked:∀{a:Addr}{h':Heap},(∃o,s.heap.get? a=some o/\H a=none)->Heap.SameBut a s.heap h'->HOk X.prog X.w H h':=λ{a h'} ha hs b ob e=>by
  obtain⟨_,_,hfree⟩:=ha
  refine(I.hok b ob e).Qi2 (λc w' hc q=>(hs.2 c ?_).trans q) (λ_ q=>q) λ_ _ q=>q
  rintro rfl
  rcases hc with rfl | hc
  ·rw[hfree]at e;cases e
  ·rw[hfree]at hc;cases hc
 rcases hx with hk | hk
 ·refine wpAny_storeName_local hk hn (λh' hn' hs=>?_) hcls
  obtain⟨oL,_,_,hoL,_⟩:=id hn
  refine h _ ⟨I.ok,I.os,I.bare,⟨λb o e n hb hx=>?_,λb o e n hb hx=>?_,I.base.free,λb o e hx=>?_,I.base.tups,I.base.frzs,I.base.tbls⟩,⟨_,hn',λj y v' e1 e2 e3=>?_⟩,λy c e=>?_,I.free,I.freeC,λp hp=>?_,tracked ⟨oL,hoL,I.free⟩ hs,by simpa using I.len⟩ ⟨_,hs,.inl rfl⟩
  ·exact(hs.2 b (ZU (Zp (Zy e) I.ok.above))).trans (I.base.keep b o e n hb hx)
  ·obtain⟨sl,e1⟩:=I.base.slot b o e n hb hx
   exact⟨sl,(hs.2 b (ZU (Zp (Zy e) I.ok.above))).trans e1⟩
  ·obtain⟨o',e1⟩:=I.base.there b o e hx
   exact⟨o',(hs.2 b (ZU (Zp (Zy e) I.ok.above))).trans e1⟩
  ·by_cases hj:j=i
   ·subst hj
    rw[hi]at e1;cases e1
    rw[Ze hiσ]at e2
    cases e2
    exact⟨u,r,.inl ⟨hk,by simp⟩⟩
   ·rw[Zb (Ne.symm hj)]at e2
    obtain⟨u',r',q⟩:=hl j y v' e1 e2 e3
    refine⟨u',r',?_⟩
    rcases q with⟨k,e⟩ | ⟨k,c,e,z⟩
    ·refine .inl ⟨k,?_⟩
     have:y≠x:=λe=>hj (Qnw hN e1 (e▸hi))
     simp[this,e]
    ·exact .inr ⟨k,c,e,z.sameBut hs (cne y c e)⟩
  ·obtain⟨w',z⟩:=I.cell y c e
   exact⟨w',z.sameBut hs (cne y c e)⟩
  ·obtain⟨e,n,ne,nf,d⟩:=I.pin p hp
   exact⟨(hs.2 p.1 ne).trans e,n,ne,nf,d⟩
 ·have hfn:X.fn x=true:=by
   rcases hf with z | z
   ·exact z
   ·rw[z]at hk;cases hk
  obtain⟨c,hc⟩:=I.ok.has x (.inl hk)
  obtain⟨w',z⟩:=I.cell x c hc
  refine wpAny_storeName_cell I.ok.kind hk hc z (λh' hc' hs=>?_)
  obtain⟨oc,hoc,hocd⟩:=id z
  refine h {s with heap:=h'} ⟨I.ok,I.os,I.bare,⟨λb o e n hb hx=>?_,λb o e n hb hx=>?_,I.base.free,λb o e hx=>?_,I.base.tups,I.base.frzs,I.base.tbls⟩,⟨m,hn.sameBut hs (Ne.symm (cne x c hc)),λj y v' e1 e2 e3=>?_⟩,λy c' e=>?_,I.free,I.freeC,λp hp=>?_,tracked ⟨oc,hoc,I.freeC x c hc⟩ hs,by simpa using I.len⟩ ⟨c,hs,.inr hc⟩
  ·exact(hs.2 b (ZU (Zp (Zy e) (I.ok.cab x c hfn hc)))).trans (I.base.keep b o e n hb hx)
  ·obtain⟨sl,e1⟩:=I.base.slot b o e n hb hx
   exact⟨sl,(hs.2 b (ZU (Zp (Zy e) (I.ok.cab x c hfn hc)))).trans e1⟩
  ·obtain⟨o',e1⟩:=I.base.there b o e hx
   exact⟨o',(hs.2 b (ZU (Zp (Zy e) (I.ok.cab x c hfn hc)))).trans e1⟩
  ·by_cases hj:j=i
   ·subst hj
    rw[hi]at e1;cases e1
    rw[Ze hiσ]at e2
    cases e2
    exact⟨u,r,.inr ⟨.inl hk,c,hc,hc'⟩⟩
   ·rw[Zb (Ne.symm hj)]at e2
    obtain⟨u',r',q⟩:=hl j y v' e1 e2 e3
    refine⟨u',r',?_⟩
    rcases q with q | ⟨k,c',e,z'⟩
    ·exact .inl q
    ·refine .inr ⟨k,c',e,z'.sameBut hs ?_⟩
     rintro rfl
     exact hj (Qnw hN e1 (I.ok.inj _ _ _ e hc▸hi))
  ·by_cases hcc:c'=c
   ·subst hcc;exact⟨_,hc'⟩
   ·obtain⟨w2,z2⟩:=I.cell y c' e
    exact⟨w2,z2.sameBut hs hcc⟩
  ·obtain⟨e,n,ne,nf,d⟩:=I.pin p hp
   refine⟨(hs.2 p.1 ?_).trans e,n,ne,nf,d⟩
   intro q
   rw[q,hoc]at e
   have q':oc=p.2:=Option.some.inj e
   exact d w' (by rw[← q'];exact hocd)
theorem QmA{M:Model}{A:Around}{E:Value->Shared->Prop}{i:Nat}{x:Str}{v:V}{u:Value}{Q:Unit->Shared->Prop}(I:Inv X pins σ H s)(hN:X.N.Nodup)(hi:X.N[i]? =some x)(hx:Loc X.env.scope x)(r:RelV v u)
  (h:∀s',Inv X pins (σ.set i (some v)) H s'->Q () s') (hf:X.fn x=true∨X.env.scope.names.lookup x=some .local :=by first | exact .inl rfl | exact .inr rfl | assumption):wpAny M A (storeName X.env x u) Q E s:=
 Qlm I hN hi hx r (λs' I' _=>h s' I') hf
theorem Inv.Qx1{s':Shared}{ch:List Addr}(I:Inv X pins σ H s)(ho:s'.os=s.os)(u:Un (frs X.stack) ch H H' s.heap s'.heap)(hok:HOk X.prog X.w H' s'.heap)(hg:AllBare s'.gens)
  (hch:∀b∈ch,(b∈X.ex∨X.s₀.heap.objs.size<=b)/\b≠X.env.locals/\(∀x c,X.env.cells.lookup x=some c->c≠b)/\∀p∈X.pn++pins,p.1≠b):Inv X pins σ H' s':=by
 obtain⟨h',g',d',t',o'⟩:=s'
 have e:o'=s.os:=ho
 subst e
 exact I.call (g':=g') (t':=t') (d':=d') u hok hg hch
end
noncomputable abbrev XK:=Value->Option Addr->Hp->Prop
noncomputable abbrev St:=List (Option V)
noncomputable abbrev VK:=V->Hp->Prop
noncomputable abbrev TE:=St->Hp->VK->Prop
noncomputable abbrev TT:=St->Hp->(Bool->Hp->Prop)->Prop
noncomputable abbrev TA:=St->Hp->(List V->Hp->Prop)->Prop
structure Ends where
 nx:St->Hp->Prop
 rt:VK
 bk:St->Hp->Prop:=λ_ _=>False
 ct:St->Hp->Prop:=λ_ _=>False
noncomputable abbrev TS:=Ends->St->Hp->Prop
def EP(X:Cx)(pins:List (Addr×Obj))(σ:St)(Q:VK)(u:Value)(s':Shared):Prop:=∃v H',Inv X pins σ H' s'/\RelV v u/\Q v H'
def TP(X:Cx)(pins:List (Addr×Obj))(σ:St)(Q:Bool->Hp->Prop)(b:Bool)(s':Shared):Prop:=∃H',Inv X pins σ H' s'/\Q b H'
def AP(X:Cx)(pins:List (Addr×Obj))(σ:St)(Q:List V->Hp->Prop)(us:List Value)(s':Shared):Prop:=∃vs H',Inv X pins σ H' s'/\QD vs us/\Q vs H'
def SP(X:Cx)(pins:List (Addr×Obj))(D:Ends)(f:Flow)(s':Shared):Prop:=
 match f with
 | .next=>∃σ' H',Inv X pins σ' H' s'/\D.nx σ' H'
 | .brk=>∃σ' H',Inv X pins σ' H' s'/\D.bk σ' H'
 | .cont=>∃σ' H',Inv X pins σ' H' s'/\D.ct σ' H'
 | .ret u=>∃v σ' H',Inv X pins σ' H' s'/\RelV v u/\D.rt v H'
def PE(X:Cx)(e:Expr)(t:TE):Prop:=
 ∀(pins:List (Addr×Obj)) (s:Shared) (σ:St) (H:Hp) (Q:VK),Inv X pins σ H s->t σ H Q->wpAny (model X.prog X.w) X.A (eval e X.env) (EP X pins σ Q) X.xe s
def PT(X:Cx)(e:Expr)(t:TT):Prop:=
 ∀(pins:List (Addr×Obj)) (s:Shared) (σ:St) (H:Hp) (Q:Bool->Hp->Prop),Inv X pins σ H s->t σ H Q->wpAny (model X.prog X.w) X.A (isTrue e X.env (eval e X.env)) (TP X pins σ Q) X.xe s
def PW(X:Cx)(e:Expr)(t:TT):Prop:=
 ∀(whole:Sem Value) (pins:List (Addr×Obj)) (s:Shared) (σ:St) (H:Hp) (Q:Bool->Hp->Prop),Inv X pins σ H s->t σ H Q->wpAny (model X.prog X.w) X.A (isTrue e X.env whole) (TP X pins σ Q) X.xe s
theorem PW.pt{X:Cx}{e:Expr}{t:TT}(h:PW X e t):PT X e t:=h _
def PA(X:Cx)(es:List Expr)(t:TA):Prop:=
 ∀(pos:Pos) (pins:List (Addr×Obj)) (s:Shared) (σ:St) (H:Hp) (Q:List V->Hp->Prop),Inv X pins σ H s->t σ H Q->wpAny (model X.prog X.w) X.A (spliced (backTo pos (starEach es X.env))) (AP X pins σ Q) X.xe s
def PS(X:Cx)(st:Stmt)(t:TS):Prop:=
 ∀(pins:List (Addr×Obj)) (s:Shared) (σ:St) (H:Hp) (D:Ends),Inv X pins σ H s->t D σ H->wpAny (model X.prog X.w) X.A (exec st X.env) (SP X pins D) X.xe s
def PSs(X:Cx)(st:List Stmt)(t:TS):Prop:=
 ∀(pins:List (Addr×Obj)) (s:Shared) (σ:St) (H:Hp) (D:Ends),Inv X pins σ H s->t D σ H->wpAny (model X.prog X.w) X.A (execs st X.env) (SP X pins D) X.xe s
theorem thn{α:Type}{t:Sem α}{Q Q':α->Shared->Prop}{M:Model}{A:Around}{E:Value->Shared->Prop}{s:Shared}(h:wpAny M A t Q E s)(hQ:∀a s,Q a s->Q' a s):wpAny M A t Q' E s:=wpAny_mono h hQ λ_ _ x=>x
end L2
namespace L2
open PySem PySem.Spec PyProof.Rows
section
variable {X:Cx}
noncomputable def Qdn(i:Nat):TE:=λσ H Q=>∃v,σ[i]? =some (some v)/\Q v H
noncomputable def tC(v:V):TE:=λ_ H Q=>Q v H
theorem QqB{i:Nat}{x:Str}{pos:Pos}(hN:X.N[i]? =some x)(hv:Vis X.env.scope x)(hd:(x == ("__debug__" :Str))=false:=by decide)(hcd:(x == ("__classdict__" :Str))=false:=by decide):PE X (.Name x pos) (Qdn i):=by
 intro pins s σ H Q I h
 obtain⟨v,e,h⟩:=h
 obtain⟨m,hn,hl⟩:=I.loc
 obtain⟨u,r,l⟩:=hl i x v hN e hv
 have fin:EP X pins σ Q u s:=⟨v,H,I,r,h⟩
 rcases l with⟨hk,hm⟩ | ⟨hk,c,hc,hcell⟩
 ·exact wpAny_Name (wpAny_loadName_local I.ok.kind hk hn hm fin) hd
 ·rcases hk with hk | hk
  ·exact wpAny_Name (wpAny_loadName_cell I.ok.kind hk hc hcell fin) hd
  ·exact wpAny_Name (wpAny_loadName_free I.ok.kind hk hc hcell fin hcd) hd
theorem QjY{i j pos}:PE X (.Constant (.int i) j pos) (tC (.int i)):=λ_ _ _ H _ I h=>wpAny_Constant_int ⟨.int i,H,I.tok _,⟨_,rfl⟩,h⟩
theorem Qxu{b j pos}:PE X (.Constant (.bool b) j pos) (tC (.bl b)):=λ_ _ _ H _ I h=>Constant_bool ⟨.bl b,H,I,rfl,h⟩
theorem QvG{j pos}:PE X (.Constant .none j pos) (tC .non):=λ_ _ _ H _ I h=>Constant_none ⟨.non,H,I,rfl,h⟩
theorem QwS{x j pos}:PE X (.Constant (.str x) j pos) (tC (.str x)):=λ_ _ _ H _ I h=>Calls.Constant_str ⟨.str x,H,I.tok _,⟨_,rfl⟩,h⟩
def Gl(X:Cx)(x:Str):Prop:=X.env.kindOf x=some .globalImplicit
theorem Qkg{E:Value->Shared->Prop}{pins:List (Addr×Obj)}{s:Shared}{σ:St}{H:Hp}{x:Str}{u:Value}{pos:Pos}{Q:Value->Shared->Prop}(I:Inv X pins σ H s)(hg:Gl X x)(hm:X.mg x=some u)(h:Q u s)
  (hd:(x == ("__debug__" :Str))=false:=by decide):wpAny (model X.prog X.w) X.A (eval (.Name x pos) X.env) Q E s:=
 Calls.Name_function_global I.ok.kind hg (Calls.loadGlobal_global (by rw[I.ok.glob];exact I.mod.glob.keeps I.bk) hm h) hd
theorem Qdq{E:Value->Shared->Prop}{pins:List (Addr×Obj)}{s:Shared}{σ:St}{H:Hp}{x:Str}{u:Value}{pos:Pos}{Q:Value->Shared->Prop}(I:Inv X pins σ H s)(hg:Gl X x)(hm:X.mg x=none)(hv:bootBuiltins x=some u)(h:Q u s)
  (hn:x≠ "__name__" :=by decide) (hd:(x == ("__debug__" :Str))=false:=by decide):wpAny (model X.prog X.w) X.A (eval (.Name x pos) X.env) Q E s:=by
 obtain⟨mb,h1,h2⟩:=I.mod.blt
 exact Calls.Name_function_global I.ok.kind hg (Calls.loadGlobal_builtin (by rw[I.ok.glob];exact I.mod.glob.keeps I.bk) hm (by rw[I.ok.blt];exact h1.keeps I.bk) ((h2 x hn).trans hv) h) hd
theorem QuO{x:Str}{v:V}{u:Value}{pos:Pos}(hg:Gl X x)(hm:X.mg x=some u)(r:RelV v u)(hd:(x == ("__debug__" :Str))=false:=by decide):PE X (.Name x pos) (tC v):=
 λ_ _ _ H _ I h=>Qkg I hg hm ⟨v,H,I,r,h⟩ hd
theorem Qga{x:Str}{v:V}{u:Value}{pos:Pos}(hg:Gl X x)(hm:X.mg x=none)(hv:bootBuiltins x=some u)(r:RelV v u)(hn:x≠ "__name__" :=by decide)(hd:(x == ("__debug__" :Str))=false:=by decide):PE X (.Name x pos) (tC v):=
 λ_ _ _ H _ I h=>Qdq I hg hm hv ⟨v,H,I,r,h⟩ hn hd
variable {a b:Expr}{ta tb:TE}{pos:Pos}
variable {tA tB':TT}{rest:List Expr}
noncomputable def QyY(t u:TT):TT:=λσ H Q=>t σ H λc H1=>if c=true then u σ H1 Q else Q false H1
noncomputable def tOr(t u:TT):TT:=λσ H Q=>t σ H λc H1=>if c=true then Q true H1 else u σ H1 Q
noncomputable def QyZ(t:TT):TT:=λσ H Q=>t σ H λc H1=>Q (!c) H1
theorem Qvt(ha:PT X a tA):PW X (.BoolOp .And [a] pos) tA:=by
 intro wh pins s σ H Q I h
 refine isTrue_and (thn (ha pins s σ H Q I h) λc s1 e=>?_)
 cases c with
 | true=>exact isTrue_and_nil e
 | false=>exact e
theorem Qwt(ha:PT X a tA):PW X (.BoolOp .Or [a] pos) tA:=by
 intro wh pins s σ H Q I h
 refine isTrue_or (thn (ha pins s σ H Q I h) λc s1 e=>?_)
 cases c with
 | false=>exact isTrue_or_nil e
 | true=>exact e
theorem QwA(ha:PT X a tA)(hb:PW X (.BoolOp .And (b::rest) pos) tB'):PW X (.BoolOp .And (a::b::rest) pos) (QyY tA tB'):=by
 intro wh pins s σ H Q I h
 refine isTrue_and (thn (ha pins s σ H _ I h) λc s1 ⟨H1,I1,q1⟩=>?_)
 cases c with
 | true=>exact hb wh pins s1 σ H1 Q I1 q1
 | false=>exact⟨H1,I1,q1⟩
theorem QxO(ha:PT X a tA)(hb:PW X (.BoolOp .Or (b::rest) pos) tB'):PW X (.BoolOp .Or (a::b::rest) pos) (tOr tA tB'):=by
 intro wh pins s σ H Q I h
 refine isTrue_or (thn (ha pins s σ H _ I h) λc s1 ⟨H1,I1,q1⟩=>?_)
 cases c with
 | true=>exact⟨H1,I1,q1⟩
 | false=>exact hb wh pins s1 σ H1 Q I1 q1
theorem Qv7(ha:PT X a tA):PT X (.UnaryOp .Not a pos) (QyZ tA):=by
 intro pins s σ H Q I h
 exact isTrue_not (ha pins s σ H (λc H1=>Q (!c) H1) I h)
theorem Qwi{op}{t:TE}(h:PE X a t):PE X (.BoolOp op [a] pos) t:=λpins s σ H Q I hw=>BoolOp_one (h pins s σ H Q I hw)
noncomputable def tIf(t:TT)(ta tb:TE):TE:=λσ H Q=>t σ H λc H1=>if c=true then ta σ H1 Q else tb σ H1 Q
theorem QsD{c:Expr}(hc:PT X c tA)(ha:PE X a ta)(hb:PE X b tb):PE X (.IfExp c a b pos) (tIf tA ta tb):=by
 intro pins s σ H Q I h
 refine wpAny_IfExp (thn (hc pins s σ H _ I h) λd s1 ⟨H1,I1,q1⟩=>?_)
 cases d with
 | true=>exact ha pins s1 σ H1 Q I1 q1
 | false=>exact hb pins s1 σ H1 Q I1 q1
end
end L2
namespace L2
open PySem PySem.Spec PyProof.Rows
def SqL(K:PySem.W.Frag)(H:Hp)(a:Addr)(xs:List V):Prop:=
 Rd H a (.lst xs)∨
  ∃(o:Obj) (its:Array Value) (n:Nat),K.lookup a=some o/\o.cls= .type "list" /\o.dict=none/\o.data= .seq its n/\its.size<=sizeLine/\QD xs its.toList
def SqT(K:PySem.W.Frag)(H:Hp)(a:Addr)(xs:List V):Prop:=
 Rd H a (.tup xs)∨
  ∃(o:Obj) (its:Array Value) (n:Nat),K.lookup a=some o/\o.cls= .type "tuple" /\o.data= .seq its n/\its.size<=sizeLine/\QD xs its.toList
noncomputable def QyV:Value->Option V
 | .none=>some .non
 | .bool b=>some (.bl b)
 | .int i _=>some (.int i)
 | .str x _=>some (.str x)
 | .bytes b _=>some (.byt b)
 | .float b _=>some (.flt b)
 | .ref a=>some (.ref a)
 | .type n=>some (.ty n)
 | _=>none
theorem RelV.abs{x:V}{u:Value}(r:RelV x u):QyV u=some x:=by
 cases x with
 | non=>cases r;rfl
 | bl _=>cases r;rfl
 | int _=>obtain⟨t,rfl⟩:=r;rfl
 | str _=>obtain⟨t,rfl⟩:=r;rfl
 | byt _=>obtain⟨t,rfl⟩:=r;rfl
 | flt _=>obtain⟨t,rfl⟩:=r;rfl
 | ref _=>cases r;rfl
 | ty _=>cases r;rfl
theorem RelV.inj{x y:V}{u:Value}(r:RelV x u)(q:RelV y u):x=y:=Option.some.inj (r.abs.symm.trans q.abs)
theorem QD.inj:∀{xs ys:List V}{us:List Value},QD xs us->QD ys us->xs=ys
 | _,_,_,.nil,.nil=>rfl
 | _,_,_,.cons r t,.cons r' t'=>by rw[r.inj r',QD.inj t t']
section
variable {X:Cx}{pins:List (Addr×Obj)}{σ:St}{H:Hp}{s:Shared}{a:Addr}{xs ys:List V}
theorem SqL.of{K:PySem.W.Frag}(h:H a=some (.lst xs)):SqL K H a xs:= .inl (.inl h)
theorem SqT.of{K:PySem.W.Frag}(h:H a=some (.tup xs)):SqT K H a xs:= .inl (.inl h)
theorem Inv.list(I:Inv X pins σ H s)(h:SqL X.K H a xs):∃its:List Value,QD xs its/\PlainL s.heap a its.toArray/\xs.length<=sizeLine:=by
 rcases h with h | ⟨o,its,n,hk,hc,hd,hs,hz,r⟩
 ·obtain⟨z,its,n,r,e⟩:=h.ok I.hok
  exact⟨its,r,⟨_,n,e,rfl,rfl,rfl⟩,z⟩
 ·refine⟨its.toList,r,⟨o,n,I.kIn a o hk,hc,hd,by simpa using hs⟩,?_⟩
  have e:=r.length
  simp only[Array.length_toList]at e
  omega
theorem Inv.tuple(I:Inv X pins σ H s)(h:SqT X.K H a xs):∃its:List Value,QD xs its/\IsTup s.heap a its.toArray/\xs.length<=sizeLine:=by
 rcases h with h | ⟨o,its,n,hk,hc,hs,hz,r⟩
 ·obtain⟨z,its,r,p⟩:=h.ok I.hok
  exact⟨its,r,p,z⟩
 ·refine⟨its.toList,r,⟨o,I.kIn a o hk,hc,n,by simpa using hs⟩,?_⟩
  have e:=r.length
  simp only[Array.length_toList]at e
  omega
theorem Inv.QgG(I:Inv X pins σ H s)(h:SqL X.K H a xs)(h':SqL X.K H a ys):xs=ys:=by
 obtain⟨its,r,⟨o,n,e,_,_,d⟩,_⟩:=I.list h
 obtain⟨its',r',⟨o',n',e',_,_,d'⟩,_⟩:=I.list h'
 rw[e]at e';cases e'
 rw[d]at d'
 injection d' with d1 _
 have:its=its':=by simpa using congrArg Array.toList d1
 subst this
 exact r.inj r'
theorem Inv.QrB(I:Inv X pins σ H s)(h:SqT X.K H a xs)(h':SqT X.K H a ys):xs=ys:=by
 obtain⟨its,r,⟨o,e,_,n,d⟩,_⟩:=I.tuple h
 obtain⟨its',r',⟨o',e',_,n',d'⟩,_⟩:=I.tuple h'
 rw[e]at e';cases e'
 rw[d]at d'
 injection d' with d1 _
 have:its=its':=by simpa using congrArg Array.toList d1
 subst this
 exact r.inj r'
end
noncomputable abbrev Cx.Qed(X:Cx)(E:Value->Shared->Prop):Cx:={X with xe:=E}
noncomputable abbrev Cx.nox(X:Cx):Cx:=X.Qed λ_ _=>False
theorem Cx.Ok.Qed{X:Cx}(ok:X.Ok)(E:Value->Shared->Prop):(X.Qed E).Ok:=
 ⟨ok.mod,ok.kind,ok.glob,ok.blt,ok.above,ok.inj,ok.has,ok.cab,ok.hd,ok.frames,ok.stk,ok.exf,ok.bs,ok.bsz,ok.noex,ok.exfs,ok.QdD,ok.frf⟩
theorem Cx.Ok.Qdt{X:Cx}{E:Value->Shared->Prop}(ok:(X.Qed E).Ok):X.Ok:=
 ⟨ok.mod,ok.kind,ok.glob,ok.blt,ok.above,ok.inj,ok.has,ok.cab,ok.hd,ok.frames,ok.stk,ok.exf,ok.bs,ok.bsz,ok.noex,ok.exfs,ok.QdD,ok.frf⟩
section
variable {X:Cx}{pins:List (Addr×Obj)}{σ:St}{H:Hp}{s:Shared}{E:Value->Shared->Prop}
theorem Inv.Qed(I:Inv X pins σ H s)(E:Value->Shared->Prop):Inv (X.Qed E) pins σ H s:=⟨I.ok.Qed E,I.os,I.bare,I.base,I.loc,I.cell,I.free,I.freeC,I.pin,I.hok,I.len⟩
theorem Inv.Qdt(I:Inv (X.Qed E) pins σ H s):Inv X pins σ H s:=⟨I.ok.Qdt,I.os,I.bare,I.base,I.loc,I.cell,I.free,I.freeC,I.pin,I.hok,I.len⟩
theorem SP.Qdt{D:Ends}{f:Flow}{s':Shared}(h:SP (X.Qed E) pins D f s'):SP X pins D f s':=by
 cases f with
 | next=>obtain⟨σ',H',I,q⟩:=h;exact⟨σ',H',I.Qdt,q⟩
 | brk=>obtain⟨σ',H',I,q⟩:=h;exact⟨σ',H',I.Qdt,q⟩
 | cont=>obtain⟨σ',H',I,q⟩:=h;exact⟨σ',H',I.Qdt,q⟩
 | ret u=>obtain⟨v,σ',H',I,r,q⟩:=h;exact⟨v,σ',H',I.Qdt,r,q⟩
theorem PE.nox{e:Expr}{t:TE}(h:PE X.nox e t):PE X e t:=λpins s σ H Q I hw=>
 wpAny_mono (h pins s σ H Q (I.Qed _) hw) (λ_ _ ⟨v,H',I',r,q⟩=>⟨v,H',I'.Qdt,r,q⟩) λ_ _ z=>False.elim z
theorem PT.nox{e:Expr}{t:TT}(h:PT X.nox e t):PT X e t:=λpins s σ H Q I hw=>
 wpAny_mono (h pins s σ H Q (I.Qed _) hw) (λ_ _ ⟨H',I',q⟩=>⟨H',I'.Qdt,q⟩) λ_ _ z=>False.elim z
theorem PSs.nox{st:List Stmt}{t:TS}(h:PSs X.nox st t):PSs X st t:=λpins s σ H D I hw=>
 wpAny_mono (h pins s σ H D (I.Qed _) hw) (λ_ _ q=>q.Qdt) λ_ _ z=>False.elim z
end
section
variable {X:Cx}{st:Stmt}{rest:List Stmt}{t u:TS}{e:Expr}{te:TE}{pos:Pos}
noncomputable def Qmf:TS:=λD σ H=>D.nx σ H
noncomputable def QpL(t u:TS):TS:=λD σ H=>t {D with nx:=u D} σ H
theorem QoB:PSs X [] Qmf:=λ_ _ σ H _ I h=>wpAny_execs_nil ⟨σ,H,I,h⟩
theorem QaX(h1:PS X st t)(h2:PSs X rest u):PSs X (st::rest) (QpL t u):=by
 intro pins s σ H D I h
 refine wpAny_execs_cons (thn (h1 pins s σ H {D with nx:=u D} I h) λf s1 q=>?_)
 cases f with
 | next=>
  obtain⟨σ',H',I',q⟩:=q
  exact h2 pins s1 σ' H' D I' q
 | ret v=>exact q
 | brk=>exact q
 | cont=>exact q
noncomputable def QwM:TS:=λD σ H=>D.bk σ H
noncomputable def QxP:TS:=λD σ H=>D.ct σ H
theorem Qvi:PS X (.Pass pos) Qmf:=λ_ _ σ H _ I h=>wpAny_Pass ⟨σ,H,I,h⟩
theorem Qtj:PS X (.Break pos) QwM:=λ_ _ σ H _ I h=>wpAny_Break ⟨σ,H,I,h⟩
theorem Qoq:PS X (.Continue pos) QxP:=λ_ _ σ H _ I h=>wpAny_Continue ⟨σ,H,I,h⟩
theorem Inv.quiet{pins:List (Addr×Obj)}{σ:St}{H:Hp}{s:Shared}(I:Inv X pins σ H s):interactive X.env=false:=by simp[interactive,I.ok.kind]
theorem Qv9{x j pos pos'}:PS X (.Expr (.Constant (.str x) j pos) pos') Qmf:=λ_ s σ H _ I h=>wpAny_Expr (Calls.Constant_str (show SP X _ _ .next {s with toks:=s.toks+1}from⟨σ,H,I.tok _,h⟩)) I.quiet
noncomputable def QjR(te:TE):TS:=λD σ H=>te σ H λ_ H1=>D.nx σ H1
theorem Qh0(he:PE X e te)(hs:swapsWith e none pos.line X.env=pure false:=by rfl):PS X (.Expr e pos) (QjR te):=by
 intro pins s σ H D I h
 exact wpAny_Expr_any (thn (he pins s σ H _ I h) λv s1 ⟨x,H1,I1,r1,q1⟩=>⟨σ,H1,I1,q1⟩) I.quiet hs
noncomputable def Qyy(te:TE):TS:=λD σ H=>te σ H D.rt
theorem Qxs(he:PE X e te):PS X (.Return (some e) pos) (Qyy te):=by
 intro pins s σ H D I h
 exact wpAny_Return_some (thn (he pins s σ H _ I h) λv s1 ⟨x,H1,I1,r1,q1⟩=>⟨x,σ,H1,I1,r1,q1⟩)
noncomputable def QxA:TS:=λD _ H=>D.rt .non H
theorem Qt4:PS X (.Return none pos) QxA:=λ_ _ σ H _ I h=>wpAny_Return_none ⟨.non,σ,H,I,rfl,h⟩
noncomputable def Qy5(c:TT)(t u:TS):TS:=λD σ H=>c σ H λb H1=>if b=true then t D σ H1 else u D σ H1
theorem Qx8{c:Expr}{a b:List Stmt}{tc:TT}(hc:PT X c tc)(ha:PSs X a t)(hb:PSs X b u):PS X (.If c a b pos) (Qy5 tc t u):=by
 intro pins s σ H D I h
 refine wpAny_If (thn (hc pins s σ H _ I h) λd s1 ⟨H1,I1,q1⟩=>?_)
 cases d with
 | true=>exact ha pins s1 σ H1 D I1 q1
 | false=>exact hb pins s1 σ H1 D I1 q1
noncomputable def QvF:TS:=λ_ _ _=>False
theorem QsY:PS X st QvF:=λ_ _ _ _ _ _ h=>h.elim
end
noncomputable abbrev TG:=V->St->Hp->(St->Hp->Prop)->Prop
noncomputable abbrev TGs:=List V->St->Hp->(St->Hp->Prop)->Prop
def PG(X:Cx)(target:Expr)(t:TG):Prop:=
 ∀(pins:List (Addr×Obj)) (s:Shared) (σ:St) (H:Hp) (v:V) (u:Value) (Q:St->Hp->Prop),Inv X pins σ H s->RelV v u->t v σ H Q→
  wpAny (model X.prog X.w) X.A (assign target X.env u) (λ_ s'=>∃σ' H',Inv X pins σ' H' s'/\Q σ' H') X.xe s
def PGs(X:Cx)(ts:List Expr)(t:TGs):Prop:=
 ∀(pins:List (Addr×Obj)) (s:Shared) (σ:St) (H:Hp) (vs:List V) (us:List Value) (Q:St->Hp->Prop),Inv X pins σ H s->QD vs us->t vs σ H Q→
  wpAny (model X.prog X.w) X.A (assignInOrder ((assignEach ts X.env).map (·.2)) us) (λ_ s'=>∃σ' H',Inv X pins σ' H' s'/\Q σ' H') X.xe s
noncomputable abbrev QsW:=V->V->V->Hp->(Hp->Prop)->Prop
def Qw5(X:Cx)(t:QsW):Prop:=
 ∀(pins:List (Addr×Obj)) (s:Shared) (σ:St) (H:Hp) (o i v:V) (ov iv u:Value) (Q:Hp->Prop),Inv X pins σ H s->RelV o ov->RelV i iv->RelV v u->t o i v H Q→
  wpAny (model X.prog X.w) X.A (setItem ov iv u) (λ_ s'=>∃H',Inv X pins σ H' s'/\Q H') X.xe s
section
variable {X:Cx}{pos:Pos}
noncomputable def Qdu(i:Nat):TG:=λv σ H Q=>Q (σ.set i (some v)) H
theorem QkQ{i:Nat}{x:Str}(hN:X.N.Nodup)(hi:X.N[i]? =some x)(hx:Loc X.env.scope x)(hf:X.fn x=true∨X.env.scope.names.lookup x=some .local :=by first | exact .inl rfl | exact .inr rfl | assumption):PG X (.Name x pos) (Qdu i):=by
 intro pins s σ H v u Q I r h
 exact wpAny_assign_Name (QmA I hN hi hx r (λs' I'=>⟨_,H,I',h⟩) hf)
noncomputable def QvI:TGs:=λvs σ H Q=>vs=[]/\Q σ H
noncomputable def QtR(t:TG)(u:TGs):TGs:=λvs σ H Q=>∃v r,vs=v::r/\t v σ H λσ' H'=>u r σ' H' Q
theorem Qvq:PGs X [] QvI:=by
 intro pins s σ H vs us Q I r h
 obtain⟨e,h⟩:=h
 subst e
 cases r
 exact assignInOrder_nil ⟨σ,H,I,h⟩
theorem Qr8{e:Expr}{es:List Expr}{t:TG}{u:TGs}(h1:PG X e t)(h2:PGs X es u)
  (hs:(assignEach (e::es) X.env).map (·.2)=assign e X.env::(assignEach es X.env).map (·.2):=by rfl):PGs X (e::es) (QtR t u):=by
 intro pins s σ H vs us Q I r h
 obtain⟨v,vr,e1,h⟩:=h
 subst e1
 cases r with
 | cons r rr=>
  rw[hs]
  refine assignInOrder_cons (thn (h1 pins s σ H _ _ _ I r h) λ_ s1 ⟨σ1,H1,I1,q1⟩=>?_)
  exact h2 pins s1 σ1 H1 _ _ Q I1 rr q1
noncomputable def Qzj(K:PySem.W.Frag)(n:Nat)(t:TGs):TG:=λv σ H Q=>∃a xs,v= .ref a/\SqT K H a xs/\xs.length=n/\t xs σ H Q
theorem QvN{es:List Expr}{k:Nat}{t:TGs}{n:Nat}(hc:X.calm=true)(h:PGs X es t)
  (hn:(assignEach es X.env).length=n:=by rfl) (hst:(assignEach es X.env).findIdx? (·.1)=none:=by rfl):PG X (.Tuple es k pos) (Qzj X.K n t):=by
 intro pins s σ H v u Q I r hw
 obtain⟨a,xs,e1,hq,hl,hw⟩:=hw
 subst e1
 cases r
 obtain⟨its,rv,ht,hz⟩:=I.tuple hq
 refine assign_Tuple_tuple (I.ok.hd hc) ht (by simp[hn,← hl,rv.length]) hst λh' hx=>?_
 have I1:Inv X pins σ H {s with heap:=h'}:=I.kept (t':=s.toks) λb o e=>hx b o (ZU (Zy e)) e
 exact h pins _ σ H xs _ Q I1 (by simpa using rv) hw
noncomputable def QaP(to ti:TE)(t:QsW):TG:=λv σ H Q=>to σ H λo H1=>ti σ H1 λi H2=>t o i v H2 λH3=>Q σ H3
theorem Qey{o i:Expr}{to ti:TE}{t:QsW}(ho:PE X o to)(hi:PE X i ti)(hs:Qw5 X t)
  (ha:∀v,assign (.Subscript o i pos) X.env v=(do
   let ov ← holding [v] (eval o X.env)
   let iv ← holding [v,ov] (eval i X.env)
   standAt pos
   holding [v,ov,iv] (setItem ov iv v)
   release [v,ov,iv] []):=by intro _;rfl):PG X (.Subscript o i pos) (QaP to ti t):=by
 intro pins s σ H v u Q I r h
 rw[ha]
 refine wpAny_bind (wpAny_holding (thn (ho pins s σ H _ I h) λov s1 ⟨x,H1,I1,r1,q1⟩=>?_))
 refine wpAny_bind (wpAny_holding (thn (hi pins s1 σ H1 _ I1 q1) λiv s2 ⟨y,H2,I2,r2,q2⟩=>?_))
 refine wpAny_bind (wpAny_standAt (wpAny_bind (wpAny_holding (thn (hs pins s2 σ H2 x y v ov iv u _ I2 r1 r2 r q2) λ_ s3 ⟨H3,I3,q3⟩=>?_))))
 exact wpAny_release ⟨σ,H3,I3,q3⟩
noncomputable def QcW(te:TE)(g:TG):TS:=λD σ H=>te σ H λx H1=>g x σ H1 D.nx
theorem QdX{tg e:Expr}{te:TE}{g:TG}(he:PE X e te)(hg:PG X tg g)(hs:swapsWithSole [tg] e pos.line X.env=pure false:=by rfl)(hw:swappedStores [tg] e X.env=pure none:=by rfl)
  (h1:(assignEach [tg] X.env).map (·.2)=[assign tg X.env]:=by rfl):PS X (.Assign [tg] e pos) (QcW te g):=by
 intro pins s σ H D I h
 refine wpAny_Assign_stores (thn (he pins s σ H _ I h) λv s1 ⟨x,H1,I1,r1,q1⟩=>?_) hs hw
 rw[h1]
 exact thn (hg pins s1 σ H1 x v _ I1 r1 q1) λ_ s2 q=>q
theorem QeA{i:Nat}{x:Str}{e:Expr}{te:TE}{pos':Pos}(hN:X.N.Nodup)(hi:X.N[i]? =some x)(hx:Loc X.env.scope x)(he:PE X e te)(hs:swapsWith e (some (.Name x pos')) pos.line X.env=pure false:=by rfl)(hf:X.fn x=true∨X.env.scope.names.lookup x=some .local :=by first | exact .inl rfl | exact .inr rfl | assumption):
  PS X (.Assign [.Name x pos'] e pos) (QcW te (Qdu i)):=by
 intro pins s σ H D I h
 refine wpAny_Assign_Name (thn (he pins s σ H _ I h) λv s1 ⟨y,H1,I1,r1,q1⟩=>?_) hs
 exact QmA I1 hN hi hx r1 (λs2 I2=>⟨_,H1,I2,q1⟩) hf
end
section
variable {X:Cx}{pos:Pos}
noncomputable def QwX(c:TT)(tb:TS):TS:=λD σ H=>∃W:Nat->St->Hp->Prop,(∃m,W m σ H)/\∀m σ H,W m σ H→
 c σ H λb H1=>if b=true then ∃N:St->Hp->Prop,(∀σ' H',N σ' H'->∃m',m'<m/\W m' σ' H')/\tb {D with nx:=N,ct:=N,bk:=D.nx} σ H1 else D.nx σ H1
theorem Qs9{c:Expr}{body:List Stmt}{tc:TT}{tb:TS}(hp:PassesOwn (model X.prog X.w) X.A X.env X.xe)(hc:PT X c tc)(hb:PSs X body tb):PS X (.While c body [] pos) (QwX tc tb):=by
 intro pins s σ H D I h
 obtain⟨W,⟨m0,w0⟩,turn⟩:=h
 refine wpAny_While (codeAny_whileLoop (λn s'=>∃σ' H',Inv X pins σ' H' s'/\W n σ' H') ?_ m0 ⟨σ,H,I,w0⟩)
 rintro n s1 ⟨σ1,H1,I1,w1⟩
 refine wpAny_passesOwn hp (thn (hc pins s1 σ1 H1 _ I1 (turn n σ1 H1 w1)) λb s2 ⟨H2,I2,q2⟩=>?_)
 cases b with
 | true=>
  obtain⟨N,hN,q2⟩:=q2
  rw[if_pos rfl]
  refine wpAny_passesOwn hp (thn (hb pins s2 σ1 H2 _ I2 q2) λf s3 q3=>?_)
  cases f with
  | next=>
   obtain⟨σ3,H3,I3,n3⟩:=q3
   obtain⟨m',hm,w3⟩:=hN σ3 H3 n3
   exact⟨m',hm,σ3,H3,I3,w3⟩
  | cont=>
   obtain⟨σ3,H3,I3,n3⟩:=q3
   obtain⟨m',hm,w3⟩:=hN σ3 H3 n3
   exact⟨m',hm,σ3,H3,I3,w3⟩
  | brk=>exact q3
  | ret v=>exact q3
 | false=>
  rw[if_neg Zao]
  exact wpAny_execs_nil ⟨σ1,H2,I2,q2⟩
end
structure It where
 go:Nat->Hp->Prop
 yld:Nat->Hp->V->Hp->Prop
 stop:Nat->Hp->Prop
def Qeq(X:Cx)(pins:List (Addr×Obj))(H:Hp)(b:Addr):Prop:=
 H b=none/\b≠X.env.locals/\b∉X.fs/\(b∈X.ex∨X.s₀.heap.objs.size<=b)/\(∀x c,X.env.cells.lookup x=some c->c≠b)/\∀p∈X.pn++pins,p.1≠b
theorem Inv.Qku{X:Cx}{pins:List (Addr×Obj)}{σ:St}{H H':Hp}{s:Shared}{b:Addr}(I:Inv X pins σ H s)(hb:s.heap.objs.size<=b)(hn:H' b=none):Qeq X pins H' b:=by
 refine⟨hn,Nat.ne_of_gt (Zp I.lt hb),I.QyF hb,.inr (Zk I.sz hb),λx c e z=>?_,λp hp z=>?_⟩
 ·obtain⟨v,q⟩:=I.cell x c e
  exact absurd (Zp q.lt (by rw[z];exact hb)) (ZZ _)
 ·exact absurd (Zp (Zy (I.pin p hp).1) (by rw[z];exact hb)) (ZZ _)
structure Turn (P:Program) (w:World) (K:PySem.W.Frag) (tg:Expr) (J:It) (fp:List Addr) (it:Addr) (tn:Nat->Heap->Prop):Prop where
 mem:it∈fp
 obj:∀i h,tn i h->∀b∈fp,∃o,h.get? b=some o/\∀v,o.data≠ .cell v
 keep:∀i h h',tn i h->(∀b∈fp,∀o,h.get? b=some o->h'.get? b=some o)->tn i h'
 item:∀(X:Cx),X.prog=P->X.w=w->X.K=K->X.calm=true->∀(i:Nat) (pins:List (Addr×Obj)) (s:Shared) (σ:St) (H:Hp) (E:Value->Shared->Prop),Inv X pins σ H s->(∀b∈fp,Qeq X pins H b)->tn i s.heap->J.go i H→
  wpAny (model P w) X.A (pyNext (.ref it)) (λr s1=>∃u,r=some u∧
   wpAny (model P w) X.A (letOwnedTupleGo tg (.ref it) u) (λ_ s2=>∃x H',Inv X pins σ H' s2/\RelV x u/\J.yld i H x H'/\tn (i+1) s2.heap/\∀b∈fp,H' b=none) E s1) E s
 done:∀(X:Cx),X.prog=P->X.w=w->X.K=K->X.calm=true->∀(i:Nat) (pins:List (Addr×Obj)) (s:Shared) (σ:St) (H:Hp) (E:Value->Shared->Prop),Inv X pins σ H s->(∀b∈fp,Qeq X pins H b)->tn i s.heap->J.stop i H→
  wpAny (model P w) X.A (pyNext (.ref it)) (λr s1=>r=none/\Inv X pins σ H s1) E s
 self:∀(A:Around) (i:Nat) (s:Shared) (Q:Value->Shared->Prop) (E:Value->Shared->Prop),tn i s.heap->Q (.ref it) s->wpAny (model P w) A (pyIter (.ref it)) Q E s
noncomputable abbrev TI:=St->Hp->(It->Hp->Prop)->Prop
def PIE(X:Cx)(pins:List (Addr×Obj))(σ:St)(tg:Expr)(R:It->Hp->Prop)(itv:Value)(s2:Shared):Prop:=
 ∃(it:Addr) (fp:List Addr) (tn:Nat->Heap->Prop) (J:It) (H':Hp),itv= .ref it/\Inv X pins σ H' s2/\Turn X.prog X.w X.K tg J fp it tn/\tn 0 s2.heap/\(∀b∈fp,Qeq X pins H' b)/\R J H'
def PI(X:Cx)(tg iter:Expr)(wi:TI):Prop:=
 ∀(pins:List (Addr×Obj)) (s:Shared) (σ:St) (H:Hp) (R:It->Hp->Prop),Inv X pins σ H s->wi σ H R→
  wpAny (model X.prog X.w) X.A (eval iter X.env) (λv s1=>wpAny (model X.prog X.w) X.A (pyIter v) (PIE X pins σ tg R) X.xe s1) X.xe s
theorem Qmb{M:Model}{A:Around}{E:Value->Shared->Prop}{s:Shared}{tg:Expr}{it:Addr}{u:Value}{o:Obj}{n:String}{vs:Array Value}{Q:Unit->Shared->Prop}(ho:s.heap.get? it=some o)(hc:o.cls= .type n)(hd:o.data= .fields vs)
    (hn:["enumerate","zip","dict_itemiterator","dict_reverseitemiterator","odict_iterator","itertools.zip_longest","itertools.pairwise"].contains n=false) (hQ:Q () s):wpAny M A (letOwnedTupleGo tg (.ref it) u) Q E s:=by
  unfold letOwnedTupleGo
  cases tg<;>first
    | exact wpAny_pure hQ
    | (cases u<;>first
        | exact wpAny_pure hQ
        | (refine wpAny_bind (wpAny_load ho ?_)
           rw[hc,hd]
           show wpAny M A (if(["enumerate","zip","dict_itemiterator","dict_reverseitemiterator","odict_iterator","itertools.zip_longest","itertools.pairwise"].contains n && vs[0]? == some (rawInt _))=true then _ else _) Q E s
           rw[if_neg (by intro h;rw[hn,Bool.false_and]at h;cases h)]
           exact wpAny_pure hQ))
noncomputable def Itl(K:PySem.W.Frag)(a:Addr):It:=
 ⟨λi H=>∃xs x,SqL K H a xs/\xs[i]? =some x,λi H x H'=>H'=H/\∀xs,SqL K H a xs->xs[i]? =some x,λi H=>∃xs,SqL K H a xs/\xs.length<=i⟩
noncomputable def Itt(K:PySem.W.Frag)(a:Addr):It:=
 ⟨λi H=>∃xs x,SqT K H a xs/\xs[i]? =some x,λi H x H'=>H'=H/\∀xs,SqT K H a xs->xs[i]? =some x,λi H=>∃xs,SqT K H a xs/\xs.length<=i⟩
noncomputable def Itr(lo:Int)(n:Nat):It:=⟨λi _=>i<n,λi H x H'=>H'=H/\x= .int (lo+i),λi _=>n<=i⟩
theorem QqT{P:Program}{w:World}{K:PySem.W.Frag}{tg:Expr}(a it:Addr):Turn P w K tg (Itl K a) [it] it (λi h=>h.IsListIter it a i) where
 mem:=by simp
 obj:=λi h st b hb=>by
  have e:b=it:=by simpa using hb
  subst e
  obtain⟨o,e,c,d⟩:=st
  exact⟨o,e,λv z=>by rw[d]at z;cases z⟩
 keep:=λi h h' st k=>st.at λo e=>k it (by simp) o e
 item:=by
  intro X hP hw hK hc i pins s σ H E I hf st hg
  subst hP hw hK
  obtain⟨xs,x,hq,hx⟩:=hg
  obtain⟨its,rv,p,hz⟩:=I.list hq
  obtain⟨u,hu,ru⟩:=rv.get hx
  obtain⟨f0,f1,f2,f3,f4,f5⟩:=hf it (by simp)
  refine wpAny_pyNext_list_item st p.isList (x:=u) (by simpa using hu) λh' st' sb=>?_
  have I1:Inv X pins σ H {s with heap:=h'}:=I.turned (t':=s.toks) (λb o hb e=>(sb.2 b hb).trans e) f0 f1 f3 f4 f5
  obtain⟨o,e,c,d⟩:=id st'
  exact⟨u,rfl,Qmb (s:={s with heap:=h'}) e c d (by decide) ⟨x,H,I1,ru,⟨rfl,λys hy=>by rw[I.QgG hy hq];exact hx⟩,st',λb hb=>(hf b hb).1⟩⟩
 done:=by
  intro X hP hw hK hc i pins s σ H E I hf st hg
  subst hP hw hK
  obtain⟨xs,hq,hx⟩:=hg
  obtain⟨its,rv,p,hz⟩:=I.list hq
  obtain⟨f0,f1,f2,f3,f4,f5⟩:=hf it (by simp)
  have hl:=rv.length
  exact wpAny_pyNext_list_end (I.ok.hd hc) st p.isList (by simp;omega) λh' eb=>⟨rfl,I.turned (t':=s.toks) (λb o hb e=>eb b o hb e) f0 f1 f3 f4 f5⟩
 self:=λ_ _ _ _ _ st h=>wpAny_pyIter_listiter st h
theorem Qpl{P:Program}{w:World}{K:PySem.W.Frag}{tg:Expr}(a it:Addr):Turn P w K tg (Itt K a) [it] it (λi h=>h.IsTupleIter it a i) where
 mem:=by simp
 obj:=λi h st b hb=>by
  have e:b=it:=by simpa using hb
  subst e
  obtain⟨o,e,c,d⟩:=st
  exact⟨o,e,λv z=>by rw[d]at z;cases z⟩
 keep:=λi h h' st k=>st.at λo e=>k it (by simp) o e
 item:=by
  intro X hP hw hK hc i pins s σ H E I hf st hg
  subst hP hw hK
  obtain⟨xs,x,hq,hx⟩:=hg
  obtain⟨its,rv,p,hz⟩:=I.tuple hq
  obtain⟨u,hu,ru⟩:=rv.get hx
  obtain⟨f0,f1,f2,f3,f4,f5⟩:=hf it (by simp)
  refine wpAny_pyNext_tuple_item st (show s.heap.IsTuple a its.toArray from p) (x:=u) (by simpa using hu) λh' st' sb=>?_
  have I1:Inv X pins σ H {s with heap:=h'}:=I.turned (t':=s.toks) (λb o hb e=>(sb.2 b hb).trans e) f0 f1 f3 f4 f5
  obtain⟨o,e,c,d⟩:=id st'
  exact⟨u,rfl,Qmb (s:={s with heap:=h'}) e c d (by decide) ⟨x,H,I1,ru,⟨rfl,λys hy=>by rw[I.QrB hy hq];exact hx⟩,st',λb hb=>(hf b hb).1⟩⟩
 done:=by
  intro X hP hw hK hc i pins s σ H E I hf st hg
  subst hP hw hK
  obtain⟨xs,hq,hx⟩:=hg
  obtain⟨its,rv,p,hz⟩:=I.tuple hq
  obtain⟨f0,f1,f2,f3,f4,f5⟩:=hf it (by simp)
  have hl:=rv.length
  exact wpAny_pyNext_tuple_end (I.ok.hd hc) st (show s.heap.IsTuple a its.toArray from p) (by simp;omega) λh' eb=>⟨rfl,I.turned (t':=s.toks) (λb o hb e=>eb b o hb e) f0 f1 f3 f4 f5⟩
 self:=λ_ _ _ _ _ st h=>wpAny_pyIter_tupleiter st h
theorem Qpt{P:Program}{w:World}{K:PySem.W.Frag}{tg:Expr}(it:Addr)(lo:Int)(n:Nat):Turn P w K tg (Itr lo n) [it] it (λi h=>IsRangeIter h it (lo+(i:Nat)*1) ((n:Int)-(i:Nat)) 1) where
 mem:=by simp
 obj:=λi h st b hb=>by
  have e:b=it:=by simpa using hb
  subst e
  exact⟨_,st,λv z=>by
   have z':Data.fields _=Data.cell v:=z
   cases z'⟩
 keep:=λi h h' st k=>k it (by simp) _ st
 item:=by
  intro X hP hw hK hc i pins s σ H E I hf st hg
  subst hP hw hK
  obtain⟨f0,f1,f2,f3,f4,f5⟩:=hf it (by simp)
  have W:=Walks.range (prog:=X.prog) (w:=X.w) (I.ok.hd hc) it lo 1 n
  refine W.item i s _ _ hg st λv h' tk hv st' kk=>?_
  obtain⟨t,rfl⟩:=hv
  have I1:Inv X pins σ H {s with heap:=h',toks:=tk}:=I.turned (λb o hb e=>kk b o (by simpa using hb) e) f0 f1 f3 f4 f5
  refine⟨_,rfl,Qmb (s:={s with heap:=h',toks:=tk}) (n:= "range_iterator") st' rfl rfl (by decide) ⟨.int (lo+i),H,I1,⟨t,?_⟩,⟨rfl,rfl⟩,st',λb hb=>(hf b hb).1⟩⟩
  rw[ZX]
 done:=by
  intro X hP hw hK hc i pins s σ H E I hf st hg
  subst hP hw hK
  obtain⟨f0,f1,f2,f3,f4,f5⟩:=hf it (by simp)
  exact wpAny_pyNext_range_end (I.ok.hd hc) st (by have:n<=i:=hg;omega) λh' eb=>⟨rfl,I.turned (t':=s.toks) (λb o hb e=>eb b o hb e) f0 f1 f3 f4 f5⟩
 self:=λ_ _ _ _ _ st h=>wpAny_pyIter_rangeiter st h
end L2
namespace L2
open PySem PySem.Spec PyProof.Rows
section
variable {X:Cx}{tg:Expr}
theorem QnX{pins:List (Addr×Obj)}{σ:St}{H:Hp}{s:Shared}{R:It->Hp->Prop}{E:Value->Shared->Prop}{lo hi:Int}{t u v:Tok}{tk:Nat}(I:Inv X pins σ H s)(h1: -(2^62)<=lo)(h2:lo<2^62)(h3: -(2^62)<=hi)(h4:hi<2^62)
  (q:R (Itr lo (hi-lo).toNat) H):wpAny (model X.prog X.w) X.A (pyIter (.ref s.heap.objs.size)) (PIE X pins σ tg R) E {s with heap:=s.heap.push {cls:= .type "range",data:= .fields #[.int lo t,.int hi u,.int 1 v]},toks:=tk}:=by
 refine wpAny_pyIter_range (IsRange.new ..) (small_one h1 h2 h3 h4) ?_
 have I1:Inv X pins σ H {s with heap:=s.heap.push {cls:= .type "range",data:= .fields #[.int lo t,.int hi u,.int 1 v]},toks:=tk}:=I.kept λb o e=>Zn _ e
 refine⟨(s.heap.push {cls:= .type "range",data:= .fields #[.int lo t,.int hi u,.int 1 v]}).objs.size,[(s.heap.push {cls:= .type "range",data:= .fields #[.int lo t,.int hi u,.int 1 v]}).objs.size],_,_,H,rfl,
  I1.kept (t':=tk) λb o e=>Zn _ e,Qpt _ lo (hi-lo).toNat,?_,λb hb=>?_,q⟩
 ·have e1:lo+((0:Nat):Int)*1=lo:=by simp
  have e2:(((hi-lo).toNat:Nat):Int)-((0:Nat):Int)=Builtin.Range.rangeSize lo hi 1:=by rw[rangeSize_one];split<;>omega
  show IsRangeIter _ _ (lo+((0:Nat):Int)*1) ((((hi-lo).toNat:Nat):Int)-((0:Nat):Int)) 1
  rw[e1,e2]
  exact ZN _ rfl
 ·have e:b=(s.heap.push {cls:= .type "range",data:= .fields #[.int lo t,.int hi u,.int 1 v]}).objs.size:=by simpa using hb
  subst e
  exact I1.Qku (Zi _) (I1.hok.fresh (Zi _))
noncomputable def Qyk(ta:TA):TI:=λσ H R=>ta σ H λvs H1=>∃j:Int,vs=[.int j]/\ -(2^62)<=j/\j<2^62/\R (Itr 0 j.toNat) H1
noncomputable def QxQ(ta:TA):TI:=λσ H R=>ta σ H λvs H1=>∃i j:Int,vs=[.int i,.int j]/\(-(2^62)<=i/\i<2^62/\ -(2^62)<=j/\j<2^62)/\R (Itr i (j-i).toNat) H1
theorem Qrj{a:Expr}{ta:TA}{p pos:Pos}(hg:Gl X "range")(hm:X.mg "range" =none)(ha:PA X [a] ta)(hs:starEach [a] X.env=[(false,eval a X.env)]:=by rfl):PI X tg (.Call (.Name "range" p) [a] [] pos) (Qyk ta):=by
 intro pins s σ H R I h
 refine Call_ (Qdq I hg hm boot_range (ZR (thn (ha pos pins s σ H _ I h) λus s1 ⟨vs,H1,I1,r1,q1⟩=>?_) hs rfl))
 obtain⟨j,e,q1,q2,q⟩:=q1
 subst e
 cases r1 with
 | cons r rr=>
  cases rr
  obtain⟨t,rfl⟩:=r
  exact call_range_1 (QnX I1 (by omega) (by omega) q1 q2 (by simpa using q))
theorem Qqx{a b:Expr}{ta:TA}{p pos:Pos}(hg:Gl X "range")(hm:X.mg "range" =none)(ha:PA X [a,b] ta)(hs:starEach [a,b] X.env=[(false,eval a X.env),(false,eval b X.env)]:=by rfl)(hs2:starEach [b] X.env=[(false,eval b X.env)]:=by rfl):
  PI X tg (.Call (.Name "range" p) [a,b] [] pos) (QxQ ta):=by
 intro pins s σ H R I h
 refine Call_ (Qdq I hg hm boot_range (ZR (thn (ha pos pins s σ H _ I h) λus s1 ⟨vs,H1,I1,r1,q1⟩=>?_) (by rw[hs,hs2]) (by rw[hs2];rfl)))
 obtain⟨i,j,e,⟨q1,q2,q3,q4⟩,q⟩:=q1
 subst e
 cases r1 with
 | cons r rr=>
  cases rr with
  | cons r' rr=>
   cases rr
   obtain⟨t,rfl⟩:=r
   obtain⟨t',rfl⟩:=r'
   exact call_range_2 (QnX I1 q1 q2 q3 q4 q)
noncomputable def QwH(wi:TI)(g:TG)(tb:TS):TS:=λD σ H=>wi σ H λJ H1=>∃W:Nat->Nat->St->Hp->Prop,(∃m,W 0 m σ H1)/\∀i m σ H,W i m σ H→
 (J.stop i H/\D.nx σ H)∨(J.go i H/\∃N:St->Hp->Prop,(∀σ' H',N σ' H'->∃m',m'<m/\W (i+1) m' σ' H')/\∀x H',J.yld i H x H'->g x σ H' λσ2 H2=>tb {D with nx:=N,ct:=N,bk:=D.nx} σ2 H2)
noncomputable def Qhk(fp:List Addr)(h:Heap):List (Addr×Obj):=fp.filterMap λb=>(h.get? b).map λo=>(b,o)
theorem QgA{fp:List Addr}{h:Heap}{b:Addr}{o:Obj}(hb:b∈fp)(e:h.get? b=some o):(b,o)∈Qhk fp h:=Zbf.mpr ⟨b,hb,by rw[e];rfl⟩
theorem QrH{fp:List Addr}{h:Heap}{p:Addr×Obj}(hp:p∈Qhk fp h):p.1∈fp/\h.get? p.1=some p.2:=by
 obtain⟨b,hb,e⟩:=Zbf.mp hp
 cases q:h.get? b with
 | none=>rw[q]at e;cases e
 | some o=>
  rw[q]at e
  have e':(b,o)=p:=Option.some.inj e
  subst e'
  exact⟨hb,q⟩
theorem Inv.pinned{pins:List (Addr×Obj)}{σ:St}{H:Hp}{s:Shared}{fp:List Addr}(I:Inv X pins σ H s)(hf:∀b∈fp,Qeq X pins H b)(ho:∀b∈fp,∃o,s.heap.get? b=some o/\∀v,o.data≠ .cell v):Inv X (pins++Qhk fp s.heap) σ H s:=
 I.QoI λp hp=>(ZJ.mp hp).elim (λz=>I.pin p (Zc _ z)) λz=>by
  obtain⟨hb,e⟩:=QrH z
  obtain⟨f0,f1,f2,_⟩:=hf p.1 hb
  obtain⟨o,e',d⟩:=ho p.1 hb
  rw[e]at e';cases e'
  exact⟨e,f0,f1,f2,d⟩
theorem Inv.QgF{pins pl:List (Addr×Obj)}{σ:St}{H:Hp}{s:Shared}(I:Inv X (pins++pl) σ H s):Inv X pins σ H s:=I.QoI λp hp=>I.pin p (Zc _ (Zh _ hp))
theorem QqN{iter:Expr}{body:List Stmt}{wi:TI}{g:TG}{tb:TS}{pos:Pos}(hp:PassesOwn (model X.prog X.w) X.A X.env X.xe)(hc:X.calm=true)(hi:PI X tg iter wi)(hg:PG X tg g)(hb:PSs X body tb)
  (hs:∀x,foldedSetIterable iter X.env x=pure x:=by intro _;rfl):PS X (.For tg iter body [] pos) (QwH wi g tb):=by
 intro pins s σ H D I h
 refine wpAny_For (thn (hi pins s σ H _ I h) λv s1 h1=>thn h1 λitv s2 h2=>?_) hs
 obtain⟨it,fp,tn,J,H2,e,I2,T,st2,f2,W,⟨m0,w0⟩,turn⟩:=h2
 subst e
 have stat:∀{H':Hp},(∀b∈fp,H' b=none)->∀b∈fp,Qeq X pins H' b:=λhn b hb=>⟨hn b hb,(f2 b hb).2⟩
 refine codeAny_forLoop_any (λn s'=>∃i σ' H',Inv X pins σ' H' s'/\tn i s'.heap/\(∀b∈fp,H' b=none)/\W i n σ' H') ?_ m0 ⟨0,σ,H2,I2,st2,λb hb=>(f2 b hb).1,w0⟩
 rintro n s3 ⟨i,σ3,H3,I3,st3,fr3,w3⟩
 rcases turn i n σ3 H3 w3 with⟨stop,qn⟩ | ⟨go,N,hN,step⟩
 ·refine wpAny_passesOwn hp (thn (T.done X rfl rfl rfl hc i pins s3 σ3 H3 X.xe I3 (stat fr3) st3 stop) λr s4 ⟨hr,I4⟩=>?_)
  subst hr
  exact wpAny_execs_nil ⟨σ3,H3,I4,qn⟩
 ·refine wpAny_passesOwn hp (thn (T.item X rfl rfl rfl hc i pins s3 σ3 H3 X.xe I3 (stat fr3) st3 go) λr s4 ⟨u,hr,h4⟩=>?_)
  subst hr
  refine wpAny_passesOwn hp (thn h4 λ_ s5 ⟨x,H5,I5,r5,y5,st5,fr5⟩=>?_)
  have I5':=I5.pinned (stat fr5) (T.obj _ _ st5)
  refine wpAny_passesOwn hp (thn (hg _ s5 σ3 H5 x u _ I5' r5 (step x H5 y5)) λ_ s6 ⟨σ6,H6,I6,q6⟩=>?_)
  refine wpAny_passesOwn hp (thn (hb _ s6 σ6 H6 _ I6 q6) λf s7 q7=>?_)
  have again:∀{σ7:St}{H7:Hp},Inv X (pins++Qhk fp s5.heap) σ7 H7 s7->N σ7 H7->∃m,m<n/\∃i σ' H',Inv X pins σ' H' s7/\tn i s7.heap/\(∀b∈fp,H' b=none)/\W i m σ' H':=λ{σ7 H7} I7 n7=>by
   obtain⟨m',hm,w7⟩:=hN σ7 H7 n7
   refine⟨m',hm,i+1,σ7,H7,I7.QgF,T.keep _ _ _ st5 λb hb o e=>(I7.pin (b,o) (Zc _ (Zc _ (QgA hb e)))).1,λb hb=>?_,w7⟩
   obtain⟨o,e,d⟩:=T.obj _ _ st5 b hb
   exact(I7.pin (b,o) (Zc _ (Zc _ (QgA hb e)))).2.1
  cases f with
  | next=>obtain⟨σ7,H7,I7,n7⟩:=q7;exact again I7 n7
  | cont=>obtain⟨σ7,H7,I7,n7⟩:=q7;exact again I7 n7
  | brk=>obtain⟨σ7,H7,I7,q7⟩:=q7;exact⟨σ7,H7,I7.QgF,q7⟩
  | ret v=>obtain⟨x7,σ7,H7,I7,r7,q7⟩:=q7;exact⟨x7,σ7,H7,I7.QgF,r7,q7⟩
end
end L2
namespace L2
open PySem PySem.Spec PyProof.Rows
noncomputable abbrev R2:=V->V->Hp->VK->Prop
def OpR(X:Cx)(f:Value->Value->Sem Value)(r:R2):Prop:=
 ∀(pins:List (Addr×Obj)) (s:Shared) (σ:St) (H:Hp) (x y:V) (v u:Value) (Q:VK),Inv X pins σ H s->RelV x v->RelV y u->r x y H Q→
  wpAny (model X.prog X.w) X.A (f v u) (EP X pins σ Q) X.xe s
def UnR(X:Cx)(f:Value->Sem Value)(r:V->Hp->VK->Prop):Prop:=
 ∀(pins:List (Addr×Obj)) (s:Shared) (σ:St) (H:Hp) (x:V) (v:Value) (Q:VK),Inv X pins σ H s->RelV x v->r x H Q→
  wpAny (model X.prog X.w) X.A (f v) (EP X pins σ Q) X.xe s
def Qbv(X:Cx)(f:Value)(r:List V->Hp->VK->Prop):Prop:=
 ∀(pins:List (Addr×Obj)) (s:Shared) (σ:St) (H:Hp) (xs:List V) (us:List Value) (Q:VK),Inv X pins σ H s->QD xs us->r xs H Q→
  wpAny (model X.prog X.w) X.A (call f us) (EP X pins σ Q) X.xe s
def QyG(X:Cx)(r:V->Hp->(Bool->Hp->Prop)->Prop):Prop:=
 ∀(pins:List (Addr×Obj)) (s:Shared) (σ:St) (H:Hp) (x:V) (v:Value) (Q:Bool->Hp->Prop),Inv X pins σ H s->RelV x v->r x H Q→
  wpAny (model X.prog X.w) X.A (truthy v) (TP X pins σ Q) X.xe s
noncomputable def tOp(r:R2)(ta tb:TE):TE:=λσ H Q=>ta σ H λx H1=>tb σ H1 λy H2=>r x y H2 Q
noncomputable def tUn(r:V->Hp->VK->Prop)(ta:TE):TE:=λσ H Q=>ta σ H λx H1=>r x H1 Q
noncomputable def rI(C:Int->Int->Prop)(g:Int->Int->V):R2:=λx y H Q=>∃i j,x= .int i/\y= .int j/\C i j/\Q (g i j) H
noncomputable def rI0(g:Int->Int->V):R2:=λx y H Q=>∃i j,x= .int i/\y= .int j/\Q (g i j) H
noncomputable def rU(g:Int->V):V->Hp->VK->Prop:=λx H Q=>∃i,x= .int i/\Q (g i) H
section
variable {X:Cx}{a b c:Expr}{ta tb tc:TE}{pos:Pos}
theorem QrU(ha:PE X a ta)(hb:PE X b tb){pins:List (Addr×Obj)}{s:Shared}{σ:St}{H:Hp}{R:V->V->Hp->Prop}(I:Inv X pins σ H s)
  (h:ta σ H λx H1=>tb σ H1 λy H2=>R x y H2) {Q:Value->Shared->Prop}{f:Value->Value->Sem Value}
  (hf:∀v u s2 x y H2,Inv X pins σ H2 s2->RelV x v->RelV y u->R x y H2->wpAny (model X.prog X.w) X.A (f v u) Q X.xe s2):
  wpAny (model X.prog X.w) X.A (eval a X.env) (λv s₁=>wpAny (model X.prog X.w) X.A (eval b X.env) (λu s₂=>wpAny (model X.prog X.w) X.A (f v u) Q X.xe s₂) X.xe s₁) X.xe s:=by
 refine thn (ha pins s σ H _ I h) λv s1 ⟨x,H1,I1,r1,q1⟩=>?_
 refine thn (hb pins s1 σ H1 _ I1 q1) λu s2 ⟨y,H2,I2,r2,q2⟩=>?_
 exact hf v u s2 x y H2 I2 r1 r2 q2
theorem QpX{op:Operator}{r:R2}(ho:OpR X (binaryOp op) r)(ha:PE X a ta)(hb:PE X b tb):PE X (.BinOp a op b pos) (tOp r ta tb):=by
 intro pins s σ H Q I h
 exact wpAny_BinOp (QrU ha hb I h λv u s2 x y H2 I2 rx ry q=>ho pins s2 σ H2 x y v u Q I2 rx ry q)
theorem Qyc{op:UnaryOp}{r:V->Hp->VK->Prop}(ho:UnR X (unaryOp op) r)(ha:PE X a ta):PE X (.UnaryOp op a pos) (tUn r ta):=by
 intro pins s σ H Q I h
 exact UnaryOp_ (thn (ha pins s σ H _ I h) λv s1 ⟨x,H1,I1,r1,q1⟩=>ho pins s1 σ H1 x v Q I1 r1 q1)
theorem opI{f:Value->Value->Sem Value}{C:Int->Int->Prop}{g:Int->Int->Int}
  (rule:∀(i j:Int) (t u:Tok) (s:Shared) (Q:Value->Shared->Prop) (E:Value->Shared->Prop),C i j->Q (.int (g i j) s.toks) {s with toks:=s.toks+1}->wpAny (model X.prog X.w) X.A (f (.int i t) (.int j u)) Q E s):
  OpR X f (rI C λi j=> .int (g i j)):=by
 intro pins s σ H x y v u Q I rx ry h
 obtain⟨i,j,rfl,rfl,hc,q⟩:=h
 obtain⟨t,rfl⟩:=rx
 obtain⟨t',rfl⟩:=ry
 exact rule i j t t' s _ _ hc ⟨.int (g i j),H,I.tok _,⟨_,rfl⟩,q⟩
theorem Qwv{f:Value->Value->Sem Value}{g:Int->Int->Int}
  (rule:∀(i j:Int) (t u:Tok) (s:Shared) (Q:Value->Shared->Prop) (E:Value->Shared->Prop),Q (.int (g i j) s.toks) {s with toks:=s.toks+1}->wpAny (model X.prog X.w) X.A (f (.int i t) (.int j u)) Q E s):
  OpR X f (rI0 λi j=> .int (g i j)):=by
 intro pins s σ H x y v u Q I rx ry h
 obtain⟨i,j,rfl,rfl,q⟩:=h
 obtain⟨t,rfl⟩:=rx
 obtain⟨t',rfl⟩:=ry
 exact rule i j t t' s _ _ ⟨.int (g i j),H,I.tok _,⟨_,rfl⟩,q⟩
theorem Qo8{f:Value->Value->Sem Value}{g:Int->Int->Bool}
  (rule:∀(i j:Int) (t u:Tok) (s:Shared) (Q:Value->Shared->Prop) (E:Value->Shared->Prop),Q (.bool (g i j)) s->wpAny (model X.prog X.w) X.A (f (.int i t) (.int j u)) Q E s):
  OpR X f (rI0 λi j=> .bl (g i j)):=by
 intro pins s σ H x y v u Q I rx ry h
 obtain⟨i,j,rfl,rfl,q⟩:=h
 obtain⟨t,rfl⟩:=rx
 obtain⟨t',rfl⟩:=ry
 exact rule i j t t' s _ _ ⟨.bl (g i j),H,I,rfl,q⟩
def Qxq(i j:Int):Prop:=(-(2^64)<i/\i<2^64)∨(-(2^64)<j/\j<2^64)
theorem Qxq.ok{i j:Int}(h:Qxq i j):IntMulOk i j:=by
 rcases h with⟨h1,h2⟩ | ⟨h1,h2⟩
 ·exact .of_left (intBits_le_64 h1 h2)
 ·exact .of_right (intBits_le_64 h1 h2)
theorem Qv8:OpR X (binaryOp .Add) (rI0 λi j=> .int (i+j)):=Qwv λ_ _ _ _ _ _ _ q=>add_int q
theorem Qxp:OpR X (binaryOp .Sub) (rI0 λi j=> .int (i-j)):=Qwv λ_ _ _ _ _ _ _ q=>sub_int q
theorem unI{f:Value->Sem Value}{g:Int->Int}
  (rule:∀(i:Int) (t:Tok) (s:Shared) (Q:Value->Shared->Prop) (E:Value->Shared->Prop),Q (.int (g i) s.toks) {s with toks:=s.toks+1}->wpAny (model X.prog X.w) X.A (f (.int i t)) Q E s):
  UnR X f (rU λi=> .int (g i)):=by
 intro pins s σ H x v Q I rx h
 obtain⟨i,rfl,q⟩:=h
 obtain⟨t,rfl⟩:=rx
 exact rule i t s _ _ ⟨.int (g i),H,I.tok _,⟨_,rfl⟩,q⟩
theorem Qws:UnR X (unaryOp .USub) (rU λi=> .int (-i)):=unI λ_ _ _ _ _ q=>neg_int q
end
section
variable {X:Cx}{a b c:Expr}{ta tb tc:TE}{pos:Pos}
theorem Qym:OpR X (compareOp .Lt) (rI0 λi j=> .bl (decide (i<j))):=Qo8 λ_ _ _ _ _ _ _ q=>lt_int q
theorem Qxz:OpR X (compareOp .LtE) (rI0 λi j=> .bl (decide (i<=j))):=Qo8 λ_ _ _ _ _ _ _ q=>le_int q
theorem QxX:OpR X (compareOp .Gt) (rI0 λi j=> .bl (decide (j<i))):=Qo8 λ_ _ _ _ _ _ _ q=>gt_int q
theorem QxT:OpR X (compareOp .GtE) (rI0 λi j=> .bl (decide (j<=i))):=Qo8 λ_ _ _ _ _ _ _ q=>ge_int q
theorem OpR.or{f:Value->Value->Sem Value}{r r':R2}(h:OpR X f r)(h':OpR X f r'):OpR X f (λx y H Q=>r x y H Q∨r' x y H Q):=by
 intro pins s σ H x y v u Q I rx ry q
 rcases q with q | q
 ·exact h pins s σ H x y v u Q I rx ry q
 ·exact h' pins s σ H x y v u Q I rx ry q
theorem Qzo(b:Expr){op:CmpOp}(h:op≠ .In:=by decide)(h2:op≠ .NotIn:=by decide):behindInMarks op b=false:=by
 have e1:(op == CmpOp.In)=false:=by cases op<;>first | rfl | exact absurd rfl h
 have e2:(op == CmpOp.NotIn)=false:=by cases op<;>first | rfl | exact absurd rfl h2
 cases b<;>simp[behindInMarks,e1,e2]
theorem Qu6{op:CmpOp}{r:R2}(ho:OpR X (compareOp op) r)(ha:PE X a ta)(hb:PE X b tb)(hm:behindInMarks op b=false):PE X (.Compare a [op] [b] pos) (tOp r ta tb):=by
 intro pins s σ H Q I h
 exact wpAny_Compare1 (QrU ha hb I h λv u s2 x y H2 I2 rx ry q=>ho pins s2 σ H2 x y v u Q I2 rx ry q) hm
noncomputable def Qyp(t:TE):TT:=λσ H Q=>t σ H λx H'=>∃k,x= .bl k/\Q k H'
theorem Qui{op:CmpOp}{r:R2}(ho:OpR X (compareOp op) r)(ha:PE X a ta)(hb:PE X b tb)(hm:behindInMarks op b=false):PT X (.Compare a [op] [b] pos) (Qyp (tOp r ta tb)):=by
 intro pins s σ H Q I h
 refine wpAny_isTrue_Compare1 (thn (ha pins s σ H _ I h) λv s1 ⟨x,H1,I1,r1,q1⟩=>thn (hb pins s1 σ H1 _ I1 q1) λu s2 ⟨y,H2,I2,r2,q2⟩=>
  thn (ho pins s2 σ H2 x y v u _ I2 r1 r2 q2) λc s3 ⟨z,H3,I3,r3,k,e,q3⟩=>?_) hm
 subst e
 cases r3
 exact wpAny_truthy_bool ⟨H3,I3,q3⟩
def Qsz(K:PySem.W.Frag)(x:V)(H:Hp)(k:Bool):Prop:=
 match x with
 | .non=>k=false
 | .bl b=>k=b
 | .int i=>k=(i != 0)
 | .str y=>y.length<=sizeLine/\k=((y.length:Int) != 0)
 | .byt y=>y.size<=sizeLine/\k=((y.size:Int) != 0)
 | .ref p=>(∃xs,SqL K H p xs/\k= !xs.isEmpty)∨(∃xs,SqT K H p xs/\k= !xs.isEmpty)∨∃kvs,H p=some (.dK kvs)/\k= !kvs.isEmpty
 | _=>False
theorem Qpb{κ:Type}{kvs:List (κ×V)}{vs:List (κ×Value)}(r:KV kvs vs):(!vs.isEmpty)= !kvs.isEmpty:=by
 cases r<;>rfl
theorem Qjp{xs:List V}{its:List Value}(r:QD xs its):(!its.toArray.isEmpty)= !xs.isEmpty:=by
 cases r<;>simp
theorem Qg6:(sizeLine:Nat)<2^63:=by rw[sizeLine_eq];decide
theorem QjB:QyG X (λx H Q=>∃k,Qsz X.K x H k/\Q k H):=by
 intro pins s σ H x v Q I rx h
 obtain⟨k,e,q⟩:=h
 have hl:=Qg6
 have hs:sizeLine=16777216:=sizeLine_eq
 cases x with
 | non=>
  cases rx
  have e':k=false:=e
  subst e'
  exact truthy_none ⟨H,I,q⟩
 | bl b=>
  cases rx
  have e':k=b:=e
  subst e'
  exact wpAny_truthy_bool ⟨H,I,q⟩
 | int i=>
  obtain⟨t,rfl⟩:=rx
  have e':k=(i != 0):=e
  subst e'
  exact PySem.P.truthy_int ⟨H,I,q⟩
 | str y=>
  obtain⟨t,rfl⟩:=rx
  obtain⟨hy,e'⟩:y.length<=sizeLine/\k=((y.length:Int) != 0):=e
  subst e'
  exact PySem.P.truthy_str (by omega) ⟨H,I.tok _,q⟩
 | byt y=>
  obtain⟨t,rfl⟩:=rx
  obtain⟨hy,e'⟩:y.size<=sizeLine/\k=((y.size:Int) != 0):=e
  subst e'
  exact PySem.W.truthy_bytes (by omega) ⟨H,I.tok _,q⟩
 | ref p=>
  cases rx
  have e':(∃xs,SqL X.K H p xs/\k= !xs.isEmpty)∨(∃xs,SqT X.K H p xs/\k= !xs.isEmpty)∨∃kvs,H p=some (.dK kvs)/\k= !kvs.isEmpty:=e
  rcases e' with⟨xs,hx,e'⟩ | ⟨xs,hx,e'⟩ | ⟨kvs,hx,e'⟩
  ·subst e'
   obtain⟨its,r,pl,hz⟩:=I.list hx
   have hlen:=r.length
   exact wpAny_truthy_list pl.isList (by simp only[Zw];omega) ⟨H,I.tok _,by rw[Qjp r];exact q⟩
  ·subst e'
   obtain⟨its,r,pl,hz⟩:=I.tuple hx
   have hlen:=r.length
   exact truthy_tuple pl (by simp only[Zw];omega) ⟨H,I.tok _,by rw[Qjp r];exact q⟩
  ·subst e'
   obtain⟨hz,hS,vs,r,m⟩:kvs.length<=sizeLine/\(p == sysModules)=false/\∃vs,KV kvs vs/\s.heap.DictOf (Qkv X.prog X.w) p vs:=I.hok p _ hx
   have hlen:kvs.length=vs.length:=Paired.length r
   exact wpAny_truthy_dict hS m (by omega) ⟨H,I.tok _,by rw[Qpb r];exact q⟩
 | _=>exact(show False from e).elim
theorem QsJ(ha:PE X a ta)(he:∀whole,isTrue a X.env whole=(do let v ← whole;standAt a.pos;holding [v] (truthy v))):
  PT X a (λσ H Q=>ta σ H λx H'=>∃k,Qsz X.K x H' k/\Q k H'):=by
 intro pins s σ H Q I h
 exact isTrue_plain (thn (ha pins s σ H _ I h) λv s1 ⟨x,H1,I1,r1,q1⟩=>QjB pins s1 σ H1 x v Q I1 r1 q1) (he _)
theorem vals1{x:V}{us:List Value}(r:QD [x] us):∃u,us=[u]/\RelV x u:=by
 cases r with
 | cons r1 r2=>cases r2;exact⟨_,rfl,r1⟩
theorem vals2{x y:V}{us:List Value}(r:QD [x,y] us):∃u w',us=[u,w']/\RelV x u/\RelV y w':=by
 cases r with
 | cons r1 r2=>
  cases r2 with
  | cons r3 r4=>cases r4;exact⟨_,_,rfl,r1,r3⟩
theorem Qsc:Qbv X (.builtin "abs") (λxs H Q=>∃i,xs=[.int i]/\Q (.int (if i<0 then-i else i)) H):=by
 intro pins s σ H xs us Q I r h
 obtain⟨i,rfl,q⟩:=h
 obtain⟨u,rfl,t,rfl⟩:=vals1 r
 exact call_abs_int λu tk=>⟨.int (if i<0 then-i else i),H,I.tok _,⟨_,rfl⟩,q⟩
theorem Qq6(hc:X.calm=true):Qbv X (.builtin "max") (λxs H Q=>∃i j,xs=[.int i,.int j]/\Q (.int (if j>i then j else i)) H):=by
 intro pins s σ H xs us Q I r h
 obtain⟨i,j,rfl,q⟩:=h
 obtain⟨u,w',rfl,⟨t,rfl⟩,⟨t',rfl⟩⟩:=vals2 r
 refine max_two_ints (I.ok.hd hc) λh' tk k=>⟨_,H,I.kept k,?_,q⟩
 by_cases hj:j>i
 ·rw[if_pos hj,if_pos hj];exact⟨_,rfl⟩
 ·rw[if_neg hj,if_neg hj];exact⟨_,rfl⟩
theorem Qrq(hc:X.calm=true):Qbv X (.builtin "min") (λxs H Q=>∃i j,xs=[.int i,.int j]/\Q (.int (if j<i then j else i)) H):=by
 intro pins s σ H xs us Q I r h
 obtain⟨i,j,rfl,q⟩:=h
 obtain⟨u,w',rfl,⟨t,rfl⟩,⟨t',rfl⟩⟩:=vals2 r
 refine min_two_ints (I.ok.hd hc) λh' tk k=>⟨_,H,I.kept k,?_,q⟩
 by_cases hj:j<i
 ·rw[if_pos hj,if_pos hj];exact⟨_,rfl⟩
 ·rw[if_neg hj,if_neg hj];exact⟨_,rfl⟩
theorem Qra:Qbv X (.type "int") (λxs H Q=>(∃i,xs=[.int i]/\Q (.int i) H)∨∃k,xs=[.bl k]/\Q (.int (if k then 1 else 0)) H):=by
 intro pins s σ H xs us Q I r h
 rcases h with⟨i,rfl,q⟩ | ⟨k,rfl,q⟩
 ·obtain⟨u,rfl,t,rfl⟩:=vals1 r
  exact call_int_int ⟨.int i,H,I,⟨_,rfl⟩,q⟩
 ·obtain⟨u,rfl,r1⟩:=vals1 r
  cases r1
  exact call_int_bool ⟨.int (if k then 1 else 0),H,I.tok _,⟨_,rfl⟩,q⟩
end
end L2
namespace L2
open PySem PySem.Spec PyProof.Rows
structure QvV (h:Heap) (x dx C:Addr) (mA:Str->Option Value):Prop where
 obj:h.get? x=some (PySem.W.instObj C dx)
 ns:h.Ns1 dx mA
 ne:dx≠x
theorem Qqc{h:Heap}{dx:Addr}{mA:Str->Option Value}(n:h.Ns1 dx mA):∃od,h.get? dx=some od/\∀name,PySem.W.lookIn name od=some (mA name):=by
 obtain⟨o,es,ep,ho,hd,hk,_,hm⟩:=n
 refine⟨o,ho,λname=>?_⟩
 have e:=hm name
 unfold nsFind findBy at e
 rw[← Array.find?_toList]at e
 unfold PySem.W.lookIn
 rw[hd]
 dsimp only
 split
 ·rename_i y q
  rw[q]at e
  exact congrArg some e
 ·rename_i q
  rw[q]at e
  have a:es.toList.any (·.refKey)=false:=by
   rw[List.any_eq_false]
   intro y hy
   obtain⟨z,t,hkey⟩:=hk y (Array.mem_toList_iff.mp hy)
   simp[DictEntry.refKey,hkey]
  have a':¬es.toList.any (·.refKey)=true:=by rw[a];exact Zao
  rw[if_neg a']
  exact congrArg some e
theorem QvV.look{h:Heap}{x dx C:Addr}{mA:Str->Option Value}(I:QvV h x dx C mA):∃od,PySem.W.InstAt h x (PySem.W.instObj C dx) C (some od)/\∀name,PySem.W.lookIn name od=some (mA name):=
 let ⟨od,ho,hl⟩:=Qqc I.ns
 ⟨od,⟨I.obj,rfl,rfl,ho⟩,hl⟩
section
variable {prog:Program}{w:World}{A:Around}{E:Value->Shared->Prop}{s:Shared}{K:PySem.W.Frag}{x dx C f:Addr}{mA:Str->Option Value}{name:Str}{v:Value}
end
theorem Qk5.some_of{v:V}{o:Option Value}(r:Qk5 (some v) o):∃u,o=some u/\RelV v u:=by
 cases o with
 | none=>exact(show False from r).elim
 | some u=>exact⟨u,rfl,r⟩
theorem Qk5.none_of{o:Option Value}(r:Qk5 none o):o=none:=by
 cases o with
 | none=>rfl
 | some u=>exact(show False from r).elim
section
variable {P:Program}{w:World}{H H':Hp}{h h':Heap}{a C dx:Addr}{fs fs':List (Str×V)}
end
structure Cls (K:PySem.W.Frag) (C:Addr):Prop where
 pg:PySem.W.plainGet K C Str.empty=true
 hd:PySem.W.hasDictIn K C=true
 po:PySem.W.plainOver K C=true
 sa:PySem.W.findIn K (.ref C) "__setattr__" =some (some (.builtin "object.__setattr__"))
theorem Cls.get{K:PySem.W.Frag}{C:Addr}(c:Cls K C)(f:Str):PySem.W.plainGet K C f=true:=c.pg
structure Con (K:PySem.W.Frag) (C:Addr) (f:Str) (v:V) (u:Value):Prop where
 at_:PySem.W.findIn K (.ref C) f=some (some u)
 rel:RelV v u
 get:PySem.W.specialIn K u "__get__" =some none
 cp:PySem.W.copiedNames.contains f=false
structure Qzu (K:PySem.W.Frag) (C:Addr) (m:Str) (f:Addr):Prop where
 at_:PySem.W.findIn K (.ref C) m=some (some (.ref f))
 fn:PySem.W.isFn K (.ref f)=true
 kp:PySem.W.keepIn K (.ref f)=true
section
variable {X:Cx}{pins:List (Addr×Obj)}{σ:St}{H:Hp}{s:Shared}{a C dx:Addr}{fs:List (Str×V)}{f:Str}{v:V}{A:Around}{E:Value->Shared->Prop}
theorem Inv.made(I:Inv X pins σ H s):Inv X pins σ (upd (upd H s.heap.objs.size (.own (s.heap.objs.size+1))) (s.heap.objs.size+1) (.ins C s.heap.objs.size []))
  {s with heap:=(s.heap.push PySem.W.emptyDict).push (PySem.W.instObj C s.heap.objs.size)}:=by
 have e1:(s.heap.push PySem.W.emptyDict).get? s.heap.objs.size=some PySem.W.emptyDict:=ZN s.heap rfl
 have e2:((s.heap.push PySem.W.emptyDict).push (PySem.W.instObj C s.heap.objs.size)).get? (s.heap.objs.size+1)=some (PySem.W.instObj C s.heap.objs.size):=by
  have:=ZN (s.heap.push PySem.W.emptyDict) (o:=PySem.W.instObj C s.heap.objs.size) rfl
  rwa[ZaV]at this
 have e3:(s.heap.push PySem.W.emptyDict).Ns s.heap.objs.size (λ_=>none):=⟨PySem.W.emptyDict,#[],_,e1,rfl,(λe he=>absurd he (by simp)),λ_=>rfl⟩
 have I1:=I.laid (a:=s.heap.objs.size) (o:= .own (s.heap.objs.size+1)) (h':=s.heap.push PySem.W.emptyDict) (t':=s.toks) (λb u q=>Zn _ q) (Zi _) ⟨_,e1⟩
 refine I1.laid (a:=s.heap.objs.size+1) (o:= .ins C s.heap.objs.size []) (t':=s.toks) (λb u q=>Zn _ q) (Nat.le_of_eq (ZaV _ _)) ?_
 have ne:s.heap.objs.size≠s.heap.objs.size+1:=ZU (Zbq _)
 refine⟨by rw[QQ ne,Qai],ZS _,ne,e2,λ_=>none,(Heap.Ns1.of_empty e3).at λo q=>Zn _ q,λ_=>True.intro,λy hy=>absurd rfl hy⟩
end
section
variable {X:Cx}{o e value:Expr}{f:Str}{pos pos' tpos:Pos}{ta tv:TE}
end
section
variable {X:Cx}{pins:List (Addr×Obj)}{σ:St}{H:Hp}{s:Shared}{A:Around}{E:Value->Shared->Prop}{Q:Value->Shared->Prop}{c:Value}{b:Bool}
end
end L2
namespace L2
open PySem PySem.Spec PyProof.Rows
structure QaE (k:Nat) (A:Around):Prop where
 hd:A.handled=none
 dp:A.depth+3*k+5<recursionLimit
 un:A.units+16*k+200<cLine
theorem QaE.mono{j k:Nat}{A:Around}(r:QaE k A)(h:j<=k):QaE j A:=⟨r.hd,by have:=r.dp;omega,by have:=r.un;omega⟩
theorem QaE.deeper{k:Nat}{A:Around}(r:QaE (k+1) A)(env:Env):QaE k (A.deeper env):=
 ⟨r.hd,by have:=r.dp;show A.depth+1+3*k+5<_;omega,by have:=r.un;show A.units+3+16*k+200<_;omega⟩
theorem QaE.in1{k:Nat}{A:Around}(r:QaE (k+1) A):QaE k A.in1:=
 ⟨r.hd,by have:=r.dp;show A.depth+3*k+5<_;omega,by have:=r.un;show A.units+1+16*k+200<_;omega⟩
theorem Qph{A:Around}{C:Addr}{us:List Value}{kw:List (Str×Value)}:(A.under (.builtin "type.__call__" ⟨.ref C::us,kw⟩)).depth=A.depth+1:=by
 first | rfl | simp[Around.under,Code.weight,Code.isCreation,Code.isGuard,Code.isCaller,Code.frames,Code.isFrame,guardIds]
theorem QpT{A:Around}{C:Addr}{us:List Value}{kw:List (Str×Value)}:(A.under (.builtin "type.__call__" ⟨.ref C::us,kw⟩)).units=A.units+1:=by
 first | rfl | simp[Around.under,Code.cUnits,Code.frames,Code.isFrame]
theorem QaE.make{k:Nat}{A:Around}(r:QaE (k+1) A)(C:Addr)(us:List Value)(kw:List (Str×Value)):QaE k (A.under (.builtin "type.__call__" ⟨.ref C::us,kw⟩)):=
 ⟨r.hd,by have:=r.dp;rw[Qph];omega,by have:=r.un;rw[QpT];omega⟩
theorem QaE.depth{k:Nat}{A:Around}(r:QaE k A):A.depth<recursionLimit:=by have:=r.dp;omega
theorem QaE.units{k:Nat}{A:Around}(r:QaE k A):A.units+64<cLine:=by have:=r.un;omega
noncomputable def Qnq:TA:=λ_ H Q=>Q [] H
noncomputable def Qgx(ta:TE)(tr:TA):TA:=λσ H Q=>ta σ H λx H1=>tr σ H1 λxs H2=>Q (x::xs) H2
section
variable {X:Cx}{e:Expr}{es:List Expr}{te:TE}{t:TA}{pos:Pos}
theorem Qds:PA X [] Qnq:=λ_ _ _ _ H Q I h=>Calls.spliced_nil ⟨[],H,I,.nil,h⟩
theorem QaB(ha:PE X e te)(hr:PA X es t)(hs:starEach (e::es) X.env=(false,eval e X.env)::starEach es X.env:=by rfl):PA X (e::es) (Qgx te t):=by
 intro pos pins s σ H Q I h
 rw[hs]
 show wpAny _ _ (spliced ((false,eval e X.env)::backTo pos (starEach es X.env))) _ _ s
 refine Calls.spliced_cons (thn (ha pins s σ H _ I h) λu s1 ⟨x,H1,I1,r1,q1⟩=>?_)
 exact thn (hr pos pins s1 σ H1 _ I1 q1) λus s2 ⟨xs,H2,I2,r2,q2⟩=>⟨x::xs,H2,I2,.cons r1 r2,q2⟩
noncomputable def Qv3(t:TA):TE:=λσ H Q=>t σ H λxs H1=>xs.length<=sizeLine/\∀p,H1 p=none->Q (.ref p) (upd H1 p (.tup xs))
noncomputable def Qy1(t:TA):TE:=λσ H Q=>t σ H λxs H1=>xs.length<=sizeLine/\∀p,H1 p=none->Q (.ref p) (upd H1 p (.lst xs))
theorem Qqw{x1}(h:PA X es t):PE X (.Tuple es x1 pos) (Qv3 t):=by
 intro pins s σ H Q I hq
 refine wpAny_Tuple_spliced (thn (h pos pins s σ H _ I hq) λus s1 ⟨xs,H1,I1,r,z,q⟩=>⟨by rw[← r.length];exact z,?_⟩)
 have hf:H1 s1.heap.objs.size=none:=I1.hok.fresh (Zi _)
 refine⟨.ref s1.heap.objs.size,upd H1 s1.heap.objs.size (.tup xs),I1.laid (t':=s1.toks) (λb u e=>Zn _ e) (Zi _) ?_,rfl,q _ hf⟩
 exact⟨z,us,r,⟨_,ZN _ rfl,rfl,_,rfl⟩⟩
theorem Qw1(h:PA X es t):PE X (.List es pos) (Qy1 t):=by
 intro pins s σ H Q I hq
 refine wpAny_List_spliced (thn (h pos pins s σ H _ I hq) λus s1 ⟨xs,H1,I1,r,z,q⟩=>⟨by rw[← r.length];exact z,?_⟩)
 have hf:H1 s1.heap.objs.size=none:=I1.hok.fresh (Zi _)
 refine⟨.ref s1.heap.objs.size,upd H1 s1.heap.objs.size (.lst xs),I1.laid (t':=s1.toks) (λb u e=>Zn _ e) (Zi _) ?_,rfl,q _ hf⟩
 exact⟨z,us,0,r,ZN _ rfl⟩
end
noncomputable abbrev Sp:=List V->Hp->VK->XK->Prop
noncomputable abbrev CXT:=List Env->Hp->Shared->XK->Value->Shared->Prop
structure Qe5 (P:Program) (w:World) (K:PySem.W.Frag) (mg:Str->Option Value) (base:Heap) (A:Around) (outer:List Env) (s:Shared) (H:Hp):Prop where
 frames:A.frames=some outer
 mod:Mod K mg base
 bs:∀b o,base.get? b=some o->s.heap.get? b=some o/\H b=none
 bsz:base.objs.size<=s.heap.objs.size
 QdD:s.heap.FunFrames base outer
 frf:∀b∈frs outer,H b=none
 hok:HOk P w H s.heap
 bare:AllBare s.gens
def CE(outer:List Env)(P:Program)(w:World)(H:Hp)(s:Shared)(Q:VK)(u:Value)(s':Shared):Prop:=
 ∃v H',s'.os=s.os/\AllBare s'.gens/\Un (frs outer) [] H H' s.heap s'.heap/\HOk P w H' s'.heap/\RelV v u/\Q v H'
def CR(CX:CXT)(outer:List Env)(P:Program)(w:World)(H:Hp)(s:Shared)(Q:VK)(E:XK)(r:Result)(s':Shared):Prop:=
 match r with
 | .ok (.ret u)=>CE outer P w H s Q u s'
 | .ok _=>False
 | .error e=>CX outer H s E e s'
structure Qby (P:Program) (w:World) (K:PySem.W.Frag) (mg:Str->Option Value) (base:Heap) (CX:CXT) (k:Nat) (f:Addr) (fd:FuncData) (ps:List Str) (sp:Sp):Prop where
 len:∀vs H Q E,sp vs H Q E->vs.length=ps.length
 run:∀(A:Around) (outer:List Env) (s:Shared) (H:Hp) (args:Args) (us:List Value) (vs:List V) (Q:VK) (E:XK),QaE k A->Qe5 P w K mg base A outer s H->BindsTo s fd args (ps.zip us)->QD vs us->sp vs H Q E→
  codeAny (model P w) A (.call (.ref f) args) (CR CX outer P w H s Q E) s
theorem Qby.mono{P:Program}{w:World}{K:PySem.W.Frag}{mg:Str->Option Value}{base:Heap}{CX:CXT}{j k:Nat}{f:Addr}{fd:FuncData}{ps:List Str}{sp:Sp}(F:Qby P w K mg base CX j f fd ps sp)(h:j<=k):
  Qby P w K mg base CX k f fd ps sp:=⟨F.len,λA outer s H args us vs Q E hr=>F.run A outer s H args us vs Q E (hr.mono h)⟩
theorem Qby.imp{P:Program}{w:World}{K:PySem.W.Frag}{mg:Str->Option Value}{base:Heap}{CX:CXT}{k:Nat}{f:Addr}{fd:FuncData}{ps:List Str}{sp sp':Sp}(F:Qby P w K mg base CX k f fd ps sp)
  (h:∀vs H Q E,sp' vs H Q E->sp vs H Q E):Qby P w K mg base CX k f fd ps sp':=
 ⟨λvs H Q E q=>F.len vs H Q E (h _ _ _ _ q),λA outer s H args us vs Q E hr he hb hv hs=>F.run A outer s H args us vs Q E hr he hb hv (h _ _ _ _ hs)⟩
theorem Qe5.make{P:Program}{w:World}{K:PySem.W.Frag}{mg:Str->Option Value}{base:Heap}{A:Around}{outer:List Env}{s:Shared}{H:Hp}(e:Qe5 P w K mg base A outer s H)(C:Addr)(us:List Value)(kw:List (Str×Value)):
  Qe5 P w K mg base (A.under (.builtin "type.__call__" ⟨.ref C::us,kw⟩)) outer s H:=⟨by first | exact e.frames | (simpa[Around.under,Code.envs,Code.isFrame,pushEnvs]using e.frames),e.mod,e.bs,e.bsz,e.QdD,e.frf,e.hok,e.bare⟩
theorem Qe5.in1{P:Program}{w:World}{K:PySem.W.Frag}{mg:Str->Option Value}{base:Heap}{A:Around}{outer:List Env}{s:Shared}{H:Hp}(e:Qe5 P w K mg base A outer s H):
  Qe5 P w K mg base A.in1 outer s H:=⟨e.frames,e.mod,e.bs,e.bsz,e.QdD,e.frf,e.hok,e.bare⟩
section
variable {X:Cx}{pins:List (Addr×Obj)}{σ:St}{H:Hp}{s s':Shared}
theorem Inv.Qzh(I:Inv X pins σ H s):Qe5 X.prog X.w X.K X.mg X.base X.A X.stack s H:=
 ⟨I.ok.frames,I.ok.mod,I.bs,Zk I.ok.bsz I.sz,I.stack,I.Qox,I.hok,I.bare⟩
theorem Inv.after{Q:VK}{u:Value}(I:Inv X pins σ H s)(h:CE X.stack X.prog X.w H s Q u s'):EP X pins σ Q u s':=by
 obtain⟨v,H',os,bare,un,hok,r,q⟩:=h
 obtain⟨hh,g,d,t,os'⟩:=s'
 obtain rfl:os'=s.os:=os
 exact⟨v,H',I.call (h':=hh) (g':=g) (d':=d) (t':=t) (ch:=[]) un hok bare (λb z=>absurd z (by simp)),r,q⟩
end
noncomputable def QpH(sp:Sp)(dvs:List V)(E:XK)(t:TA):TE:=λσ H Q=>t σ H λvs H1=>sp (vs++dvs) H1 Q E
def Binds(K:PySem.W.Frag)(fd:FuncData)(ps:List Str)(ds:List Value):Prop:=
 ∀(s:Shared) (us:List Value),K.In s.heap->(us++ds).length=ps.length->BindsTo s fd ⟨us,[]⟩ (ps.zip (us++ds))
theorem Binds.all{K:PySem.W.Frag}{fd:FuncData}{ps:List Str}(h:∀us:List Value,us.length=ps.length->bindArgs fd ⟨us,[]⟩=pure (ps.zip us)):Binds K fd ps []:=λs us _ hl=>by
 rw[Zbv]at hl ⊢
 exact .of_eq (h us hl)
def Qj7(CX:CXT)(X:Cx)(E:XK):Prop:=∀(pins:List (Addr×Obj)) (σ:St) (H:Hp) (s:Shared) (e:Value) (s':Shared),Inv X pins σ H s->CX X.stack H s E e s'->X.xe e s'
section
variable {X:Cx}{CX:CXT}{k:Nat}{f C:Addr}{fd:FuncData}{ps:List Str}{sp:Sp}{dvs:List V}{ds:List Value}{E:XK}{x m:Str}{p pos apos:Pos}{e o:Expr}{es:List Expr}{ta:TE}{t:TA}
theorem Qp5{pins:List (Addr×Obj)}{σ:St}{H:Hp}{s:Shared}{Q:VK}{us:List Value}{vs:List V}(F:Qby X.prog X.w X.K X.mg X.base CX k f fd ps sp)(hr:QaE k X.A)(hb:Binds X.K fd ps ds)(hd:QD dvs ds)(hx:Qj7 CX X E)
  (I:Inv X pins σ H s) (r:QD vs us) (h:sp (vs++dvs) H Q E):wpAny (model X.prog X.w) X.A (call (.ref f) us) (EP X pins σ Q) X.xe s:=by
 have r2:QD (vs++dvs) (us++ds):=r.append hd
 have hl:(us++ds).length=ps.length:=by rw[← r2.length];exact F.len _ _ _ _ h
 refine wpAny_call (codeAny_mono (F.run X.A X.stack s H ⟨us,[]⟩ (us++ds) (vs++dvs) Q E hr I.Qzh (hb s us I.kIn hl) r2 h) λr s' hq=>?_)
 cases r with
 | error e=>exact hx pins σ H s e s' I hq
 | ok fl=>
  cases fl with
  | ret u=>exact I.after hq
  | next=>exact False.elim hq
  | brk=>exact False.elim hq
  | cont=>exact False.elim hq
theorem QuH(F:Qby X.prog X.w X.K X.mg X.base CX k f fd ps sp)(hr:QaE k X.A)(hg:Gl X x)(hm:X.mg x=some (.ref f))(hk:PySem.W.keepIn X.K (.ref f)=true)(hb:Binds X.K fd ps ds)(hd:QD dvs ds)(hx:Qj7 CX X E)
  (ha:PA X (e::es) t) (hdb:(x == ("__debug__" :Str))=false:=by decide) (he:starEach (e::es) X.env=(false,eval e X.env)::starEach es X.env:=by rfl) (hpl:(backTo pos (starEach es X.env)).any (·.1)=false:=by rfl):
  PE X (.Call (.Name x p) (e::es) [] pos) (QpH sp dvs E t):=by
 intro pins s σ H Q I h
 refine wpAny_Call_Name_kw (Qkg I hg hm ?_ hdb)
 refine PySem.W.callWith_K (h₀:=X.base) I.ok.mod.kin hk (thn (ha pos pins s σ H _ I h) λus s1 ⟨vs,H1,I1,r,q⟩=>⟨I1.kIn,?_⟩) he hpl
 exact Qp5 F hr hb hd hx I1 r q
theorem Qs4(F:Qby X.prog X.w X.K X.mg X.base CX k f fd ps sp)(hr:QaE k X.A)(hg:Gl X x)(hm:X.mg x=some (.ref f))(hk:PySem.W.keepIn X.K (.ref f)=true)(hb:Binds X.K fd ps ds)(hd:QD dvs ds)(hx:Qj7 CX X E)
  (hdb:(x == ("__debug__" :Str))=false:=by decide):PE X (.Call (.Name x p) [] [] pos) (QpH sp dvs E Qnq):=by
 intro pins s σ H Q I h
 refine wpAny_Call_Name_kw (Qkg I hg hm ?_ hdb)
 exact PySem.W.callWith_K0 I.kIn hk (Qp5 (us:=[]) F hr hb hd hx I .nil h)
structure Mk (K:PySem.W.Frag) (C f:Addr):Prop where
 makes:PySem.W.makesIn K C=true
 init:PySem.W.findIn K (.ref C) "__init__" =some (some (.ref f))
 fn:PySem.W.isFn K (.ref f)=true
 kp:PySem.W.keepIn K (.ref C)=true
end
section
variable {X:Cx}{CX:CXT}{k:Nat}{f C:Addr}{fd:FuncData}{ps ks:List Str}{sp:Sp}{E:XK}{x m:Str}{p pos apos kpos:Pos}{e o:Expr}{es:List Expr}{kws:List Keyword}{te ta:TE}{t tk:TA}{nm:Option Str}
structure Qzn (K:PySem.W.Frag) (fd:FuncData) (ps ks:List Str) (g:List Value->List Value->List Value) (gV:List V->List V->List V):Prop where
 to:∀(s:Shared) (us ws:List Value),K.In s.heap->(g us ws).length=ps.length->BindsTo s fd ⟨us,ks.zip ws⟩ (ps.zip (g us ws))
 rel:∀{vs:List V}{us:List Value}{zs:List V}{ws:List Value},QD vs us->QD zs ws->QD (gV vs zs) (g us ws)
variable {g:List Value->List Value->List Value}{gV:List V->List V->List V}
end
structure Qc8 (N P:List Str) (sc:Scope):Prop where
 kind:sc.kind= .function
 co:sc.isCoroutine=false
 gen:sc.isGenerator=false
 nd:N.Nodup
 pre:N.take P.length=P
 par:∀x∈P,sc.names.lookup x=some .local ∨sc.names.lookup x=some .cell
 nofree:∀y∈sc.names,y.2≠ .free
theorem Qlx{kindOf:Str->Option NameKind}{x:Str}:∀{binds:List (Str×Value)}{m:Str->Option Value},(∀v,(x,v)∉binds)->bindL kindOf binds m x=m x
 | [],_,_=>rfl
 | (n,v)::r,m,h=>by
  unfold bindL
  rw[Qlx λw hw=>h w (Zg _ hw)]
  split
  ·have:x≠n:=by rintro rfl;exact h v Zq
   simp[this]
  ·rfl
theorem Qlf{kindOf:Str->Option NameKind}{x:Str}:∀{binds:List (Str×Value)}{m:Str->Option Value},(∀v,(x,v)∉binds)->bindC kindOf binds m x=m x
 | [],_,_=>rfl
 | (n,v)::r,m,h=>by
  unfold bindC
  rw[Qlf λw hw=>h w (Zg _ hw)]
  split
  ·rfl
  ·have:x≠n:=by rintro rfl;exact h v Zq
   simp[this]
theorem QlB{kindOf:Str->Option NameKind}{x:Str}{v:Value}:∀{P:List Str}{vs:List Value}{i:Nat}{m:Str->Option Value},P.Nodup->P[i]? =some x->vs[i]? =some v->kindOf x=some .local →
  bindL kindOf (P.zip vs) m x=some v
 | [],_,_,_,_,h,_,_=>by simp at h
 | _::_,[],_,_,_,_,h,_=>by simp at h
 | p::P,w::vs,0,m,nd,h1,h2,hk=>by
  simp at h1 h2;subst h1;subst h2
  show bindL kindOf ((p,w)::P.zip vs) m p=_
  unfold bindL
  rw[Qlx λv hv=>(Zan.mp nd).1 (ZbQ hv).1,if_pos hk]
  simp
 | p::P,w::vs,i+1,m,nd,h1,h2,hk=>by
  show bindL kindOf ((p,w)::P.zip vs) m x=_
  unfold bindL
  exact QlB (i:=i) (Zan.mp nd).2 (by simpa using h1) (by simpa using h2) hk
theorem Qly{kindOf:Str->Option NameKind}{x:Str}{v:Value}:∀{P:List Str}{vs:List Value}{i:Nat}{m:Str->Option Value},P.Nodup->P[i]? =some x->vs[i]? =some v->kindOf x≠some .local →
  bindC kindOf (P.zip vs) m x=some v
 | [],_,_,_,_,h,_,_=>by simp at h
 | _::_,[],_,_,_,_,h,_=>by simp at h
 | p::P,w::vs,0,m,nd,h1,h2,hk=>by
  simp at h1 h2;subst h1;subst h2
  show bindC kindOf ((p,w)::P.zip vs) m p=_
  unfold bindC
  rw[Qlf λv hv=>(Zan.mp nd).1 (ZbQ hv).1,if_neg hk]
  simp
 | p::P,w::vs,i+1,m,nd,h1,h2,hk=>by
  show bindC kindOf ((p,w)::P.zip vs) m x=_
  unfold bindC
  exact Qly (i:=i) (Zan.mp nd).2 (by simpa using h1) (by simpa using h2) hk
noncomputable def start(N:List Str)(vs:List V):St:=vs.map some++List.replicate (N.length-vs.length) none
noncomputable def Qhf(CX:CXT)(P:Program)(w:World)(K:PySem.W.Frag)(mg:Str->Option Value)(base:Heap)(N:List Str)(qual:Str)(scope:Scope)(f:Addr)(cd:Value)(A:Around)(outer:List Env)(s:Shared)(H:Hp)(E:XK):Cx where
 prog:=P
 w:=w
 K:=K
 mg:=mg
 base:=base
 A:=A.deeper (envOfC qual scope s.heap.objs.size f cd)
 N:=N
 s₀:=s
 H₀:=H
 env:=envOfC qual scope s.heap.objs.size f cd
 outer:=outer
 stack:=envOfC qual scope s.heap.objs.size f cd::outer
 ex:=[]
 calm:=decide (A.handled=none)
 fn:=λ_=>true
 pn:=[]
 xe:=λe s'=>wpAny (model P w) (A.deeper (envOfC qual scope s.heap.objs.size f cd)) (leaving (envOfC qual scope s.heap.objs.size f cd) e) (λ_ s''=>CX outer H s E e s'') (λe' s''=>CX outer H s E e' s'') s'
theorem Qnt{sc:Scope}{n:Nat}{x:Str}(h:sc.names.lookup x=some .cell):∃c,(cellsFrom n sc.names []).lookup x=some c:=by
 have q:=ZbK sc.names n [] (.inl h)
 exact ZbD.mp q
theorem QrJ{CX:CXT}{P:Program}{w:World}{K:PySem.W.Frag}{mg:Str->Option Value}{base:Heap}{N ps:List Str}{qual:Str}{scope:Scope}{f:Addr}{cd:Value}{A:Around}{outer:List Env}{s s1:Shared}{H:Hp}{E:XK}{us:List Value}{vs:List V}
  (S:Qc8 N ps scope) (e0:Qe5 P w K mg base A outer s H) (hl:vs.length=ps.length) (r:QD vs us)
  (x:InCallC s s.heap.objs.size (bindL (envOfC qual scope s.heap.objs.size f cd).kindOf (ps.zip us) λ_=>none) (cellsFrom (s.heap.objs.size+1) scope.names []) (bindC (envOfC qual scope s.heap.objs.size f cd).kindOf (ps.zip us) λ_=>none) s1):
  Inv (Qhf CX P w K mg base N qual scope f cd A outer s H E) [] (start N vs) H s1:=by
 have hpl:ps.length<=N.length:=by have:=congrArg List.length S.pre;rw[ZaY]at this;omega
 obtain⟨h1,tk,rfl,hk⟩:=x.done
 have noA:∀b:Addr,b∉(Qhf CX P w K mg base N qual scope f cd A outer s H E).ex:=λb z=>absurd (show b∈([]:List Addr)from z) (by simp)
 refine⟨⟨e0.mod,S.kind,rfl,rfl,Zi _,λy z c h1 h2=>?_,λy hy=>?_,λy c _ h=>?_,λh=>of_decide_eq_true h,Around.frames_deeper e0.frames,.inr ⟨rfl,rfl⟩,λb z=>absurd z (noA b),e0.bs,e0.bsz,λb _ _=>noA b,λb z=>absurd z (noA b),e0.QdD,e0.frf⟩,
  rfl,e0.bare,Un.kept hk,⟨_,x.toInCall.ns,λi y v h1 h2 h3=>?_⟩,λy c h=>⟨_,x.cell y c h⟩,e0.hok.fresh (Zi _),λy c h=>?_,λp hp=>absurd (show p∈([]:List (Addr×Obj))from hp) (by simp),e0.hok.kept hk,?_⟩
 ·exact name_of_addr x.apart (Zad h1) (Zad h2)
 ·have hy:scope.names.lookup y=some .cell∨scope.names.lookup y=some .free:=hy
  rcases hy with hy | hy
  ·exact Qnt hy
  ·exact absurd rfl (S.nofree _ (Zad hy))
 ·exact Zbk (x.above y c (Zad h))
 ·have hi:i<vs.length:=by
   unfold start at h2
   by_cases hi:i<vs.length
   ·exact hi
   ·rw[Zbz (by simpa using hi)]at h2
    rw[ZbE]at h2
    split at h2<;>cases h2
  have ha:vs[i]? =some v:=by
   unfold start at h2
   rw[Zau (by simpa using hi),Zl]at h2
   cases e:vs[i]? with
   | none=>rw[e]at h2;cases h2
   | some a=>rw[e]at h2;cases h2;rfl
  obtain⟨u,hu,rv⟩:=r.get ha
  have hp:ps[i]? =some y:=by
   rw[← S.pre,List.getElem?_take_of_lt (by omega)];exact h1
  have ndP:ps.Nodup:=by rw[← S.pre];exact S.nd.sublist (List.take_sublist _ _)
  refine⟨u,rv,?_⟩
  rcases S.par y (ZaG hp)with k | k
  ·exact .inl ⟨k,QlB ndP hp hu k⟩
  ·obtain⟨c,e⟩:=Qnt (n:=s.heap.objs.size+1) k
   refine .inr ⟨.inl k,c,e,?_⟩
   have q:=x.cell y c e
   rw[Qly ndP hp hu (by show scope.names.lookup y≠_;rw[k];decide)]at q
   exact q
 ·exact e0.hok.fresh (Zbk (x.above y c (Zad h)))
 ·unfold start
  show _=N.length
  rw[Zt,Zx,List.length_replicate]
  omega
theorem QxZ{CX:CXT}{P:Program}{w:World}{K:PySem.W.Frag}{mg:Str->Option Value}{base:Heap}{k:Nat}{f:Addr}{name qual:Str}{params:Arguments}{body:List Stmt}{scope:Scope}{dV kV doc pm cdv ct oc:Value}{an od:Option Addr}
  {osl:Array (Option Value)}{N ps:List Str}{sp:Sp}(lk:K.lookup f=some ⟨oc,od,.func (PySem.W.fnOf name qual params body scope dV kV doc pm an cdv ct),osl⟩) (hcd:PySem.W.codeIn K cdv qual=true) (S:Qc8 N ps scope)
  (len:∀vs H Q E,sp vs H Q E->vs.length=ps.length)
  (hbody:∀(A:Around) (outer:List Env) (s:Shared) (H:Hp) (vs:List V) (Q:VK) (E:XK),QaE k (A.deeper (envOfC qual scope s.heap.objs.size f cdv))->sp vs H Q E→
   ∃t,PSs (Qhf CX P w K mg base N qual scope f cdv A outer s H E) body t/\t {nx:=λ_ H'=>Q .non H',rt:=Q} (start N vs) H):
  Qby P w K mg base CX (k+1) f (PySem.W.fnOf name qual params body scope dV kV doc pm an cdv ct) ps sp:=by
 refine⟨len,λA outer s H args us vs Q E hr e0 hb r hsp=>?_⟩
 have hl:=len _ _ _ _ hsp
 have KX:K.In s.heap:=e0.mod.kin.keeps λb o e=>(e0.bs b o e).1
 have lim:s.heap.NoLimit:=e0.mod.nolimit.keeps λb o e=>(e0.bs b o e).1
 have hkind:∀y∈ps.zip us,scope.names.lookup y.1=some .local ∨(scope.names.lookup y.1=some .cell/\((cellsFrom (s.heap.objs.size+1) scope.names []).lookup y.1).isSome=true):=λ⟨n,v⟩ hy=>by
  rcases S.par n (ZbQ hy).1 with q | q
  ·exact .inl q
  ·exact .inr ⟨q,ZbK _ _ _ (.inl q)⟩
 refine codeAny_call_function hr.depth (KX _ _ lk) rfl S.co S.gen rfl (PySem.W.codeRec_of KX hcd) (hb _ _ _ _ ?_)
 refine wpAny_newFunctionEnv_cells S.kind hkind λenv he s1 x=>?_
 subst he
 refine⟨lim.keeps x.toInCall.keep,codeAny_func ?_⟩
 obtain⟨t,ht,hq⟩:=hbody A outer s H vs Q E (hr.deeper _) hsp
 have I:Inv (Qhf CX P w K mg base N qual scope f cdv A outer s H E) [] (start N vs) H s1:=QrJ S e0 hl r x
 refine wpAny_mono (ht [] s1 (start N vs) H _ I hq) (λfl s' hs=>?_) λe s' hs=>hs
 have fin:∀{σ':St}{H':Hp}{v:V}{u:Value},Inv (Qhf CX P w K mg base N qual scope f cdv A outer s H E) [] σ' H' s'->RelV v u->Q v H'->CE outer P w H s Q u s':=
  λ{σ' H' v u} J rv q=>⟨v,H',J.os,J.bare,J.base,J.hok,rv,q⟩
 cases fl with
 | ret u=>
  obtain⟨v,σ',H',J,rv,q⟩:=hs
  exact fin J rv q
 | next=>
  obtain⟨σ',H',J,q⟩:=hs
  exact fin (v:=V.non) (u:=Value.none) J rfl q
 | brk=>
  obtain⟨_,_,_,q⟩:=hs
  exact False.elim q
 | cont=>
  obtain⟨_,_,_,q⟩:=hs
  exact False.elim q
end L2
namespace L2
open PySem PySem.Spec PyProof.Rows
section
variable {X:Cx}{x:Str}{p pos:Pos}{e:Expr}{es:List Expr}{t:TA}{id T:String}{r:List V->Hp->VK->Prop}
noncomputable def tCB(r:List V->Hp->VK->Prop)(t:TA):TE:=λσ H Q=>t σ H λvs H1=>r vs H1 Q
theorem Qi3(hc:Qbv X (.builtin id) r)(hg:Gl X x)(hm:X.mg x=none)(hv:bootBuiltins x=some (.builtin id))(ha:PA X (e::es) t)(hn:x≠ "__name__" :=by decide)(hdb:(x == ("__debug__" :Str))=false:=by decide)
  (he:starEach (e::es) X.env=(false,eval e X.env)::starEach es X.env:=by rfl) (hpl:(backTo pos (starEach es X.env)).any (·.1)=false:=by rfl):PE X (.Call (.Name x p) (e::es) [] pos) (tCB r t):=by
 intro pins s σ H Q I h
 refine wpAny_Call_Name_kw (Qdq I hg hm hv ?_ hn hdb)
 exact PyProof.Rows.callWith_builtin1 (thn (ha pos pins s σ H _ I h) λus s1 ⟨vs,H1,I1,r1,q1⟩=>hc pins s1 σ H1 vs us Q I1 r1 q1) he hpl
theorem QfA(hc:Qbv X (.type T) r)(hg:Gl X x)(hm:X.mg x=none)(hv:bootBuiltins x=some (.type T))(ha:PA X (e::es) t)(hn:x≠ "__name__" :=by decide)(hdb:(x == ("__debug__" :Str))=false:=by decide)
  (he:starEach (e::es) X.env=(false,eval e X.env)::starEach es X.env:=by rfl) (hpl:(backTo pos (starEach es X.env)).any (·.1)=false:=by rfl):PE X (.Call (.Name x p) (e::es) [] pos) (tCB r t):=by
 intro pins s σ H Q I h
 refine wpAny_Call_Name_kw (Qdq I hg hm hv ?_ hn hdb)
 exact ZR (thn (ha pos pins s σ H _ I h) λus s1 ⟨vs,H1,I1,r1,q1⟩=>hc pins s1 σ H1 vs us Q I1 r1 q1) he hpl
end
end L2
namespace HT
open PySem PyProof.Rows
section
open PySem.SeqAt
open PySem.AutoSeq1 (wpAny_loadPart')
open PySem.MeetsSeq PySem.MeetsSeq2 PySem.MeetsSeq3
end
section
variable {prog:Program}{w:World}{A:Around}{E:Value->Shared->Prop}{s:Shared}
noncomputable def sIx(n d:Nat):Option Int->Nat
 | none=>d
 | some v=>if v<0 then(v+(n:Int)).toNat else min v.toNat n
theorem Qji(n d:Nat):sIx n d none=d:=rfl
theorem QhN(n d k:Nat):sIx n d (some (k:Int))=min k n:=by
 show(if(k:Int)<0 then((k:Int)+(n:Int)).toNat else min (k:Int).toNat n)=min k n
 rw[if_neg (by omega),ZC]
end
end HT
namespace L2
open PySem PySem.Spec PyProof.Rows
noncomputable abbrev TO:=St->Hp->(Option Int->Hp->Prop)->Prop
def PO(X:Cx)(e:Option Expr)(t:TO):Prop:=
 ∀(pins:List (Addr×Obj)) (s:Shared) (σ:St) (H:Hp) (Q:Option Int->Hp->Prop),Inv X pins σ H s->t σ H Q→
  wpAny (model X.prog X.w) X.A (evalPart e X.env) (λu s'=>∃o H',Inv X pins σ H' s'/\IsPart u o/\Q o H') X.xe s
noncomputable def QuK:TO:=λ_ H Q=>Q none H
noncomputable def Qx9(t:TE):TO:=λσ H Q=>t σ H λx H1=>∃i,x= .int i/\Q (some i) H1
theorem intsAre_of{ns:List Int}:∀{us:List Value},QD (ns.map V.int) us->IntsAre us ns:=by
 induction ns with
 | nil=>intro us r;rw[List.map_nil]at r;cases r;exact .nil
 | cons n ns ih=>
  intro us r
  rw[ZL]at r
  cases r with
  | cons r1 r2=>
   obtain⟨t,e⟩:=r1
   subst e
   exact .cons n t (ih r2)
section
variable {X:Cx}{e:Expr}{te:TE}{lo hi:Option Expr}{tl th:TO}{pos p2:Pos}
theorem Quz:PO X none QuK:=by
 intro pins s σ H Q I h
 rw[evalPart_none]
 exact wpAny_pure ⟨none,H,I,.none,h⟩
theorem QuA(h:PE X e te):PO X (some e) (Qx9 te):=by
 intro pins s σ H Q I hw
 rw[evalPart_some]
 refine thn (h pins s σ H _ I hw) λu s1 ⟨x,H1,I1,r1,q1⟩=>?_
 obtain⟨i,rfl,q⟩:=q1
 obtain⟨t,rfl⟩:=r1
 exact⟨some i,H1,I1,.int i t,q⟩
def SlR(X:Cx)(r:V->Option Int->Option Int->Hp->VK->Prop):Prop:=
 ∀(pins:List (Addr×Obj)) (s:Shared) (σ:St) (H:Hp) (x:V) (v vl vu:Value) (lo hi:Option Int) (sl:Addr) (Q:VK),Inv X pins σ H s->RelV x v->s.heap.IsSliceOf sl vl vu .none->IsPart vl lo->IsPart vu hi->r x lo hi H Q→
  ∃T id,typeLookup (.type T) "__getitem__" =pure (some (.builtin id))/\s.TypeIs v T/\wpAny (model X.prog X.w) X.A (getItem v (.ref sl)) (EP X pins σ Q) X.xe s
theorem SlR.or{r r':V->Option Int->Option Int->Hp->VK->Prop}(h:SlR X r)(h':SlR X r'):SlR X (λx lo hi H Q=>r x lo hi H Q∨r' x lo hi H Q):=by
 intro pins s σ H x v vl vu lo hi sl Q I rx hs pl pu q
 rcases q with q | q
 ·exact h pins s σ H x v vl vu lo hi sl Q I rx hs pl pu q
 ·exact h' pins s σ H x v vl vu lo hi sl Q I rx hs pl pu q
noncomputable def tSl(r:V->Option Int->Option Int->Hp->VK->Prop)(te:TE)(tl th:TO):TE:=λσ H Q=>te σ H λx H1=>tl σ H1 λl H2=>th σ H2 λu H3=>r x l u H3 Q
theorem Qtl{r:V->Option Int->Option Int->Hp->VK->Prop}(hr:SlR X r)(he:PE X e te)(hl:PO X lo tl)(hu:PO X hi th):PE X (.Subscript e (.Slice lo hi none p2) pos) (tSl r te tl th):=by
 intro pins s σ H Q I h
 refine Subscript_ (thn (he pins s σ H _ I h) λv s1 ⟨x,H1,I1,r1,q1⟩=>?_)
 refine wpAny_Slice (thn (hl pins s1 σ H1 _ I1 q1) λvl s2 ⟨l,H2,I2,pl,q2⟩=>thn (hu pins s2 σ H2 _ I2 q2) λvu s3 ⟨u,H3,I3,pu,q3⟩=>?_)
 rw[evalPart_none]
 refine wpAny_pure ?_
 have I4:Inv X pins σ H3 {s3 with heap:=s3.heap.push {cls:= .type "slice",data:= .fields #[vl,vu,.none]}}:=I3.kept (t':=s3.toks) λb ob q=>Zn _ q
 obtain⟨T,id,hT,ht,hg⟩:=hr pins {s3 with heap:=s3.heap.push {cls:= .type "slice",data:= .fields #[vl,vu,.none]}} σ H3 x v vl vu l u s3.heap.objs.size Q I4 r1 (Heap.IsSliceOf.new ..) pl pu q3
 show wpAny (model X.prog X.w) X.A (subscriptTail e (.Slice lo hi none p2) v (.ref s3.heap.objs.size)) (EP X pins σ Q) X.xe {s3 with heap:=s3.heap.push {cls:= .type "slice",data:= .fields #[vl,vu,.none]}}
 exact tail_any (ops:=[.ref s3.heap.objs.size,v]) ht hT hg (by with_unfolding_all rfl)
noncomputable def Qk7(xs:List V)(lo hi:Option Int):List V:=(xs.drop (HT.sIx xs.length 0 lo)).take (HT.sIx xs.length xs.length hi-HT.sIx xs.length 0 lo)
theorem Qok(xs:List V)(lo hi:Option Int):(Qk7 xs lo hi).length<=xs.length:=by
 unfold Qk7
 rw[ZaY,List.length_drop]
 omega
end
end L2
namespace L2
open PySem PySem.Spec PyProof.Rows
noncomputable def ixN(n:Nat)(i:Int):Option Nat:=if 0<=i then(if i<n then some i.toNat else none)else if-(n:Int)<=i then some (i+n).toNat else none
noncomputable def atI{α:Type}(xs:List α)(i:Int):Option α:=(ixN xs.length i).bind λj=>xs[j]?
theorem Qb6{n:Nat}{i:Int}{j:Nat}(h:ixN n i=some j):seqIndex? i n=some j/\j<n/\ -(n:Int)<=i/\i<n:=by
 unfold ixN at h
 by_cases h0:0<=i
 ·rw[if_pos h0]at h
  by_cases h1:i<n
  ·rw[if_pos h1]at h
   have e:i.toNat=j:=Option.some.inj h
   exact⟨by rw[seqIndex_of h0 h1,e],by omega,by omega,h1⟩
  ·rw[if_neg h1]at h;cases h
 ·rw[if_neg h0]at h
  by_cases h1: -(n:Int)<=i
  ·rw[if_pos h1]at h
   have e:(i+n).toNat=j:=Option.some.inj h
   exact⟨by rw[seqIndex_neg (by omega) h1,e],by omega,h1,by omega⟩
  ·rw[if_neg h1]at h;cases h
theorem QoC{α:Type}{xs:List α}{i:Int}{v:α}(h:atI xs i=some v):∃j,seqIndex? i xs.length=some j/\xs[j]? =some v/\j<xs.length/\ -(xs.length:Int)<=i/\i<xs.length:=by
 unfold atI at h
 cases e:ixN xs.length i with
 | none=>rw[e]at h;cases h
 | some j=>
  rw[e]at h
  obtain⟨h1,h2,h3,h4⟩:=Qb6 e
  exact⟨j,h1,h,h2,h3,h4⟩
def QhL(b:Expr):Prop:=∀o i,subscripted b false o i=operate [o,i] (getItem o i)
def IxR(X:Cx)(r:R2):Prop:=
 ∀(value slice:Expr) (pins:List (Addr×Obj)) (s:Shared) (σ:St) (H:Hp) (x y:V) (v u:Value) (Q:VK),Inv X pins σ H s->RelV x v->RelV y u->r x y H Q→
  subscripted slice false v u=operate [v,u] (getItem v u)->wpAny (model X.prog X.w) X.A (subscriptTail value slice v u) (EP X pins σ Q) X.xe s
def MtR(X:Cx)(id:String)(r:V->List V->Hp->VK->Prop):Prop:=
 ∀(pins:List (Addr×Obj)) (s:Shared) (σ:St) (H:Hp) (x:V) (xs:List V) (v:Value) (us:List Value) (Q:VK),Inv X pins σ H s->RelV x v->QD xs us->r x xs H Q→
  wpAny (model X.prog X.w) X.A (call (.builtin id) (v::us)) (EP X pins σ Q) X.xe s
section
variable {X:Cx}{a b:Expr}{ta tb:TE}{pos:Pos}
theorem IxR.or{r r':R2}(h:IxR X r)(h':IxR X r'):IxR X (λx y H Q=>r x y H Q∨r' x y H Q):=by
 intro value slice pins s σ H x y v u Q I rx ry q hs
 rcases q with q | q
 ·exact h value slice pins s σ H x y v u Q I rx ry q hs
 ·exact h' value slice pins s σ H x y v u Q I rx ry q hs
theorem MtR.or{id:String}{r r':V->List V->Hp->VK->Prop}(h:MtR X id r)(h':MtR X id r'):MtR X id (λx xs H Q=>r x xs H Q∨r' x xs H Q):=by
 intro pins s σ H x xs v us Q I rx rs q
 rcases q with q | q
 ·exact h pins s σ H x xs v us Q I rx rs q
 ·exact h' pins s σ H x xs v us Q I rx rs q
theorem Qj6{r:R2}(hr:IxR X r)(ha:PE X a ta)(hb:PE X b tb)(hs:QhL b):PE X (.Subscript a b pos) (tOp r ta tb):=by
 intro pins s σ H Q I h
 exact Subscript_ (QrU ha hb I h λv u s2 x y H2 I2 rx ry q=>hr a b pins s2 σ H2 x y v u Q I2 rx ry q (hs _ _))
noncomputable def QyP(K:PySem.W.Frag):R2:=λx y H Q=>∃p xs i v,x= .ref p/\y= .int i/\SqL K H p xs/\atI xs i=some v/\Q v H
noncomputable def QpR(K:PySem.W.Frag):R2:=λx y H Q=>∃p xs i v,x= .ref p/\y= .int i/\SqT K H p xs/\atI xs i=some v/\Q v H
theorem QoW:IxR X (QyP X.K):=by
 intro value slice pins s σ H x y v u Q I rx ry h hs
 obtain⟨p,xs,i,z,rfl,rfl,hq,he,q⟩:=h
 cases rx
 obtain⟨t,rfl⟩:=ry
 obtain⟨its,r,pl,hz⟩:=I.list hq
 obtain⟨j,h1,h2,h3,h4,h5⟩:=QoC he
 obtain⟨w,ew,rw'⟩:=r.get h2
 have hl:=r.length
 have hn:=Qg6
 have fin:EP X pins σ Q w s:=⟨z,H,I,rw',q⟩
 by_cases h0:0<=i
 ·have hj:i.toNat=j:=by
   rw[seqIndex_of h0 h5]at h1
   exact Option.some.inj h1
  exact item_listR pl.isList h0 (by omega) (by rw[hj];simpa using ew) fin hs
 ·have hj:(i+(its.toArray.size:Int)).toNat=j:=by
   rw[seqIndex_neg (by omega) h4]at h1
   rw[Zw,← hl]
   exact Option.some.inj h1
  exact subscriptTail_builtinR (x:=w) pl.isList.typeIs slot_list_getitem.lookup
   (wpAny_getItem_list_neg (Q:=λr s'=>r=w/\EP X pins σ Q r s') pl.isList (by omega) (by rw[Zw]<;>omega) (by omega) (by rw[hj];simpa using ew) ⟨rfl,fin⟩) hs
theorem QhH:IxR X (QpR X.K):=by
 intro value slice pins s σ H x y v u Q I rx ry h hs
 obtain⟨p,xs,i,z,rfl,rfl,hq,he,q⟩:=h
 cases rx
 obtain⟨t,rfl⟩:=ry
 obtain⟨its,r,pl,hz⟩:=I.tuple hq
 obtain⟨j,h1,h2,h3,h4,h5⟩:=QoC he
 obtain⟨w,ew,rw'⟩:=r.get h2
 have hl:=r.length
 have hn:=Qg6
 have fin:EP X pins σ Q w s:=⟨z,H,I,rw',q⟩
 exact subscriptTail_builtinR (x:=w) pl.typeIs slot_tuple_getitem.lookup
  (getItem_tuple (j:=j) (Q:=λr s'=>r=w/\EP X pins σ Q r s') pl (by omega) (by omega) (by rw[Zw,← hl];exact h1) (by simpa using ew) ⟨rfl,fin⟩) hs
theorem QpC(its:List Value)(n j:Nat)(u:Value):Obj.mapSeq (·.setIfInBounds j u) {cls:= .type "list",data:= .seq its.toArray n}={cls:= .type "list",data:= .seq (its.set j u).toArray n}:=by
 simp[Obj.mapSeq]
theorem Inv.lst{pins:List (Addr×Obj)}{σ:St}{H:Hp}{s:Shared}{p:Addr}{xs:List V}(I:Inv X pins σ H s)(h:H p=some (.lst xs)):
  ∃(its:List Value) (n:Nat),QD xs its/\s.heap.get? p=some {cls:= .type "list",data:= .seq its.toArray n}/\xs.length<=sizeLine:=by
 obtain⟨z,its,n,r,e⟩:=I.hok p _ h
 exact⟨its,n,r,e,z⟩
theorem Inv.Qwx{pins:List (Addr×Obj)}{σ:St}{H:Hp}{s:Shared}{p:Addr}{xs ys:List V}{its its':List Value}{n n':Nat}{f:Obj->Obj}(I:Inv X pins σ H s)(h:H p=some (.lst xs))
  (ho:s.heap.get? p=some {cls:= .type "list",data:= .seq its.toArray n}) (hf:f {cls:= .type "list",data:= .seq its.toArray n}={cls:= .type "list",data:= .seq its'.toArray n'}) (r:QD ys its') (hz:ys.length<=sizeLine) (t:Nat):
  Inv X pins σ (upd H p (.lst ys)) {s with heap:=s.heap.update p f,toks:=t}:=by
 have e:(s.heap.update p f).get? p=some {cls:= .type "list",data:= .seq its'.toArray n'}:=by
  rw[Heap.get?_update_self f ho (by rw[hf]<;>rfl),hf]
 refine I.write (x:=p) (e:=p) (by rw[h];trivial) (.inl rfl) (λb u hb q=>(Heap.get?_update_other _ _ (Ne.symm hb)).trans q) ⟨_,e⟩ ?_
 exact⟨hz,its',n',r,e⟩
noncomputable def QeO:V->V->V->Hp->(Hp->Prop)->Prop:=λo i v H Q=>∃p xs k j,o= .ref p/\i= .int k/\H p=some (.lst xs)/\ixN xs.length k=some j/\Q (upd H p (.lst (xs.set j v)))
theorem set_list:Qw5 X QeO:=by
 intro pins s σ H o i v ov iv u Q I ro ri rv h
 obtain⟨p,xs,k,j,rfl,rfl,hp,hj,q⟩:=h
 cases ro
 obtain⟨t,rfl⟩:=ri
 obtain⟨its,n,r,ho,hz⟩:=I.lst hp
 obtain⟨h1,h2,h3,h4⟩:=Qb6 hj
 have hl:=r.length
 have hn:=Qg6
 have I':Inv X pins σ (upd H p (.lst (xs.set j v))) {s with heap:=s.heap.update p (Obj.mapSeq (·.setIfInBounds j u))}:=
  I.Qwx hp ho (QpC its n j u) (r.set rv j) (by rw[Zz];exact hz) s.toks
 by_cases h0:0<=k
 ·have hk:k.toNat=j:=by
   rw[seqIndex_of h0 h4]at h1
   exact Option.some.inj h1
  exact PySem.W.ki_setAt ho h0 (by omega) (by rw[Zw,← hl];exact h4) (by rw[hk];exact⟨_,I',q⟩)
 ·have hk:(k+(its.toArray.size:Int)).toNat=j:=by
   rw[seqIndex_neg (by omega) h3]at h1
   rw[Zw,← hl]
   exact Option.some.inj h1
  exact PySem.W.ki_setBack ho (by omega) (by rw[Zw,← hl];exact h3) (by omega) (by rw[hk];exact⟨_,I',q⟩)
theorem QnD(lo hi:Option Int)(n:Nat):(sliceBounds lo hi none n).1=((HT.sIx n 0 lo:Nat):Int)/\(sliceBounds lo hi none n).2.1=((HT.sIx n n hi:Nat):Int)/\(sliceBounds lo hi none n).2.2=1:=by
 refine⟨?_,?_,rfl⟩
 ·cases lo with
  | none=>simp[sliceBounds,HT.sIx]
  | some i=>
   simp only[sliceBounds,HT.sIx,Option.getD_none,show(1:Int)>0 by decide,if_true]
   by_cases h:i<0
   ·simp only[h,if_true]<;>omega
   ·simp only[h,if_false]<;>omega
 ·cases hi with
  | none=>simp[sliceBounds,HT.sIx]
  | some i=>
   simp only[sliceBounds,HT.sIx,Option.getD_none,show(1:Int)>0 by decide,if_true]
   by_cases h:i<0
   ·simp only[h,if_true]<;>omega
   ·simp only[h,if_false]<;>omega
theorem QlN(its:List Value)(lo hi:Option Int):slicePick its.toArray lo hi none=((its.drop (HT.sIx its.length 0 lo)).take (HT.sIx its.length its.length hi-HT.sIx its.length 0 lo)).toArray:=by
 obtain⟨h1,h2,h3⟩:=QnD lo hi its.toArray.size
 unfold slicePick
 rw[h1,h2,h3]
 simp only[sliceRange_one,pick_run,Zw]<;>rfl
noncomputable def QyT(K:PySem.W.Frag):V->Option Int->Option Int->Hp->VK->Prop:=λx lo hi H Q=>∃a xs,x= .ref a/\SqL K H a xs/\∀p,H p=none->Q (.ref p) (upd H p (.lst (Qk7 xs lo hi)))
theorem QuW:SlR X (QyT X.K):=by
 intro pins s σ H x v vl vu lo hi sl Q I rx hs pl pu h
 obtain⟨a,xs,rfl,hx,q⟩:=h
 cases rx
 obtain⟨its,r,ht,hz⟩:=I.list hx
 have hlen:=r.length
 refine⟨"list",_,slot_list_getitem.lookup,ht.isList.typeIs,?_⟩
 refine wpAny_getItem_list_slice ht.isList hs pl pu .none (by simp) ?_ (by rw[Zw]<;>omega)
 rw[QlN,← hlen]
 refine⟨.ref s.heap.objs.size,_,I.laid (t':=s.toks) (o:= .lst (Qk7 xs lo hi)) (λb ob q=>Zn _ q) (Zi _) ?_,rfl,q _ (I.hok.fresh (Zi _))⟩
 exact⟨Zk (Qok xs lo hi) hz,_,0,(r.drop (HT.sIx xs.length 0 lo)).take (HT.sIx xs.length xs.length hi-HT.sIx xs.length 0 lo),ZN _ rfl⟩
theorem Qni:Qbv X (.builtin "len") (λxs H Q=>∃p ys,xs=[.ref p]/\(SqL X.K H p ys∨SqT X.K H p ys)/\Q (.int ys.length) H):=by
 intro pins s σ H xs us Q I r h
 obtain⟨p,ys,rfl,hq,q⟩:=h
 obtain⟨u,rfl,rx⟩:=vals1 r
 cases rx
 have hn:=Qg6
 rcases hq with hq | hq
 ·obtain⟨its,r',pl,hz⟩:=I.list hq
  have hlen:=r'.length
  exact Calls.call_len_list pl.isList (by simp only[Zw]<;>omega) ⟨.int ys.length,H,I.tok _,⟨s.toks+1,by rw[Zw,hlen]⟩,q⟩
 ·obtain⟨its,r',pl,hz⟩:=I.tuple hq
  have hlen:=r'.length
  exact len_tuple pl (by simp only[Zw]<;>omega) ⟨.int ys.length,H,I.tok _,⟨s.toks+1,by rw[Zw,hlen]⟩,q⟩
theorem Qbv.or{f:Value}{r r':List V->Hp->VK->Prop}(h:Qbv X f r)(h':Qbv X f r'):Qbv X f (λxs H Q=>r xs H Q∨r' xs H Q):=by
 intro pins s σ H xs us Q I rs q
 rcases q with q | q
 ·exact h pins s σ H xs us Q I rs q
 ·exact h' pins s σ H xs us Q I rs q
theorem Qg5:Qbv X (.type "list") (λxs H Q=>∃p ys,xs=[.ref p]/\(SqL X.K H p ys∨SqT X.K H p ys)/\∀l,H l=none->Q (.ref l) (upd H l (.lst ys))):=by
 intro pins s σ H xs us Q I r h
 obtain⟨p,ys,rfl,hq,q⟩:=h
 obtain⟨u,rfl,rx⟩:=vals1 r
 cases rx
 have fin:∀(its:List Value),QD ys its->ys.length<=sizeLine->∀(h':Heap) (c':Nat),(∀b o',s.heap.get? b=some o'->h'.get? b=some o')→
   h'.get? s.heap.objs.size=some {cls:= .type "list",dict:=none,data:= .seq its.toArray c',slots:= #[]}->EP X pins σ Q (.ref s.heap.objs.size) {s with heap:=h'}:=λits r' hz h' c' kp e=>
  ⟨.ref s.heap.objs.size,_,I.laid (t':=s.toks) kp (Zi _) (show Qcr X.prog X.w _ h' _ (.lst ys)from⟨hz,its,c',r',e⟩),rfl,q _ (I.hok.fresh (Zi _))⟩
 rcases hq with hq | hq
 ·obtain⟨its,r',pl,hz⟩:=I.list hq
  have hlen:=r'.length
  obtain⟨o,ho,hc,n,hd⟩:=pl.isList
  exact call_list_seq p (.inl rfl) ho hc hd (λh' c' kp e=>fin its r' hz h' c' kp e) (by simp only[Zw]<;>omega)
 ·obtain⟨its,r',pl,hz⟩:=I.tuple hq
  have hlen:=r'.length
  obtain⟨o,ho,hc,n,hd⟩:=pl
  exact call_list_seq p (.inr rfl) ho hc hd (λh' c' kp e=>fin its r' hz h' c' kp e) (by simp only[Zw]<;>omega)
theorem QlY:Qbv X (.type "tuple") (λxs H Q=>∃p ys,xs=[.ref p]/\((SqL X.K H p ys/\∀l,H l=none->Q (.ref l) (upd H l (.tup ys)))∨(SqT X.K H p ys/\Q (.ref p) H))):=by
 intro pins s σ H xs us Q I r h
 obtain⟨p,ys,rfl,h⟩:=h
 obtain⟨u,rfl,rx⟩:=vals1 r
 cases rx
 rcases h with⟨hq,q⟩ | ⟨hq,q⟩
 ·obtain⟨its,r',pl,hz⟩:=I.list hq
  have hlen:=r'.length
  refine call_tuple_list pl.isList (λh' kp=>?_) (by simp only[Zw]<;>omega)
  have I1:Inv X pins σ H {s with heap:=h'}:=I.kept (t':=s.toks) kp
  have I2:Inv X pins σ (upd H h'.objs.size (.tup ys)) {s with heap:=h'.push {cls:= .type "tuple",data:= .seq its.toArray}}:=
   I1.laid (t':=s.toks) (λb o e=>Zn _ e) (Zi _) (show Qcr X.prog X.w _ _ _ (.tup ys)from⟨hz,its,r',IsTup.new _ _⟩)
  exact⟨.ref h'.objs.size,_,I2,rfl,q _ (I1.hok.fresh (Zi _))⟩
 ·obtain⟨its,r',pl,hz⟩:=I.tuple hq
  exact call_tuple_same pl ⟨.ref p,H,I,rfl,q⟩
def tyV(K:PySem.W.Frag)(T:String)(x:V)(H:Hp):Prop:=match x with
 | .str _=>T= "str"
 | .int _=>T= "int"
 | .ref p=>(T= "list" /\∃xs,SqL K H p xs)∨(T= "tuple" /\∃o,K.lookup p=some o/\o.cls= .type "tuple" /\o.dict=none)∨
   (T= "dict" /\((∃kvs,H p=some (.dK kvs))∨∃kvs,H p=some (.dT kvs)))∨(T= "set" /\∃S n,H p=some (.set S n))
 | _=>False
theorem Qri{pins:List (Addr×Obj)}{σ:St}{H:Hp}{s:Shared}{T:String}{x:V}{v:Value}(I:Inv X pins σ H s)(r:RelV x v)(ty:tyV X.K T x H):
  s.TypeIs v T/\∀a,v= .ref a->∃ob,s.heap.get? a=some ob/\ob.dict=none:=by
 cases x with
 | str z=>
  obtain⟨t,rfl⟩:=r
  cases(show T= "str" from ty)
  exact⟨typeIs_str s z t,λ_ e=>nomatch e⟩
 | int i=>
  obtain⟨t,rfl⟩:=r
  cases(show T= "int" from ty)
  exact⟨typeIs_int s i t,λ_ e=>nomatch e⟩
 | ref p=>
  cases r
  rcases ty with⟨rfl,xs,hq⟩ | ⟨rfl,o,hk,hc,hd⟩ | ⟨rfl,hk⟩ | ⟨rfl,S,n,hk⟩
  ·obtain⟨its,_,pl,_⟩:=I.list hq
   refine⟨pl.isList.typeIs,λa e=>?_⟩
   cases e
   obtain⟨o,n,e,c,hd,_⟩:=pl
   exact⟨o,e,hd⟩
  ·refine⟨⟨o,I.kIn p o hk,hc⟩,λa e=>?_⟩
   cases e
   exact⟨o,I.kIn _ o hk,hd⟩
  ·have z:∃o,s.heap.get? p=some o/\o.ExactDict:=by
    rcases hk with⟨kvs,hk⟩ | ⟨kvs,hk⟩
    ·obtain⟨_,_,_,_,o,_,_,e,ex,_⟩:=I.hok p _ hk
     exact⟨o,e,ex⟩
    ·obtain⟨_,_,_,_,o,_,_,e,ex,_⟩:=I.hok p _ hk
     exact⟨o,e,ex⟩
   obtain⟨o,e,ex⟩:=z
   refine⟨⟨o,e,ex.1⟩,λa e2=>?_⟩
   cases e2
   exact⟨o,e,ex.2.1⟩
  ·obtain⟨o,_,_,_,e,ex,_⟩:=I.hok p _ hk
   refine⟨⟨o,e,ex.1⟩,λa e2=>?_⟩
   cases e2
   exact⟨o,e,ex.2.1⟩
 | _=>exact False.elim ty
noncomputable def Qse(K:PySem.W.Frag)(T:String)(r:V->List V->Hp->VK->Prop)(to:TE):TE:=λσ H Q=>to σ H λx H1=>tyV K T x H1/\r x [] H1 Q
noncomputable def tBM(K:PySem.W.Frag)(T:String)(r:V->List V->Hp->VK->Prop)(to:TE)(t:TA):TE:=λσ H Q=>to σ H λx H1=>tyV K T x H1/\t σ H1 λxs H2=>r x xs H2 Q
variable {o e:Expr}{es:List Expr}{to:TE}{t:TA}{name:Str}{apos cpos:Pos}{T id:String}{r:V->List V->Hp->VK->Prop}
theorem QrI(pa:PlainAttrs T)(slot:Slot T name id)(hty:typeOf (.builtin id)=pure (.type "method_descriptor"))(hm:MtR X id r)(ho:PE X o to)
  (hbase:attributeBase o name X.env (eval o X.env)=eval o X.env:=by rfl) (hline:(apos.endLine == cpos.line)=true:=by rfl):PE X (.Call (.Attribute o name apos) [] [] cpos) (Qse X.K T r to):=by
 intro pins s σ H Q I h
 refine wpAny_Call_method0_late hbase hline (thn (ho pins s σ H _ I h) λv s1 ⟨x,H1,I1,r1,ty,q1⟩=>?_)
 obtain⟨h1,h2⟩:=Qri I1 r1 ty
 exact⟨T,id,pa,slot,hty,h1,h2,Calls.callWith_builtin rfl (PySem.evalArgs_none (hm pins s1 σ H1 x [] v [] Q I1 r1 .nil q1))⟩
theorem QxU(pa:PlainAttrs T)(slot:Slot T name id)(hty:typeOf (.builtin id)=pure (.type "method_descriptor"))(hm:MtR X id r)(ho:PE X o to)(ha:PA X (e::es) t)
  (hbase:attributeBase o name X.env (eval o X.env)=eval o X.env:=by rfl)
  (hfew:((backTo cpos (starEach (e::es) X.env)).all (λx=> !x.1) && (backToKw cpos (keywordEach [] X.env)).all (λx=>x.1.isSome)
   && decide ((e::es).length+([]:List Keyword).length+(if([]:List Keyword).isEmpty then 0 else 1)<30))=true:=by rfl)
  (hline:(apos.endLine == cpos.line)=true:=by rfl) (hs:starEach (e::es) X.env=(false,eval e X.env)::starEach es X.env:=by rfl) (hplain:(backTo cpos (starEach es X.env)).any (·.1)=false:=by rfl):
  PE X (.Call (.Attribute o name apos) (e::es) [] cpos) (tBM X.K T r to t):=by
 intro pins s σ H Q I h
 refine wpAny_Call_method_late hbase hfew hline rfl (thn (ho pins s σ H _ I h) λv s1 ⟨x,H1,I1,r1,ty,q1⟩=>?_)
 obtain⟨h1,h2⟩:=Qri I1 r1 ty
 refine⟨T,id,pa,slot,hty,h1,h2,?_⟩
 have hA:=ha cpos pins s1 σ H1 _ I1 q1
 rw[hs]at hA ⊢
 refine Calls.callWith_builtin (by show(false || (backTo cpos (starEach es X.env)).any (·.1))=false;rw[hplain]<;>rfl) (Calls.evalArgs_plain ?_)
 exact thn hA λus s2 ⟨vs,H2,I2,r2,q2⟩=>hm pins s2 σ H2 x vs v us Q I2 r1 r2 q2
end
end L2
namespace L2
open PySem PySem.Spec PyProof.Rows
def MtM(X:Cx)(id:String)(r:V->List V->Hp->VK->Prop):Prop:=
 ∀(pins:List (Addr×Obj)) (s:Shared) (σ:St) (H:Hp) (x:V) (xs:List V) (v:Value) (us:List Value) (Q:VK),Inv X pins σ H s->RelV x v->QD xs us->r x xs H Q→
  wpAny (model X.prog X.w) X.A (call (.builtin id) (v::us)) (EP X pins σ Q) X.xe s
theorem QD.one:∀{x:V}{us:List Value},QD [x] us->∃u,us=[u]/\RelV x u
 | _,_,.cons r .nil=>⟨_,rfl,r⟩
theorem QD.two:∀{x y:V}{us:List Value},QD [x,y] us->∃u v,us=[u,v]/\RelV x u/\RelV y v
 | _,_,_,.cons r (.cons q .nil)=>⟨_,_,rfl,r,q⟩
theorem QD.zero:∀{us:List Value},QD [] us->us=[]
 | _,.nil=>rfl
theorem QD.reverse{xs:List V}{us:List Value}(h:QD xs us):QD xs.reverse us.reverse:=by
 induction h with
 | nil=>exact .nil
 | cons r t ih=>rw[Zay,Zay];exact QD.append ih (.cons r .nil)
theorem QD.rep{xs:List V}{us:List Value}(h:QD xs us):∀k:Nat,QD (List.replicate k xs).flatten (List.replicate k us).flatten
 | 0=> .nil
 | k+1=>by
  rw[Zae,Zae,Zak,Zak]
  exact QD.append h (QD.rep h k)
theorem foldl_rep(its:List Value):∀(k:Nat) (acc:List Value),
  List.foldl (λx1 x2=>x1++x2) acc.toArray (List.replicate k its.toArray)=(acc++(List.replicate k its).flatten).toArray
 | 0,acc=>by simp
 | k+1,acc=>by
  have e:acc.toArray++its.toArray=(acc++its).toArray:=by simp
  have e2:(acc++its)++(List.replicate k its).flatten=acc++(List.replicate (k+1) its).flatten:=by
   rw[Zae,Zak,Zbl]
  rw[← e2,← foldl_rep its k (acc++its),← e,Zae,List.foldl_cons]
section
variable {X:Cx}{pins:List (Addr×Obj)}{σ:St}{H:Hp}{s:Shared}{l b:Addr}{xs ys zs:List V}
theorem Inv.Qsj{its its':List Value}{n:Nat}{f:Array Value->Array Value}{t':Nat}(I:Inv X pins σ H s)(hH:H l=some (.lst xs))
  (e:s.heap.get? l=some {cls:= .type "list",data:= .seq its.toArray n}) (hf:f its.toArray=its'.toArray) (hv:QD ys its') (hz:ys.length<=sizeLine):
  Inv X pins σ (upd H l (.lst ys)) {s with heap:=s.heap.update l (Obj.mapSeq f),toks:=t'}:=by
 have q:=PySem.IsL.update e f
 rw[hf]at q
 refine I.write (x:=l) (e:=l) (by rw[hH];exact trivial) (.inl rfl) (λb' u hb hu=>(Heap.get?_update_other s.heap (Obj.mapSeq f) (Ne.symm hb)).trans hu) ⟨_,q⟩ ?_
 exact⟨hz,its',_,hv,q⟩
theorem Inv.Qwq{its:List Value}{t':Nat}(I:Inv X pins σ H s)(hv:QD ys its)(hz:ys.length<=sizeLine):
  Inv X pins σ (upd H s.heap.objs.size (.lst ys)) {s with heap:=s.heap.push {cls:= .type "list",data:= .seq its.toArray},toks:=t'}:=
 I.laid (λ_ _ q=>Zn _ q) (Zi _) ⟨hz,its,0,hv,ZN _ rfl⟩
theorem Inv.fresh(I:Inv X pins σ H s):H s.heap.objs.size=none:=I.hok.fresh (Zi _)
theorem Inv.QpF(I:Inv X pins σ H s)(hH:H l=some (.lst xs)):xs.length<=sizeLine/\∃(its:List Value) (n:Nat),QD xs its/\xs.length=its.length/\s.heap.get? l=some {cls:= .type "list",data:= .seq its.toArray n}:=by
 obtain⟨z,its,n,r,e⟩:=I.hok l _ hH
 exact⟨z,its,n,r,r.length,e⟩
theorem Qsb{n:Nat}(h:n<=sizeLine):Builtin.List.listTooLong n=false:=by
 unfold Builtin.List.listTooLong
 exact decide_eq_false (by omega)
end
section
variable {X:Cx}
noncomputable def QoQ:V->List V->Hp->VK->Prop:=λx vs H Q=>∃l xs y,x= .ref l/\vs=[y]/\H l=some (.lst xs)/\xs.length<sizeLine/\Q .non (upd H l (.lst (xs++[y])))
theorem Qlo:MtM X "list.append" QoQ:=by
 intro pins s σ H x vs v us Q I rx rv h
 obtain⟨l,xs,y,rfl,rfl,hH,hz,q⟩:=h
 cases rx
 obtain⟨u,rfl,ru⟩:=rv.one
 obtain⟨z,its,n,r,hl,e⟩:=I.QpF hH
 refine call_meets F.slot_list_append ⟨_,e,rfl⟩ F.entry_list_append (F.args_list_append_2 _ _) (PySem.list_append l its.toArray n u (by rw[Zw];omega)) ⟨e,?_⟩
 refine⟨.non,_,I.Qsj (its':=its++[u]) hH e (by simp) (r.append (.cons ru .nil)) ?_,rfl,q⟩
 rw[Zt,Zbo]
 omega
noncomputable def QnV:V->List V->Hp->VK->Prop:=λx vs H Q=>∃l xs,x= .ref l/\vs=[]/\H l=some (.lst xs)/\Q .non (upd H l (.lst xs.reverse))
theorem Qpv:MtM X "list.reverse" QnV:=by
 intro pins s σ H x vs v us Q I rx rv h
 obtain⟨l,xs,rfl,rfl,hH,q⟩:=h
 cases rx
 have hus:=rv.zero
 subst hus
 obtain⟨z,its,n,r,hl,e⟩:=I.QpF hH
 refine call_meets F.slot_list_reverse ⟨_,e,rfl⟩ F.entry_list_reverse (F.args_list_reverse_1 _) (AutoSeq1.list_reverse_list_0 l its.toArray n (by rw[Zw];omega)) ⟨e,?_⟩
 refine⟨.non,_,I.Qsj (its':=its.reverse) hH e (by simp) r.reverse ?_,rfl,q⟩
 rw[List.length_reverse]
 omega
noncomputable def Qqe:V->List V->Hp->VK->Prop:=λx vs H Q=>∃l xs,x= .ref l/\vs=[]/\H l=some (.lst xs)/\Q .non (upd H l (.lst []))
theorem Qto:MtM X "list.clear" Qqe:=by
 intro pins s σ H x vs v us Q I rx rv h
 obtain⟨l,xs,rfl,rfl,hH,q⟩:=h
 cases rx
 have hus:=rv.zero
 subst hus
 obtain⟨z,its,n,r,hl,e⟩:=I.QpF hH
 refine call_meets F.slot_list_clear ⟨_,e,rfl⟩ F.entry_list_clear (F.args_list_clear_1 _) (AutoSeq1.list_clear_list_0 l its.toArray n (by rw[Zw];omega)) ⟨e,?_⟩
 exact⟨.non,_,I.Qsj (its':=[]) (ys:=[]) hH e rfl .nil (ZS _),rfl,q⟩
theorem len_rep{α:Type}(xs:List α)(k:Nat):(List.replicate k xs).flatten.length=k*xs.length:=by
 induction k with
 | zero=>simp
 | succ k ih=>rw[Zae,Zak,Zt,ih,ZbL,Nat.add_comm]
end
section
variable {prog:Program}{w:World}{A:Around}{E:Value->Shared->Prop}{s:Shared}
end
section
variable {X:Cx}
end
end L2
namespace Att
open PySem PySem.W PySem.Calls PyProof.Rows
theorem Qjr{P:Params}{h:Heap}:∀(ns:List Int) (vs:List Value),WellAll P h vs (ns.map WData.int)->IntsAre vs ns:=by
 intro ns
 induction ns with
 | nil=>
  intro vs w
  rw[List.map_nil]at w
  cases w
  exact .nil
 | cons n ns ih=>
  intro vs w
  rw[ZL]at w
  cases w with
  | cons a b=>
   cases a
   exact .cons _ _ (ih _ b)
theorem Qrx{l:OpenLaw}{n:Nat}(hn:l.most=some n){P:Params}{h:Heap}{args:List WData}{vals:List Value}
  (hpre:l.row.toRowW.claim.pre args=true) (hwl:WellAll P h vals args):
  ∃a vs ns,vals=[Value.ref a]/\args=[WData.list (ns.map WData.int)]/\h.get? a=some {cls:= .type "list",data:= .seq vs.toArray}/\IntsAre vs ns/\ns.length<=n:=by
 have hsh:WShape.hasAll [] args [.list .int]=true:=(pre_splitW hpre).1
 have hc:l.pre.holds [] {args:=args}=true:=(pre_splitW hpre).2
 obtain⟨d,r,rfl,h1,h2⟩:=hasAllW_cons hsh
 obtain rfl:=hasAllW_nil h2
 obtain⟨xs,rfl,h3⟩:=hasW_list h1
 obtain⟨ns,rfl⟩:=items_int h3
 have hlen:ns.length<=n:=by
  unfold OpenLaw.pre at hc
  have h4:(WTm.not (.lt (.lit (.int (n:Int))) (.len (.arg 0)))).holds [] {args:=[.list (ns.map .int)]}=true:=by
   have h4:=(holds_andW hc).1
   rw[hn]at h4
   exact h4
  have h5:=condW_of h4 (w_not (w_lt w_lit (w_len_list (w_arg rfl))))
  rw[Zx]at h5
  refine Nat.le_of_not_lt λq=>?_
  have q':(n:Int)<((ns.length:Nat):Int):=by omega
  first
   | (rw[decide_eq_true q']at h5;exact absurd h5 (by decide))
   | (simp at h5;omega)
 cases hwl with
 | cons w1 w2=>
  cases w2
  cases w1 with
  | list ho hall=>exact⟨_,_,ns,rfl,rfl,ho,Qjr ns _ hall,hlen⟩
theorem QqJ(l:OpenLaw)(args:List WData):l.row.toRowW.claim.post args (.bool true) args=true:=
 postW_of (r:=l.row.toRowW) (X:=(true == true))
  (show WShape.has [] (.bool true) .bool=true by first | rfl | decide | simp[WShape.has,WShape.arms,WShape.armsAll])
  (show(WTm.eq .res (.lit (.bool true))).value [] {args:=args,res:=some (.bool true),after:=args}=some (.bool (true == true))from w_eq_bool (w_res rfl) w_lit) rfl
theorem Qif{l:OpenLaw}{n:Nat}{q:Program}{loose:List Str}{XP:(Str->Option Value)->Heap->Prop}{YP:World->Heap->Prop}{d:DefRec}
  (hn:l.most=some n) (hdf:d.params.defaults=[])
  (call:∀(w:World) (s₀ s₁:Shared) (mg mb:Str->Option Value) (fa:Addr) (o:Obj) (pm cd doc:Value) (a:Addr) (vs:List Value) (ns:List Int),
   Ground q loose [] XP w s₀ mg mb s₁.heap->YP w s₁.heap→
   s₁.heap.get? fa=some o->o.data= .func (docDef d.name d.params d.body d.scope pm cd doc)->s₁.heap.CodeRec cd d.name->mg d.name=some (.ref fa)→
   s₁.heap.get? a=some {cls:= .type "list",data:= .seq vs.toArray}->IntsAre vs ns->ns.length<=n->s₁.gens= #[]→
   codeAny (model l.prog w) callerA (.call (.ref fa) ⟨[.ref a],[]⟩) (λr s'=>r= .ok (.ret (.bool true))/\OldK s₁.heap s'.heap/\s'.os=s₁.os/\AllBare s'.gens) s₁):
  WalkO q loose XP YP l.row.toRowW d [] (λf vs=>PySem.call f vs):=by
 intro w s₀ s₁ mg mb G Y fa o pm cd doc dV kV ho hd hcd hD hmg hg args vals as hpre hlay hrd hwl hlo
 obtain rfl:dV= .none:=Dflts.none hD hdf
 obtain rfl:kV= .none:=Dflts.noKw hD
 obtain⟨a,vs,ns,rfl,rfl,hobj,hints,hlen⟩:=Qrx hn hpre hwl
 refine enter_call (codeAny_mono (call w s₀ s₁ mg mb fa o pm cd doc a vs ns G Y ho (fd_plain hd) hcd hmg hobj hints hlen hg) λr s' hq=>?_)
 obtain⟨rfl,h2,h3,h4⟩:=hq
 exact⟨.inl ⟨.bool true,.bool true,[],rfl,λ_=>rfl,.bool true,QqJ l _,λ_=>⟨List.Pairwise.nil,λ_ hm=>(nomatch hm)⟩⟩,h2,h3,h4⟩
section
variable {prog:Program}{w:World}{A:Around}{E:Value->Shared->Prop}{s:Shared}{K:Frag}
noncomputable def ledger(h:Heap)(L d:Addr):List (Addr×Obj):=(List.range h.objs.size).filterMap λa=>if a=L∨a=d then none else(h.get? a).map λo=>(a,o)
end
end Att
namespace L2
open PySem PySem.Spec PyProof.Rows
theorem Qeu:∀{vs:List Value}{ns:List Int},IntsAre vs ns->QD (ns.map V.int) vs
 | _,_,.nil=> .nil
 | _,_,.cons n t h=> .cons ⟨t,rfl⟩ (Qeu h)
def QtE(H:Hp):Prop:=∀b,H b=none∨∃o xs,H b=some (.frz o (.lst xs))
theorem Qmi{P:Program}{w:World}{K:PySem.W.Frag}{mg mb:Str->Option Value}{CX:CXT}{k:Nat}{fa a:Addr}{fd:FuncData}{x:Str}{sp:Sp}{s₁:Shared}{vs:List Value}{ns:List Int}
  (KX:K.In s₁.heap) (hns:s₁.heap.Ns mainGlobals mg) (hb:s₁.heap.Ns builtinsNs mb) (hbb:∀x:Str,x≠ "__name__" ->mb x=bootBuiltins x) (hlim:s₁.heap.NoLimit) (hg:s₁.gens= #[])
  (ha:s₁.heap.get? a=some {cls:= .type "list",data:= .seq vs.toArray}) (hi:IntsAre vs ns) (hl:ns.length<=sizeLine) (hr:QaE k callerA)
  (F:∀base:Heap,K.In base->base.Ns mainGlobals mg->Qby P w K mg base CX k fa fd [x] sp) (hbind:∀(s:Shared) (u:Value),BindsTo s fd ⟨[u],[]⟩ [(x,u)])
  (hsp:∀H:Hp,QtE H->SqL K H a (ns.map V.int)->sp [.ref a] H (λv _=>v= .bl true) λ_ _ _=>False)
  (hCX:∀H e s',CX [] H s₁ (λ_ _ _=>False) e s'->False):
  codeAny (model P w) callerA (.call (.ref fa) ⟨[.ref a],[]⟩) (λr s'=>r= .ok (.ret (.bool true))/\OldK s₁.heap s'.heap/\s'.os=s₁.os/\AllBare s'.gens) s₁:=by
 have rv:=Qeu hi
 have lenV:=hi.length
 have core:∀H:Hp,QtE H->SqL K H a (ns.map V.int)->HOk P w H s₁.heap->(∀b,H b≠none->b=a)->(H a≠none->K.lookup a=none)→
   codeAny (model P w) callerA (.call (.ref fa) ⟨[.ref a],[]⟩) (λr s'=>r= .ok (.ret (.bool true))/\OldK s₁.heap s'.heap/\s'.os=s₁.os/\AllBare s'.gens) s₁:=by
  intro H hO hS hok hA hK
  have base_of:∀{b:Addr}{o:Obj},s₁.heap.get? b=some o->H b=none->(Qgu s₁.heap H).get? b=some o:=λe n=>Qtw e n
  have noA:∀{b:Addr}{o:Obj}{es:Array DictEntry}{ep:Nat},s₁.heap.get? b=some o->o.data= .dict es ep->H b=none:=λ{b o es ep} e d=>by
   cases q:H b with
   | none=>rfl
   | some u=>
    have e':b=a:=hA b (by rw[q];simp)
    subst e'
    rw[ha]at e;cases e
    have d':Data.seq vs.toArray _=Data.dict es ep:=d
    cases d'
  have nsK:∀{b:Addr}{m:Str->Option Value},s₁.heap.Ns b m->(Qgu s₁.heap H).Ns b m:=λ{b m} ⟨o,es,ep,e,d,r⟩=>⟨o,es,ep,base_of e (noA e d),d,r⟩
  have hKb:K.In (Qgu s₁.heap H):=λb o e=>base_of (KX b o e) (by
   cases q:H b with
   | none=>rfl
   | some u=>
    have e':b=a:=hA b (by rw[q];simp)
    subst e'
    rw[hK (by rw[q];simp)]at e;cases e)
  have hM:Mod K mg (Qgu s₁.heap H):=⟨hKb,nsK hns,⟨mb,nsK hb,hbb⟩,let ⟨mc,h1,h2⟩:=hlim;⟨mc,nsK h1,h2⟩⟩
  have e0:Qe5 P w K mg (Qgu s₁.heap H) callerA [] s₁ H:=⟨rfl,hM,λb o e=>Qus e,Nat.le_of_eq (Qrn _ _),trivial,λb hb=>absurd (show b∈([]:List Addr)from hb) (by simp),hok,.of_eq hg⟩
  refine codeAny_mono ((F _ hKb (nsK hns)).run callerA [] s₁ H ⟨[.ref a],[]⟩ [.ref a] [.ref a] _ _ hr e0 (hbind s₁ (.ref a)) (.cons rfl .nil) (hsp H hO hS)) λr s' h=>?_
  cases r with
  | error e=>exact(hCX H e s' h).elim
  | ok fl=>
   cases fl with
   | next=>exact False.elim h
   | brk=>exact False.elim h
   | cont=>exact False.elim h
   | ret u=>
    obtain⟨v,H',os,bare,un,hok',r',q⟩:=h
    have q':v= .bl true:=q
    subst q'
    obtain rfl:u=Value.bool true:=r'
    refine⟨rfl,OldK.of_keep λb o e=>?_,os,bare⟩
    cases q:H b with
    | none=>exact un.keep b o e q (by intro z;exact absurd (show b∈([]:List Addr)from z) (by simp)) (by simp)
    | some u=>
     rcases hO b with z | ⟨ob,xs,z⟩
     ·rw[q]at z;cases z
     ·have z2:=un.frzs b ob _ z
      obtain⟨e1,_⟩:=hok b _ z
      obtain⟨e2,_⟩:=hok' b _ z2
      rw[e]at e1;cases e1
      exact e2
 cases hk:K.lookup a with
 | some o=>
  have e:=KX a o hk
  rw[ha]at e
  cases e
  refine core (λ_=>none) (λ_=> .inl rfl) (.inr ⟨_,vs.toArray,_,hk,rfl,rfl,rfl,by rw[Zw,lenV];exact hl,by simpa using rv⟩) (λb u z=>by have z':(none:Option HO)=some u:=z;cases z') (λb z=>absurd rfl z) λz=>absurd rfl z
 | none=>
  refine core (λb=>if b=a then some (.frz {cls:= .type "list",data:= .seq vs.toArray} (.lst (ns.map V.int)))else none) (λb=>?_) (.inl (.inr ⟨{cls:= .type "list",data:= .seq vs.toArray},if_pos rfl⟩)) (λb u z=>?_) (λb z=>?_) λ_=>hk
  ·by_cases hb:b=a
   ·exact .inr ⟨_,_,if_pos hb⟩
   ·exact .inl (if_neg hb)
  ·by_cases hb:b=a
   ·have z':=(if_pos hb).symm.trans z
    cases z'
    subst hb
    exact⟨ha,by rw[Zx];exact hl,vs,_,rv,ha⟩
   ·have z':=(if_neg hb).symm.trans z
    cases z'
  ·by_cases hb:b=a
   ·exact hb
   ·exact absurd (if_neg hb) z
end L2
namespace L2
open PySem PySem.Spec PyProof.Rows
noncomputable abbrev KOf{K:PySem.W.Frag}{h:Heap}(_:K.In h):PySem.W.Frag:=K
theorem Qzk{l:PySem.W.OpenLaw}{n k:Nat}{q:Program}{loose:List Str}{XP:(Str->Option Value)->Heap->Prop}{YP:World->Heap->Prop}{d:DefRec}{K:Params->PySem.W.Frag}{CX:World->CXT}{sp:World->Sp}{x:Str}
  (hn:l.most=some n) (hn2:n<=sizeLine) (hdf:d.params.defaults=[]) (hr:QaE k callerA)
  (hY:∀(w:World) (h:Heap),YP w h->(K w.params).In h)
  (F:∀(w:World) (mg:Str->Option Value) (fa:Addr) (h:Heap),(K w.params).In h->h.Ns mainGlobals mg->mg d.name=some (.ref fa)→
   ∃fd:FuncData,(∀(s:Shared) (u:Value),BindsTo s fd ⟨[u],[]⟩ [(x,u)])∧
    ∀base:Heap,(K w.params).In base->base.Ns mainGlobals mg->Qby l.prog w (K w.params) mg base (CX w) k fa fd [x] (sp w))
  (hsp:∀(w:World) (H:Hp) (a:Addr) (ns:List Int),ns.length<=n->QtE H->SqL (K w.params) H a (ns.map V.int)->sp w [.ref a] H (λv _=>v= .bl true) λ_ _ _=>False)
  (hCX:∀(w:World) (H:Hp) (s:Shared) (e:Value) (s':Shared),CX w [] H s (λ_ _ _=>False) e s'->False):
  PySem.W.WalkO q loose XP YP l.row.toRowW d [] (λf vs=>PySem.call f vs):=by
 refine Att.Qif hn hdf λw s₀ s₁ mg mb fa o pm cd doc a vs ns G Y ho hd hcd hmg hobj hints hlen hg=>?_
 have KX:=hY w _ Y
 obtain⟨fd,hb,hF⟩:=F w mg fa _ KX G.T.g hmg
 exact Qmi KX G.T.g G.T.b G.T.builtins G.T.nolimit hg hobj hints (Zk hlen hn2) hr hF hb (λH hO hS=>hsp w H a ns hlen hO hS) λH e s'=>hCX w H s₁ e s'
end L2
namespace L2
open PySem PySem.Spec PyProof.Rows
noncomputable def Qe0(s:Stmt):Arguments:=match s with
 | .FunctionDef _ a _ _ _ _ _ _ _ _=>a
 | _=>{posonlyargs:=[],args:=[],vararg:=none,kwonlyargs:=[],kw_defaults:=[],kwarg:=none,defaults:=[]}
noncomputable def Qb5(s:Stmt):List Stmt:=match s with
 | .FunctionDef _ _ b _ _ _ _ _ _ _=>b
 | _=>[]
noncomputable def QA(s:Stmt):Scope:=match s with
 | .FunctionDef _ _ _ _ _ _ sc _ _ _=>sc
 | _=>{kind:= .function,names:=[],isGenerator:=false,isCoroutine:=false}
noncomputable abbrev CX0:CXT:=λ_ _ _ _ _ _=>False
noncomputable abbrev E0:XK:=λ_ _ _=>False
theorem Qt0{X:Cx}:Qj7 CX0 X E0:=λ_ _ _ _ _ _ _ h=>h.elim
structure Fun (K:PySem.W.Frag) (x qual:Str) (st:Stmt) (f:Addr) (fd:FuncData):Prop where
 ex:∃(oc:Value) (od:Option Addr) (kV doc pm:Value) (an:Option Addr) (cdv ct:Value) (osl:Array (Option Value)),
  fd=PySem.W.fnOf x qual (Qe0 st) (Qb5 st) (QA st) .none kV doc pm an cdv ct/\K.lookup f=some ⟨oc,od,.func fd,osl⟩/\PySem.W.codeIn K cdv qual=true
 kp:PySem.W.keepIn K (.ref f)=true
section
variable {P:Program}{w:World}{K:PySem.W.Frag}{mg:Str->Option Value}{base:Heap}
theorem Fun.ok{x qual:Str}{st:Stmt}{f:Addr}{fd:FuncData}{N ps:List Str}{k:Nat}{sp:Sp}(F:Fun K x qual st f fd)(S:Qc8 N ps (QA st))(len:∀vs H Q E,sp vs H Q E->vs.length=ps.length)
  (hbody:∀(cdv:Value) (A:Around) (outer:List Env) (s:Shared) (H:Hp) (vs:List V) (Q:VK) (E:XK),QaE k (A.deeper (envOfC qual (QA st) s.heap.objs.size f cdv))->sp vs H Q E→
   ∃t,PSs (Qhf CX0 P w K mg base N qual (QA st) f cdv A outer s H E).nox (Qb5 st) t/\t {nx:=λ_ H'=>Q .non H',rt:=Q} (start N vs) H):Qby P w K mg base CX0 (k+1) f fd ps sp:=by
 obtain⟨oc,od,kV,doc,pm,an,cdv,ct,osl,rfl,lk,hcd⟩:=F.ex
 refine QxZ lk hcd S len λA outer s H vs Q E hr hsp=>?_
 obtain⟨t,h,q⟩:=hbody cdv A outer s H vs Q E hr hsp
 exact⟨t,h.nox,q⟩
theorem Fun.binds{x qual:Str}{st:Stmt}{f:Addr}{fd:FuncData}{ps:List Str}(F:Fun K x qual st f fd)
  (h:∀(kV doc pm:Value) (an:Option Addr) (cdv ct:Value) (us:List Value),us.length=ps.length->bindArgs (PySem.W.fnOf x qual (Qe0 st) (Qb5 st) (QA st) .none kV doc pm an cdv ct) ⟨us,[]⟩=pure (ps.zip us)):Binds K fd ps []:=by
 obtain⟨oc,od,kV,doc,pm,an,cdv,ct,osl,rfl,lk,hcd⟩:=F.ex
 exact .all (h kV doc pm an cdv ct)
theorem Qv1{x qual:Str}{st:Stmt}{f:Addr}{oc:Value}{od an:Option Addr}{osl:Array (Option Value)}{kV doc pm cdv ct:Value}(l:K.lookup f=some ⟨oc,od,.func (PySem.W.fnOf x qual (Qe0 st) (Qb5 st) (QA st) .none kV doc pm an cdv ct),osl⟩)
  (c:PySem.W.codeIn K cdv qual=true) (k:PySem.W.keepIn K (.ref f)=true):Fun K x qual st f (PySem.W.fnOf x qual (Qe0 st) (Qb5 st) (QA st) .none kV doc pm an cdv ct):=⟨⟨oc,od,kV,doc,pm,an,cdv,ct,osl,rfl,l,c⟩,k⟩
end
section
variable {X:Cx}
theorem pv(i:Nat){x:Str}{pos:Pos}(hN:X.N[i]? =some x:=by rfl)(hv:Vis X.env.scope x:=by first | exact Or.inl rfl | exact Or.inr (Or.inl rfl) | exact Or.inr (Or.inr rfl))(hd:(x == ("__debug__" :Str))=false:=by decide)
  (hcd:(x == ("__classdict__" :Str))=false:=by decide):PE X (.Name x pos) (Qdn i):=QqB hN hv hd hcd
end
theorem QsG{A B:Prop}(h:B):if false=true then A else B:=by
 rw[if_neg Zao]
 exact h
theorem Qsh{A B:Prop}(h:A):if true=true then A else B:=by
 rw[if_pos rfl]
 exact h
def QN(H H':Hp):Prop:=∀b o,H b=some o->H' b=some o
theorem QN.refl(H:Hp):QN H H:=λ_ _ h=>h
theorem QN.trans{H H1 H2:Hp}(a:QN H H1)(b:QN H1 H2):QN H H2:=λc o h=>b c o (a c o h)
theorem QN.free{H H':Hp}(e:QN H H'){l:Addr}(h:H' l=Option.none):H l=Option.none:=by
 cases q:H l with
 | none=>rfl
 | some o=>
  rw[e l o q]at h
  cases h
theorem QN.seq{K:PySem.W.Frag}{H H':Hp}{a:Addr}{xs:List V}(e:QN H H')(h:SqL K H a xs):SqL K H' a xs:=by
 rcases h with(h | ⟨o,h⟩) | h
 ·exact .inl (.inl (e _ _ h))
 ·exact .inl (.inr ⟨o,e _ _ h⟩)
 ·exact .inr h
end L2
namespace L2
open PySem PySem.Spec PyProof.Rows
theorem Qkd(env:Env)(body:Str×NameKind->List (Str×Addr)->Sem (ForInStep (List (Str×Addr))))
  (hb:∀n k cs,body (n,k) cs=if(k == NameKind.free)=true then(do let c ← cellOf env n;pure (ForInStep.yield ((n,c)::cs)))else pure (ForInStep.yield cs)):
  ∀(names:List (Str×NameKind)) (acc:List (Str×Addr)),(∀y∈names,y.2= .free->∃c,env.cells.lookup y.1=some c)->(∀x c,acc.lookup x=some c->env.cells.lookup x=some c)→
   ∃cl,forIn names acc body=(pure cl:Sem _)/\(∀x c,cl.lookup x=some c->env.cells.lookup x=some c)/\(∀x,acc.lookup x≠none->cl.lookup x≠none)/\∀y∈names,y.2= .free->cl.lookup y.1≠none
 | [],acc,_,ha=>⟨acc,rfl,ha,λ_ h=>h,λy hy=>by simp at hy⟩
 | (n,k)::r,acc,hn,ha=>by
  rw[List.forIn_cons,hb]
  have hr:∀y∈r,y.2= .free->∃c,env.cells.lookup y.1=some c:=λy hy=>hn y (Zg _ hy)
  by_cases hk:k= .free
  ·subst hk
   obtain⟨c,hc⟩:=hn (n,.free) Zq rfl
   have hce:cellOf env n=pure c:=by unfold cellOf;rw[show env.cells.lookup n=some c from hc]
   rw[if_pos (by rfl),hce]
   obtain⟨cl,e,h1,h2,h3⟩:=Qkd env body hb r ((n,c)::acc) hr (λx c' e=>by
    rw[Zv]at e
    cases q:x == n with
    | true=>rw[q]at e;cases e;rw[beq_iff_eq]at q;rw[q];exact hc
    | false=>rw[q]at e;exact ha x c' e)
   have hcons:∀x,((n,c)::acc).lookup x≠none->cl.lookup x≠none:=h2
   refine⟨cl,by simpa using e,h1,λx hx=>hcons x ?_,λy hy hf=>?_⟩
   ·rw[Zv];cases x == n with
    | true=>simp
    | false=>exact hx
   ·rcases Zm.mp hy with rfl | hy
    ·exact hcons _ (by simp[Zv])
    ·exact h3 y hy hf
  ·rw[if_neg (by simpa using hk)]
   obtain⟨cl,e,h1,h2,h3⟩:=Qkd env body hb r acc hr ha
   refine⟨cl,by simpa using e,h1,h2,λy hy hf=>?_⟩
   rcases Zm.mp hy with rfl | hy
   ·exact absurd hf hk
   ·exact h3 y hy hf
theorem Qux{scope:Scope}{env:Env}(h:∀y∈scope.names,y.2= .free->∃c,env.cells.lookup y.1=some c):
  ∃cl,closureFor scope env=pure cl/\(∀x c,cl.lookup x=some c->env.cells.lookup x=some c)/\∀y∈scope.names,y.2= .free->∃c,cl.lookup y.1=some c:=by
 unfold closureFor
 obtain⟨cl,e,h1,_,h3⟩:=Qkd env (λx cs=>match x with | (name,kind)=>if(kind == NameKind.free)=true then(do let c ← cellOf env name;pure (ForInStep.yield ((name,c)::cs)))else pure (ForInStep.yield cs)) (λ_ _ _=>rfl) scope.names [] h (λx c e=>by simp at e)
 refine⟨cl,?_,h1,λy hy hf=>Option.ne_none_iff_exists'.mp (h3 y hy hf)⟩
 show(forIn scope.names [] _ >>= λr=>pure r)=_
 rw[e];rfl
noncomputable def cxc(X:Cx)(N':List Str)(scope:Scope)(cl:List (Str×Addr))(C:Addr)(fp:List Addr)(s3:Shared)(H3:Hp):Cx:=
 {X with N:=N',s₀:=s3,H₀:=H3,env:=compEnvC scope cl C X.env,outer:=X.stack,ex:=fp,fn:=λx=>decide (scope.names.lookup x=some .cell),pn:=[],xe:=λ_ _=>False}
def PTs(X:Cx)(ifs:List Expr)(t:TT):Prop:=
 ∀(pins:List (Addr×Obj)) (s:Shared) (σ:St) (H:Hp) (Q:Bool->Hp->Prop),Inv X pins σ H s->t σ H Q→
  wpAny (model X.prog X.w) X.A (forIn ifs true λc r=>if r=true then do let ok ← isTrue c X.env (eval c X.env);pure (ForInStep.yield ok)else pure (ForInStep.yield r)) (TP X pins σ Q) X.xe s
noncomputable def QyK:TT:=λ_ H Q=>Q true H
theorem Qvs{X:Cx}:PTs X [] QyK:=λ_ _ _ H _ I h=>wpAny_tests_nil ⟨H,I,h⟩
theorem Qt9{X:Cx}{c:Expr}{t:TT}(h:PT X c t):PTs X [c] t:=λpins s σ H Q I q=>wpAny_tests_one (h pins s σ H Q I q)
def QjD(X:Cx)(N':List Str)(scope:Scope)(σ σ':St):Prop:=
 σ'.length=N'.length/\∀(j:Nat) (x:Str) (v:V),N'[j]? =some x->σ'[j]? =some (some v)->scope.names.lookup x=some .free/\∃i:Nat,X.N[i]? =some x/\σ[i]? =some (some v)/\(X.env.kindOf x=some .cell∨X.env.kindOf x=some .free)
noncomputable def Ql6(wi:TI)(cap:St->St->Prop)(g:TG)(tc:TT)(te:TE):TE:=λσ H Q=>wi σ H λJ H1=>∃σc,cap σ σc/\∀D,H1 D=none->∃W:Nat->Nat->List V->Hp->Prop,
 (∃m,W 0 m [] (upd H1 D (.lst [])))/\∀i m acc H2,W i m acc H2->(J.stop i H2/\Q (.ref D) H2)∨
  (J.go i H2/\∀x H3,J.yld i H2 x H3->g x σc H3 λσ2 H4=>(∀(j:Nat) v,σc[j]? =some (some v)->σ2[j]? =some (some v))/\tc σ2 H4 λb H5=>if b=true then
   te σ2 H5 λy H6=>H6 D=some (.lst acc)/\acc.length<sizeLine/\∃m',m'<m/\W (i+1) m' (acc++[y]) (upd H6 D (.lst (acc++[y])))
   else ∃m',m'<m/\W (i+1) m' acc H5)
theorem QcQ{env:Env}:∀{names:List (Str×NameKind)}{x:Str},names.lookup x=some .free→
  (names.map λ(n,k)=>if(k == NameKind.free && env.scope.kind == .function && env.kindOf n == some .cell)then(n,NameKind.cell)else(n,k)).lookup x=some .cell∨
  (names.map λ(n,k)=>if(k == NameKind.free && env.scope.kind == .function && env.kindOf n == some .cell)then(n,NameKind.cell)else(n,k)).lookup x=some .free
 | [],_,h=>by simp at h
 | (n,k)::r,x,h=>by
  have ih:= @QcQ env r x
  rw[ZL]
  cases hx:x == n with
  | true=>
   simp only[Zv,hx]at h
   cases h
   dsimp only
   split
   ·left;simp[Zv,hx]
   ·right;simp[Zv,hx]
  | false=>
   simp only[Zv,hx]at h
   dsimp only
   split
   ·simp only[Zv,hx];exact ih h
   ·simp only[Zv,hx];exact ih h
theorem Qev{env:Env}:∀{names:List (Str×NameKind)}{x:Str},
  ((names.map λ(n,k)=>if(k == NameKind.free && env.scope.kind == .function && env.kindOf n == some .cell)then(n,NameKind.cell)else(n,k)).lookup x=some .cell∨
  (names.map λ(n,k)=>if(k == NameKind.free && env.scope.kind == .function && env.kindOf n == some .cell)then(n,NameKind.cell)else(n,k)).lookup x=some .free)→
  ∃k,(x,k)∈names/\(k= .free∨k= .cell)
 | [],_,h=>by simp at h
 | (n,k)::r,x,h=>by
  have ih:= @Qev env r x
  rw[ZL]at h
  cases hx:x == n with
  | true=>
   have hn:x=n:=by simpa using hx
   subst hn
   dsimp only at h
   split at h
   ·rename_i hc
    simp only[Zj]at hc
    refine⟨k,Zq,.inl (by simpa using hc.1.1)⟩
   ·simp only[Zv,hx]at h
    refine⟨k,Zq,?_⟩
    rcases h with h | h
    ·exact .inr (Option.some.inj h)
    ·exact .inl (Option.some.inj h)
  | false=>
   dsimp only at h
   have:∃k,(x,k)∈r/\(k= .free∨k= .cell):=by
    apply ih
    split at h
    ·simpa only[Zv,hx]using h
    ·simpa only[Zv,hx]using h
   obtain⟨k',h1,h2⟩:=this
   exact⟨k',Zg _ h1,h2⟩
theorem Qf1:∀(names:List (Str×NameKind)) (n:Nat) (acc:List (Str×Addr)) (x:Str) (c:Addr),(cellsFrom n names acc).lookup x=some c->acc.lookup x=some c∨(n<=c/\(x,NameKind.cell)∈names)
 | [],_,_,_,_,h=> .inl h
 | (nm,k)::r,n,acc,x,c,h=>by
  unfold cellsFrom at h
  split at h
  ·rename_i hk
   have hk:k= .cell:=by simpa using hk
   rcases Qf1 r (n+1) ((nm,n)::acc) x c h with h | ⟨h1,h2⟩
   ·rw[Zv]at h
    cases q:x == nm with
    | true=>
     rw[q]at h
     cases h
     have:x=nm:=by simpa using q
     exact .inr ⟨Zi _,by rw[this,hk];exact Zq⟩
    | false=>rw[q]at h;exact .inl h
   ·exact .inr ⟨by omega,Zg _ h2⟩
  ·rcases Qf1 r n acc x c h with h | ⟨h1,h2⟩
   ·exact .inl h
   ·exact .inr ⟨h1,Zg _ h2⟩
theorem QnQ:∀(names:List (Str×NameKind)) (n:Nat) (acc:List (Str×Addr)) (x:Str) (c:Addr),(x,NameKind.cell)∈names->(cellsFrom n names acc).lookup x=some c->n<=c
 | (nm,k)::r,n,acc,x,c,hm,h=>by
  unfold cellsFrom at h
  split at h
  ·by_cases hr:(x,NameKind.cell)∈r
   ·have:=QnQ r (n+1) _ x c hr h
    omega
   ·have hx:x=nm:=by
     rcases Zm.mp hm with e | e
     ·exact(Prod.mk.inj e).1
     ·exact absurd e hr
    rcases Qf1 r (n+1) ((nm,n)::acc) x c h with h | ⟨h1,_⟩
    ·rw[Zv,show(x == nm)=true by simpa using hx]at h
     cases h
     exact Zi _
    ·omega
  ·rename_i hk
   rcases Zm.mp hm with e | e
   ·exact absurd (by rw[← (Prod.mk.inj e).2];rfl) hk
   ·exact QnQ r n acc x c e h
theorem Qnd:∀(names:List (Str×NameKind)) (n:Nat) (acc:List (Str×Addr)),(∀x y c,acc.lookup x=some c->acc.lookup y=some c->x=y)->(∀x c,acc.lookup x=some c->c<n)→
  ∀x y c,(cellsFrom n names acc).lookup x=some c->(cellsFrom n names acc).lookup y=some c->x=y
 | [],_,_,hi,_,x,y,c,h1,h2=>hi x y c h1 h2
 | (nm,k)::r,n,acc,hi,hb,x,y,c,h1,h2=>by
  unfold cellsFrom at h1 h2
  split at h1
  ·rename_i hk
   rw[if_pos hk]at h2
   refine Qnd r (n+1) ((nm,n)::acc) (λx y c h1 h2=>?_) (λx c h=>?_) x y c h1 h2
   ·rw[Zv]at h1 h2
    cases qx:x == nm with
    | true=>
     rw[qx]at h1
     cases h1
     cases qy:y == nm with
     | true=>rw[show x=nm by simpa using qx,show y=nm by simpa using qy]
     | false=>rw[qy]at h2;exact absurd (hb y _ h2) (ZZ _)
    | false=>
     rw[qx]at h1
     cases qy:y == nm with
     | true=>rw[qy]at h2;cases h2;exact absurd (hb x _ h1) (ZZ _)
     | false=>rw[qy]at h2;exact hi x y c h1 h2
   ·rw[Zv]at h
    cases qx:x == nm with
    | true=>rw[qx]at h;cases h;exact Zbq _
    | false=>rw[qx]at h;exact Zbm (hb x c h)
  ·rename_i hk
   rw[if_neg hk]at h2
   exact Qnd r n acc hi hb x y c h1 h2
theorem Qf2:∀(names:List (Str×NameKind)) (n:Nat) (acc:List (Str×Addr)) (x:Str),(∃c,acc.lookup x=some c)->∃c,(cellsFrom n names acc).lookup x=some c
 | [],_,_,_,h=>h
 | (nm,k)::r,n,acc,x,h=>by
  unfold cellsFrom
  split
  ·refine Qf2 r (n+1) _ x ?_
   rw[Zv]
   cases x == nm with
   | true=>exact⟨n,rfl⟩
   | false=>exact h
  ·exact Qf2 r n acc x h
theorem Qmr:∀(names:List (Str×NameKind)) (n:Nat) (acc:List (Str×Addr)) (x:Str),(x,NameKind.cell)∈names->∃c,(cellsFrom n names acc).lookup x=some c
 | (nm,k)::r,n,acc,x,hm=>by
  unfold cellsFrom
  rcases Zm.mp hm with e | e
  ·obtain⟨e1,e2⟩:=Prod.mk.inj e
   subst e1
   rw[← e2,if_pos (by rfl)]
   exact Qf2 r (n+1) _ x ⟨n,by simp[Zv]⟩
  ·split
   ·exact Qmr r (n+1) _ x e
   ·exact Qmr r n acc x e
theorem Qkx(lo:Nat):∀(names:List (Str×NameKind)) (h:Heap) (acc:List (Str×Addr)),(∀x c,acc.lookup x=some c->lo<=c->h.IsCell c none)->lo<=h.objs.size→
  ∀x c,(cellsFrom h.objs.size names acc).lookup x=some c->lo<=c->(pushCells h names).IsCell c none
 | [],_,_,ha,_,x,c,e,hl=>ha x c e hl
 | (nm,k)::r,h,acc,ha,hlo,x,c,e,hl=>by
  unfold cellsFrom at e
  unfold pushCells
  split at e
  ·rename_i hk
   rw[if_pos hk]
   have hs:=ZaV h {cls:= .type "cell",data:= .cell none}
   refine Qkx lo r (h.push {cls:= .type "cell",data:= .cell none}) ((nm,h.objs.size)::acc) (λx c e hl=>?_) (by rw[hs];omega) x c (by rw[hs];exact e) hl
   rw[Zv]at e
   cases q:x == nm with
   | true=>rw[q]at e;cases e;exact⟨_,ZN _ rfl,rfl⟩
   | false=>rw[q]at e;exact(ha x c e hl).keeps λb o e=>Zn _ e
  ·rename_i hk
   rw[if_neg hk]
   exact Qkx lo r h acc ha hlo x c e hl
theorem Qpy{M:Model}{A:Around}{E:Value->Shared->Prop}{s:Shared}{scope:Scope}{globals builtins:Addr}{cl:List (Str×Addr)}{qual:Str}{env:Env}{Q:Env->Shared->Prop}
  (hQ:∀h':Heap,h'.Ns s.heap.objs.size (λ_=>none)->(∀b o,s.heap.get? b=some o->h'.get? b=some o)->((∀x c,cl.lookup x=some c->c<s.heap.objs.size)->∀x c,(cellsFrom (s.heap.objs.size+1) scope.names cl).lookup x=some c->s.heap.objs.size+1<=c->h'.IsCell c none)→
   Q (newEnv scope s.heap.objs.size globals (cellsFrom (s.heap.objs.size+1) scope.names cl) qual none .none (some env) builtins) {s with heap:=h'}):
  wpAny M A (newFunctionEnv scope globals cl [] qual none .none (some env) builtins) Q E s:=by
 simp only[newFunctionEnv,Option.isSome_some,if_true]
 refine wpAny_bind (wpAny_alloc ?_)
 refine wpAny_bind (wpAny_layCells _ (λname kind cells=>by cases hkc:kind == NameKind.cell<;>simp[hkc]) _ _ _ _ ?_)
 have hs:=ZaV s.heap {cls:= .type "dict",data:= .dict #[]}
 rw[show({s with heap:=s.heap.push {cls:= .type "dict",data:= .dict #[]}}:Shared).heap.objs.size=s.heap.objs.size+1 from hs]
 refine wpAny_bind (wpAny_pure (wpAny_pure ?_))
 refine hQ _ ((Heap.Ns.new s.heap (.type "dict")).keeps (pushCells_keeps _ _)) (λb o e=>pushCells_keeps _ _ b o (Zn _ e)) λhb x c e hl=>?_
 refine Qkx (s.heap.objs.size+1) scope.names (s.heap.push {cls:= .type "dict",data:= .dict #[]}) cl (λx c e hl=>?_) (by rw[hs];exact Zi _) x c (by rw[hs];exact e) hl
 exact absurd (Zp (hb x c e) (Zk (Zbh _) hl)) (ZZ _)
section
variable {X:Cx}{tg iter elt:Expr}{ifs:List Expr}{scope:Scope}{N':List Str}{pos:Pos}
structure Qez (X:Cx) (N':List Str) (scope:Scope):Prop where
 kind:scope.kind= .function
 own:∀y∈scope.names,y.2= .cell->scope.names.lookup y.1=some .cell
 loc:∀y∈scope.names,y.2= .local ->scope.names.lookup y.1=some .local
 free:∀y∈scope.names,y.2= .free->X.env.kindOf y.1=some .cell∨X.env.kindOf y.1=some .free
theorem QtM{pins:List (Addr×Obj)}{σ σc:St}{H3:Hp}{s3:Shared}{fp:List Addr}{cl:List (Str×Addr)}{h':Heap}{tk:Nat}(S:Qez X N' scope)(I:Inv X pins σ H3 s3)
  (hf:∀b∈fp,Qeq X pins H3 b) (hfl:∀b∈fp,b<s3.heap.objs.size) (hc1:∀x c,cl.lookup x=some c->X.env.cells.lookup x=some c) (hc2:∀y∈scope.names,y.2= .free->∃c,cl.lookup y.1=some c) (cap:QjD X N' scope σ σc)
  (hns:h'.Ns s3.heap.objs.size (λ_=>none)) (hk:∀b o,s3.heap.get? b=some o->h'.get? b=some o)
  (hown:(∀x c,cl.lookup x=some c->c<s3.heap.objs.size)->∀x c,(cellsFrom (s3.heap.objs.size+1) scope.names cl).lookup x=some c->s3.heap.objs.size+1<=c->h'.IsCell c none):
  Inv (cxc X N' scope (cellsFrom (s3.heap.objs.size+1) scope.names cl) s3.heap.objs.size fp s3 H3) [] σc H3 {s3 with heap:=h',toks:=tk}:=by
 have nold:∀b,b∈fp->b≠s3.heap.objs.size:=λb hb e=>absurd (hfl b hb) (by rw[e];exact ZZ _)
 have cellOld:∀x c,cl.lookup x=some c->∃v,s3.heap.IsCell c v:=λx c e=>I.cell x c (hc1 x c e)
 have cellLt:∀x c,cl.lookup x=some c->c<s3.heap.objs.size:=λx c e=>let ⟨v,q⟩:=cellOld x c e;q.lt
 have cellNew:∀c v,s3.heap.IsCell c v->h'.IsCell c v:=λc v ⟨o,ho,hd⟩=>⟨o,hk c o ho,hd⟩
 have hown:=hown cellLt
 have look:∀x c,(cellsFrom (s3.heap.objs.size+1) scope.names cl).lookup x=some c->cl.lookup x=some c∨(s3.heap.objs.size+1<=c/\(x,NameKind.cell)∈scope.names):=Qf1 scope.names _ cl
 refine⟨⟨I.ok.mod,S.kind,I.ok.glob,I.ok.blt,Zi _,Qnd scope.names _ cl (λx y c h1 h2=>I.ok.inj x y c (hc1 x c h1) (hc1 y c h2)) (λx c e=>Zbm (cellLt x c e)),λx hx=>?_,λx c e1 e2=>?_,I.ok.hd,I.ok.frames,.inl rfl,λb hb=>⟨nold b hb,λx c e=>?_⟩,
  I.bs,Zk I.ok.bsz I.sz,λb o e hb=>?_,λb hb hs=>?_,I.stack,I.Qox⟩,rfl,I.bare,Un.kept hk,⟨_,hns,λj x v h1 h2 h3=>?_⟩,λx c e=>?_,I.hok.fresh (Zi _),λx c e=>?_,λp hp=>absurd (show p∈([]:List (Addr×Obj))from hp) (by simp),I.hok.kept hk,cap.1⟩
 ·obtain⟨k,hm,hk'⟩:=Qev hx
  rcases hk' with rfl | rfl
  ·exact Qf2 scope.names _ cl x (hc2 _ hm rfl)
  ·exact Qmr scope.names _ cl x hm
 ·have e1:decide (scope.names.lookup x=some .cell)=true:=e1
  have:=QnQ scope.names _ cl x c (Zad (of_decide_eq_true e1)) e2
  exact Zk (Zbh _) this
 ·rcases look x c e with e | ⟨e,_⟩
  ·exact(hf b hb).2.2.2.2.1 x c (hc1 x c e)
  ·intro z
   rw[z]at e
   exact absurd (Zp (hfl b hb) (Zk (Zbh _) e)) (ZZ _)
 ·rcases(hf b hb).2.2.2.1 with z | z
  ·exact I.ok.noex b o e z
  ·exact absurd (Zp (Zy e) (Zk I.ok.bsz z)) (ZZ _)
 ·rcases Zm.mp (I.QjO b hs)with e | z
  ·exact(hf b hb).2.1 e
  ·exact(hf b hb).2.2.1 z
 ·obtain⟨hl,i,e1,e2,e3⟩:=cap.2 j x v h1 h2
  obtain⟨m,hn,look'⟩:=I.loc
  obtain⟨u,r,l⟩:=look' i x v e1 e2 (e3.elim (λz=> .inr (.inl z)) λz=> .inr (.inr z))
  refine⟨u,r,.inr ⟨QcQ hl,?_⟩⟩
  rcases l with⟨k,_⟩ | ⟨_,c,ec,hcell⟩
  ·rcases e3 with z | z<;>(rw[k]at z;cases z)
  ·obtain⟨c',ec'⟩:=Qf2 scope.names (s3.heap.objs.size+1) cl x (hc2 (x,.free) (Zad hl) rfl)
   rcases look x c' ec' with q | ⟨_,q⟩
   ·have:=hc1 x c' q
    rw[ec]at this;cases this
    exact⟨c,ec',cellNew c _ hcell⟩
   ·have:=S.own _ q rfl
    rw[hl]at this
    cases this
 ·rcases look x c e with q | ⟨q,_⟩
  ·obtain⟨v,q⟩:=cellOld x c q
   exact⟨v,cellNew c v q⟩
  ·exact⟨none,hown x c e q⟩
 ·rcases look x c e with q | ⟨q,_⟩
  ·exact I.freeC x c (hc1 x c q)
  ·exact I.hok.fresh (by omega)
theorem QqO{prog:Program}{w:World}{A:Around}{env:Env}{it acc:Value}{R:Result->Shared->Prop}{s0:Shared}(J:Nat->Shared->Prop)
  (turn:∀n s,J n s->wpAny (model prog w) A (pyNext it) (λr s1=>match r with
   | none=>R (.ok .next) s1
   | some v=>wpAny (model prog w) A (letOwnedTupleGo tg it v) (λ_ s2=>wpAny (model prog w) A (assign tg env v) (λ_ s3=>
     wpAny (model prog w) A (forIn ifs true λc r=>if r=true then do let ok ← isTrue c env (eval c env);pure (ForInStep.yield ok)else pure (ForInStep.yield r)) (λok s4=>
      if ok=true then wpAny (model prog w) A (eval elt env) (λx s5=>wpAny (model prog w) A (call (.builtin "list.append") [acc,x]) (λ_ s6=>∃m,m<n/\J m s6) (λ_ _=>False) s5) (λ_ _=>False) s4
      else ∃m,m<n/\J m s4) (λ_ _=>False) s3) (λ_ _=>False) s2) (λ_ _=>False) s1) (λ_ _=>False) s)
  (n:Nat) (h:J n s0):codeAny (model prog w) A (.compLoop (.ListComp elt [⟨tg,iter,ifs,0⟩] scope pos) 0 it acc env) R s0:=by
 have up:∀{α:Type}{t:Sem α}{Q:α->Shared->Prop}{E:Value->Shared->Prop}{s:Shared},wpAny (model prog w) A t Q (λ_ _=>False) s->wpAny (model prog w) A t Q E s:=λh=>wpAny_mono h (λ_ _ q=>q) λ_ _ f=>f.elim
 refine codeAny_loop (by rfl) J (λk sk hk=>?_) n h
 show wpAny (model prog w) A ((compTurn (.ListComp elt [⟨tg,iter,ifs,0⟩] scope pos) 0 it acc env).onRaise (λx=>do noteFrame x env;theTreesLotGoes x)) _ _ sk
 refine wpAny_noted (up ?_)
 rw[compTurn_list]
 refine wpAny_bind (wpAny_standAt (wpAny_bind (thn (turn k sk hk) λr s1 h1=>?_)))
 cases r with
 | none=>exact wpAny_pure h1
 | some v=>
  refine wpAny_bind (thn h1 λ_ s2 h2=>wpAny_bind (thn h2 λ_ s3 h3=>wpAny_bind (thn h3 λok s4 h4=>?_)))
  cases ok with
  | false=>exact wpAny_pure ⟨rfl,h4⟩
  | true=>exact wpAny_bind (wpAny_bind (thn h4 λx s5 h5=>wpAny_bind (thn h5 λ_ s6 h6=>wpAny_pure (wpAny_pure ⟨rfl,h6⟩))))
theorem Qth{it D C:Addr}{fp:List Addr}{tn:Nat->Heap->Prop}{J:It}{cl:List (Str×Addr)}{s3 s4:Shared}{H3:Hp}{σc:St}{g:TG}{tc:TT}{te:TE}{Q:Hp->Prop}(hcalm:X.calm=true)
  (T:Turn X.prog X.w X.K tg J fp it tn)
  (hg:PG (cxc X N' scope cl C fp s3 H3) tg g) (ht:PTs (cxc X N' scope cl C fp s3 H3) ifs tc) (he:PE (cxc X N' scope cl C fp s3 H3) elt te)
  (I:Inv (cxc X N' scope cl C fp s3 H3) [] σc H3 s4) (st:tn 0 s4.heap) (ff:∀b∈fp,Qeq (cxc X N' scope cl C fp s3 H3) [] H3 b)
  (W:Nat->Nat->List V->Hp->Prop) (hw:∃m,W 0 m [] H3)
  (turn:∀i m acc H2,W i m acc H2->(J.stop i H2/\Q H2)∨
   (J.go i H2/\∀x H5,J.yld i H2 x H5->g x σc H5 λσ2 H6=>(∀(j:Nat) v,σc[j]? =some (some v)->σ2[j]? =some (some v))/\tc σ2 H6 λb H7=>if b=true then
    te σ2 H7 λy H8=>H8 D=some (.lst acc)/\acc.length<sizeLine/\∃m',m'<m/\W (i+1) m' (acc++[y]) (upd H8 D (.lst (acc++[y])))
    else ∃m',m'<m/\W (i+1) m' acc H7))
  {R:Result->Shared->Prop}(hR:∀H' s',Inv (cxc X N' scope cl C fp s3 H3) [] σc H' s'->Q H'->R (.ok .next) s'):
  codeAny (model X.prog X.w) X.A (.compStart (.ListComp elt [⟨tg,iter,ifs,0⟩] scope pos) 0 (.ref it) (.ref D) (compEnvC scope cl C X.env)) R s4:=by
 obtain⟨m0,w0⟩:=hw
 have stat:∀{H':Hp},(∀b∈fp,H' b=none)->∀b∈fp,Qeq (cxc X N' scope cl C fp s3 H3) [] H' b:=λhn b hb=>⟨hn b hb,(ff b hb).2⟩
 have loop:codeAny (model X.prog X.w) X.A (.compLoop (.ListComp elt [⟨tg,iter,ifs,0⟩] scope pos) 0 (.ref it) (.ref D) (compEnvC scope cl C X.env)) R s4:=by
  refine QqO (λn s'=>∃i acc H',Inv (cxc X N' scope cl C fp s3 H3) [] σc H' s'/\tn i s'.heap/\(∀b∈fp,H' b=none)/\W i n acc H') ?_ m0 ⟨0,[],H3,I,st,λb hb=>(ff b hb).1,w0⟩
  rintro n s5 ⟨i,acc,H5,I5,st5,fr5,w5⟩
  rcases turn i n acc H5 w5 with⟨stop,q⟩ | ⟨go,step⟩
  ·refine thn (T.done (cxc X N' scope cl C fp s3 H3) rfl rfl rfl hcalm i [] s5 σc H5 _ I5 (stat fr5) st5 stop) λr s6 ⟨hr,I6⟩=>?_
   subst hr
   exact hR H5 s6 I6 q
  ·refine thn (T.item (cxc X N' scope cl C fp s3 H3) rfl rfl rfl hcalm i [] s5 σc H5 _ I5 (stat fr5) st5 go) λr s6 ⟨u,hr,h6⟩=>?_
   subst hr
   refine thn h6 λ_ s7 ⟨x,H7,I7,r7,y7,st7,fr7⟩=>?_
   have I7':=I7.pinned (stat fr7) (T.obj _ _ st7)
   refine thn (hg _ s7 σc H7 x u _ I7' r7 (step x H7 y7)) λ_ s8 ⟨σ8,H8,I8,k8,q8⟩=>?_
   refine thn (ht _ s8 σ8 H8 _ I8 q8) λok s9 ⟨H9,I9,q9⟩=>?_
   have again:∀{H':Hp}{s':Shared}{acc':List V},Inv (cxc X N' scope cl C fp s3 H3) ([]++Qhk fp s7.heap) σ8 H' s'->(∃m',m'<n/\W (i+1) m' acc' H')→
     ∃m,m<n/\∃i acc H',Inv (cxc X N' scope cl C fp s3 H3) [] σc H' s'/\tn i s'.heap/\(∀b∈fp,H' b=none)/\W i m acc H':=λ{H' s' acc'} I' ⟨m',hm,w'⟩=>by
    have pin:∀b∈fp,∀o,s7.heap.get? b=some o->s'.heap.get? b=some o/\H' b=none:=λb hb o e=>by
     have z:=I'.pin (b,o) (Zc _ (Zc _ (QgA hb e)))
     exact⟨z.1,z.2.1⟩
    refine⟨m',hm,i+1,acc',H',?_,T.keep _ _ _ st7 λb hb o e=>(pin b hb o e).1,λb hb=>?_,w'⟩
    ·exact I'.QgF.weak (I.len.trans I8.len.symm) k8
    ·obtain⟨o,e,_⟩:=T.obj _ _ st7 b hb
     exact(pin b hb o e).2
   cases ok with
   | false=>
    rw[if_neg Zao]at q9 ⊢
    exact again I9 q9
   | true=>
    rw[if_pos rfl]at q9 ⊢
    refine thn (he _ s9 σ8 H9 _ I9 q9) λyv s10 ⟨y,H10,I10,r10,e10,l10,q10⟩=>?_
    refine thn (Qlo _ s10 σ8 H10 (.ref D) [y] (.ref D) [yv] (λv H11=>H11=upd H10 D (.lst (acc++[y]))) I10 rfl (.cons r10 .nil) ⟨D,acc,y,rfl,rfl,e10,l10,rfl⟩) λ_ s11 ⟨_,H11,I11,_,e11⟩=>?_
    subst e11
    exact again I11 q10
 exact codeAny_compStart_list loop (T.self _ 0 _ _ _ st loop)
theorem QmN{wi:TI}{g:TG}{tc:TT}{te:TE}{cp:Pos}{use:Option (Value->Sem Unit)}{pins:List (Addr×Obj)}{s:Shared}{σ:St}{H:Hp}{QV:Value->Shared->Prop}{Q:VK}(hcalm:X.calm=true)(S:Qez X N' scope)(hi:PI X tg iter wi)
  (hin:∀cl C fp s3 H3,PG (cxc X N' scope cl C fp s3 H3) tg g/\PTs (cxc X N' scope cl C fp s3 H3) ifs tc/\PE (cxc X N' scope cl C fp s3 H3) elt te)
  (hs:∀x,foldedSetIterable iter X.env x=pure x) (I:Inv X pins σ H s) (h:Ql6 wi (QjD X N' scope) g tc te σ H Q)
  (fin:∀(D C:Addr) (H':Hp) (s':Shared),Inv X pins σ H' s'->H' C=none->C≠X.env.locals->X.s₀.heap.objs.size<=C->(∀x c,X.env.cells.lookup x=some c->c≠C)->(∀p∈X.pn++pins,p.1≠C)->(∃m,s'.heap.Ns C m)->Q (.ref D) H'→
   compPost (model X.prog X.w) X.A X.xe use QV (.ref D) C (.ok .next) s'):
  wpAny (model X.prog X.w) X.A (comprehension (.ListComp elt [⟨tg,iter,ifs,0⟩] scope pos) scope X.env cp (newList []) false (eval iter X.env) use) QV X.xe s:=by
 obtain⟨cl,hcl,hc1,hc2⟩:=Qux λy hy hf=>I.ok.has y.1 (S.free y hy hf)
 refine wpAny_comprehension_free rfl hs hcl S.kind S.loc ?_
 refine thn (hi pins s σ H _ I h) λv s1 h1=>thn h1 λitv s2 h2=>?_
 obtain⟨it,fp,tn,J,H2,e,I2,T,st2,f2,σc,cap,hw⟩:=h2
 subst e
 have hD0:H2 s2.heap.objs.size=none:=I2.hok.fresh (Zi _)
 obtain⟨W,hW0,turn⟩:=hw _ hD0
 have fpl:∀b∈fp,b<s2.heap.objs.size:=λb hb=>let ⟨o,e,_⟩:=T.obj _ _ st2 b hb;Zy e
 have hlist:∀D:Addr,D=s2.heap.objs.size->∃x,x=D:=λD _=>⟨D,rfl⟩
 refine wpAny_newObj_type ?_
 have I3:Inv X pins σ (upd H2 s2.heap.objs.size (.lst [])) {s2 with heap:=s2.heap.push {cls:= .type "list",dict:=none,data:= .seq ([]:List Value).toArray}}:=
  I2.laid (t':=s2.toks) (λb o e=>Zn _ e) (Zi _) ⟨ZS _,[],0,.nil,ZN _ rfl⟩
 generalize hs3:({s2 with heap:=s2.heap.push {cls:= .type "list",dict:=none,data:= .seq ([]:List Value).toArray}}:Shared)=s3 at I3
 have hs3':s3.heap=s2.heap.push {cls:= .type "list",dict:=none,data:= .seq ([]:List Value).toArray}:=by rw[← hs3]
 have sz3:s3.heap.objs.size=s2.heap.objs.size+1:=by rw[hs3',ZaV]
 have old3:∀b o,s2.heap.get? b=some o->s3.heap.get? b=some o:=λb o e=>by rw[hs3'];exact Zn _ e
 have f3:∀b∈fp,Qeq X pins (upd H2 s2.heap.objs.size (.lst [])) b:=λb hb=>⟨by rw[QQ (ZU (fpl b hb))];exact(f2 b hb).1,(f2 b hb).2⟩
 have fpl3:∀b∈fp,b<s3.heap.objs.size:=λb hb=>by rw[sz3];exact Zbm (fpl b hb)
 refine Qpy (λh4 hns4' keep4 hown4=>?_)
 have I4:=QtM (tk:=s3.toks) S I3 f3 fpl3 hc1 hc2 cap hns4' keep4 hown4
 have hout:∀H' s',Inv (cxc X N' scope (cellsFrom (s3.heap.objs.size+1) scope.names cl) s3.heap.objs.size fp s3 (upd H2 s2.heap.objs.size (.lst []))) [] σc H' s'->Inv X pins σ H' s':=λH' s' J'=>
  I3.Qx1 J'.os J'.base J'.hok J'.bare λb hb=>⟨(f3 b hb).2.2.2.1,(f3 b hb).2.1,(f3 b hb).2.2.2.2.1,(f3 b hb).2.2.2.2.2⟩
 obtain⟨hg,ht,he⟩:=hin (cellsFrom (s3.heap.objs.size+1) scope.names cl) s3.heap.objs.size fp s3 (upd H2 s2.heap.objs.size (.lst []))
 have fc:∀b∈fp,Qeq (cxc X N' scope (cellsFrom (s3.heap.objs.size+1) scope.names cl) s3.heap.objs.size fp s3 (upd H2 s2.heap.objs.size (.lst []))) [] (upd H2 s2.heap.objs.size (.lst [])) b:=λb hb=>
  ⟨(f3 b hb).1,ZU (fpl3 b hb),λhs'=>(Zm.mp (I3.QjO b hs')).elim (f3 b hb).2.1 (f3 b hb).2.2.1,.inl hb,λx c e=>(by
   rcases Qf1 scope.names _ cl x c e with e | ⟨e,_⟩
   ·exact(f3 b hb).2.2.2.2.1 x c (hc1 x c e)
   ·intro z
    rw[z]at e
    exact absurd (Zp (fpl3 b hb) (Zk (Zbh _) e)) (ZZ _)),λp hp=>absurd (show p∈([]:List (Addr×Obj))from hp) (by simp)⟩
 have hC1:s3.heap.objs.size≠X.env.locals:=Ne.symm (ZU I3.lt)
 refine Qth (W:=W) hcalm T hg ht he I4 (T.keep _ _ _ st2 λb hb o e=>keep4 b o (old3 b o e)) fc hW0 turn λH' s' J' q=>?_
 have O:=hout H' s' J'
 refine fin _ _ H' s' O J'.free hC1 (Zk I3.sz (Zi _)) (λx c e z=>?_) (λp hp z=>?_) (let ⟨m,hn,_⟩:=J'.loc;⟨m,hn⟩) q
 ·obtain⟨v,o,ho,_⟩:=I3.cell x c e
  exact absurd (Zy ho) (by rw[z];exact ZZ _)
 ·exact absurd (Zy (I3.pin p hp).1) (by rw[z];exact ZZ _)
theorem Inv.QtZ{pins:List (Addr×Obj)}{σ:St}{H:Hp}{s:Shared}{C:Addr}{h':Heap}(I:Inv X pins σ H s)(hs:Heap.SameBut C s.heap h')(hn:H C=none)(hL:C≠X.env.locals)(h1:X.s₀.heap.objs.size<=C)
  (h2:∀x c,X.env.cells.lookup x=some c->c≠C) (h3:∀p∈X.pn++pins,p.1≠C):Inv X pins σ H {s with heap:=h'}:=
 I.turned (t':=s.toks) (λb o hb e=>(hs.2 b hb).trans e) hn hL (.inr h1) h2 h3
theorem Qo1{wi:TI}{g:TG}{tc:TT}{te:TE}(hcalm:X.calm=true)(S:Qez X N' scope)(hi:PI X tg iter wi)
  (hin:∀cl C fp s3 H3,PG (cxc X N' scope cl C fp s3 H3) tg g/\PTs (cxc X N' scope cl C fp s3 H3) ifs tc/\PE (cxc X N' scope cl C fp s3 H3) elt te)
  (hs:∀x,foldedSetIterable iter X.env x=pure x:=by intro _;rfl):PE X (.ListComp elt [⟨tg,iter,ifs,0⟩] scope pos) (Ql6 wi (QjD X N' scope) g tc te):=by
 intro pins s σ H Q I h
 rw[eval_ListComp]
 refine QmN hcalm S hi hin hs I h λD C H' s' O h1 h2 h3 h4 h5 ⟨m,hm⟩ q=>?_
 exact⟨m,hm,λh' hs'=>⟨.ref D,H',O.QtZ hs' h1 h2 h3 h4 h5,rfl,q⟩⟩
theorem Qvh{wi:TI}{g:TG}{tc:TT}{te:TE}{i:Nat}{x:Str}{pos' spos:Pos}(hN:X.N.Nodup)(hx1:X.N[i]? =some x)(hx:Loc X.env.scope x)(hf:X.fn x=true∨X.env.scope.names.lookup x=some .local)(hcalm:X.calm=true)(S:Qez X N' scope)(hi:PI X tg iter wi)
  (hin:∀cl C fp s3 H3,PG (cxc X N' scope cl C fp s3 H3) tg g/\PTs (cxc X N' scope cl C fp s3 H3) ifs tc/\PE (cxc X N' scope cl C fp s3 H3) elt te)
  (hs:∀x,foldedSetIterable iter X.env x=pure x:=by intro _;rfl):
  PS X (.Assign [.Name x pos'] (.ListComp elt [⟨tg,iter,ifs,0⟩] scope pos) spos) (QcW (Ql6 wi (QjD X N' scope) g tc te) (Qdu i)):=by
 have hb:∃b,swapsWith (.ListComp elt [⟨tg,iter,ifs,0⟩] scope pos) (some (.Name x pos')) spos.line X.env=pure b:=⟨_,rfl⟩
 obtain⟨b,hb⟩:=hb
 cases b with
 | false=>exact QeA hN hx1 hx (Qo1 hcalm S hi hin hs) hb hf
 | true=>
  intro pins s σ H D I h
  rw[exec_Assign_Name_used _ _ _ _ hb]
  refine wpAny_bind (wpAny_standAt (wpAny_bind ?_))
  show wpAny _ X.A (do let _ ← comprehension (.ListComp elt [⟨tg,iter,ifs,0⟩] scope pos) scope X.env _ (newList []) false (eval iter X.env) (some (assign (.Name x pos') X.env))) _ _ s
  refine wpAny_bind (thn (QmN hcalm S hi hin hs I h λDl C H' s' O h1 h2 h3 h4 h5 ⟨m,hm⟩ q=>?_) λ_ s' hq=>wpAny_pure (wpAny_pure hq))
  refine wpAny_assign_Name (Qlm O hN hx1 hx (v:= .ref Dl) rfl (λs2 I2 hsb=>?_) hf)
  obtain⟨a,sb,ha⟩:=hsb
  have haC:C≠a:=by
   rcases ha with rfl | ha
   ·exact h2
   ·exact Ne.symm (h4 _ _ ha)
  exact⟨m,hm.sameBut sb haC,λh' hs'=>⟨_,H',I2.QtZ hs' h1 h2 h3 h4 h5,q⟩⟩
end
end L2
namespace L2
open PySem PySem.Spec PyProof.Rows
section
variable {X:Cx}{pins:List (Addr×Obj)}{σ:St}{H H':Hp}{s:Shared}{h':Heap}
theorem Inv.Qda{t':Nat}{ch:List Addr}{T:Addr}{ts:List V}(I:Inv X pins σ H s)(hf:∀b∈ch,Qeq X pins H b)(k:∀b o,b∉ch->s.heap.get? b=some o->h'.get? b=some o)(hp:∀b∈ch,∃o,h'.get? b=some o)
  (hT:s.heap.objs.size<=T) (hnew:ts.length<=sizeLine/\∃its:List Value,QD ts its/\IsTup h' T its.toArray):Inv X pins σ (upd H T (.tup ts)) {s with heap:=h',toks:=t'}:=by
 have hn:H T=none:=I.hok.fresh hT
 have neT:∀b u,H b=some u->b≠T:=λb u e=>QbN e hn
 have nch:∀b u,H b=some u->b∉ch:=λb u e hb=>by rw[(hf b hb).1]at e;cases e
 have ltT:∀b o,s.heap.get? b=some o->b≠T:=λb o e=>ZU (Zp (Zy e) hT)
 refine I.step (g':=s.gens) (d':=s.drawn) (ch:=ch) (λb hb=>?_) (λb o _ _ hc e _=>k b o hc e) (λb o _ _ hc e _=>⟨o.slots,k b o hc e⟩) (λb o _ e n=>by rw[QQ (ltT b o e)];exact n)
  (λb o hc e=>⟨o,k b o hc e⟩) (λb xs e=>by rw[QQ (neT b _ e)];exact e) (λb o u e=>by rw[QQ (neT b _ e)];exact e) (λb ps e=>⟨#[],by rw[QQ (neT b _ e),e];simp⟩) (λm hm=>?_) (λb u e=>?_) I.bare
 ·obtain⟨f0,f1,f2,f3,f4,f5⟩:=hf b hb
  exact⟨f3,f1,f4,f5⟩
 ·obtain⟨o,es,ep,ho,r⟩:=hm
  exact⟨o,es,ep,k _ o (λz=>(hf _ z).2.1 rfl) ho,r⟩
 ·by_cases hb:b=T
  ·subst hb
   rw[Qai]at e
   cases e
   exact hnew
  ·rw[QQ hb]at e
   refine(I.hok b u e).Qi2 (λc v hc q=>k c v ?_ q) (λc q=>by rw[QQ (neT c _ q)];exact q) λc xs q=>by rw[QQ (neT c _ q)];exact q
   rcases hc with z | z
   ·rw[z];exact nch b u e
   ·exact nch c _ z
theorem Inv.turns{t':Nat}{ch:List Addr}(I:Inv X pins σ H s)(hf:∀b∈ch,Qeq X pins H b)(k:∀b o,b∉ch->s.heap.get? b=some o->h'.get? b=some o):Inv X pins σ H {s with heap:=h',toks:=t'}:=by
 have nch:∀b u,H b=some u->b∉ch:=λb u e hb=>by rw[(hf b hb).1]at e;cases e
 refine I.step (g':=s.gens) (d':=s.drawn) (ch:=ch) (λb hb=>?_) (λb o _ _ hc e _=>k b o hc e) (λb o _ _ hc e _=>⟨o.slots,k b o hc e⟩) (λb o _ e n=>n)
  (λb o hc e=>⟨o,k b o hc e⟩) (λb xs e=>e) (λb o u e=>e) (λb ps e=>⟨#[],by rw[e];simp⟩) (λm hm=>?_) (λb u e=>?_) I.bare
 ·obtain⟨f0,f1,f2,f3,f4,f5⟩:=hf b hb
  exact⟨f3,f1,f4,f5⟩
 ·obtain⟨o,es,ep,ho,r⟩:=hm
  exact⟨o,es,ep,k _ o (λz=>(hf _ z).2.1 rfl) ho,r⟩
 ·refine(I.hok b u e).Qi2 (λc v hc q=>k c v ?_ q) (λc q=>q) λc xs q=>q
  rcases hc with z | z
  ·rw[z];exact nch b u e
  ·exact nch c _ z
end
noncomputable def Ite(K:PySem.W.Frag)(a:Addr):It:=
 ⟨λi H=>∃xs x,SqL K H a xs/\xs[i]? =some x,λi H v H'=>∃p x,v= .ref p/\H p=none/\H'=upd H p (.tup [.int i,x])/\∀xs,SqL K H a xs->xs[i]? =some x,λi H=>∃xs,SqL K H a xs/\xs.length<=i⟩
theorem Qqo{P:Program}{w:World}{K:PySem.W.Frag}{es:List Expr}{tk:Nat}{tpos:Pos}(a e it:Addr)(hne:e≠it):Turn P w K (.Tuple es tk tpos) (Ite K a) [e,it] e (λi h=>∃old,IsEnum h e it (i:Int) old/\h.IsListIter it a i) where
 mem:=by simp
 obj:=λi h st b hb=>by
  obtain⟨old,he,o,ho,hc,hd⟩:=st
  have hb:b=e∨b=it:=by simpa using hb
  rcases hb with rfl | rfl
  ·exact⟨_,he,λv z=>by cases z⟩
  ·exact⟨o,ho,λv z=>by rw[hd]at z;cases z⟩
 keep:=λi h h' st k=>by
  obtain⟨old,he,hi⟩:=st
  exact⟨old,k e (by simp) _ he,hi.at λo q=>k it (by simp) o q⟩
 item:=by
  intro X hP hw hK hc i pins s σ H E I hf st hg
  subst hP hw hK
  obtain⟨old,he,hi⟩:=st
  obtain⟨xs,x,hq,hx⟩:=hg
  obtain⟨its,rv,p,hz⟩:=I.list hq
  obtain⟨u,hu,ru⟩:=rv.get hx
  refine wpAny_pyNext_enum_item he hi p.isList (x:=u) (by simpa using hu) hne λh1 heo hi1 ht1 hz1 hk1=>?_
  refine⟨.ref s.heap.objs.size,rfl,wpAny_letOwnedTupleGo_enum heo λh2 he2 hs2=>?_⟩
  replace hs2:Heap.SameBut e h1 h2:=hs2
  have helt:e<s.heap.objs.size:=Zy he
  have hilt:it<s.heap.objs.size:=by obtain⟨o,ho,_⟩:=hi;exact Zy ho
  have ht2:IsTup h2 s.heap.objs.size [Value.int i s.toks,u].toArray:=⟨_,(hs2.2 _ (Nat.ne_of_gt helt)).trans ht1,rfl,_,rfl⟩
  have hi2:h2.IsListIter it a (i+1):=hi1.extBut hs2.extBut (Ne.symm hne)
  have kk:∀b o,b∉[e,it]->s.heap.get? b=some o->h2.get? b=some o:=λb o hb q=>by
   have h1:b≠e:=λz=>hb (by simp[z])
   have h2:b≠it:=λz=>hb (by simp[z])
   exact hs2.extBut b o h1 (hk1 b o h1 h2 q)
  refine⟨.ref s.heap.objs.size,upd H s.heap.objs.size (.tup [.int i,x]),I.Qda (t':=s.toks+1) hf kk (λb hb=>?_) (Zi _) ⟨by show 2<=sizeLine;decide,_,.cons ⟨_,rfl⟩ (.cons ru .nil),ht2⟩,rfl,
   ⟨_,x,rfl,I.hok.fresh (Zi _),rfl,λys hy=>by rw[I.QgG hy hq];exact hx⟩,⟨u,?_,hi2⟩,λb hb=>?_⟩
  ·have hb:b=e∨b=it:=by simpa using hb
   rcases hb with rfl | rfl
   ·exact⟨_,he2⟩
   ·obtain⟨o,ho,_⟩:=hi2;exact⟨o,ho⟩
  ·have:((i+1:Nat):Int)=(i:Int)+1:=by push_cast;rfl
   rw[this];exact he2
  ·have hb':b=e∨b=it:=by simpa using hb
   have:b≠s.heap.objs.size:=by
    rcases hb' with rfl | rfl
    ·exact ZU helt
    ·exact ZU hilt
   rw[QQ this];exact(hf b hb).1
 done:=by
  intro X hP hw hK hc i pins s σ H E I hf st hg
  subst hP hw hK
  obtain⟨old,he,hi⟩:=st
  obtain⟨xs,hq,hx⟩:=hg
  obtain⟨its,rv,p,hz⟩:=I.list hq
  have hl:=rv.length
  refine wpAny_pyNext_enum_end (I.ok.hd hc) he hi p.isList (by simp;omega) λh1 eb=>⟨rfl,?_⟩
  exact I.turns (t':=s.toks) hf λb o hb q=>eb b o (λz=>hb (by simp[z])) q
 self:=λ_ _ _ _ _ st h=>by
  obtain⟨old,he,hi⟩:=st
  exact wpAny_pyIter_enum he h
section
variable {X:Cx}
noncomputable def QxB(K:PySem.W.Frag)(ta:TA):TI:=λσ H R=>ta σ H λvs H1=>∃a,vs=[.ref a]/\(∃xs,SqL K H1 a xs)/\R (Ite K a) H1
theorem QuM{a:Expr}{ta:TA}{p pos:Pos}{es:List Expr}{tk:Nat}{tpos:Pos}(hg:Gl X "enumerate")(hm:X.mg "enumerate" =none)(ha:PA X [a] ta)(hs:starEach [a] X.env=[(false,eval a X.env)]):
  PI X (.Tuple es tk tpos) (.Call (.Name "enumerate" p) [a] [] pos) (QxB X.K ta):=by
 intro pins s σ H R I h
 refine Call_ (Qdq I hg hm PyProof.Rows.boot_enumerate (ZR (thn (ha pos pins s σ H _ I h) λus s1 ⟨vs,H1,I1,r1,q1⟩=>?_) hs rfl))
 obtain⟨l,e,⟨xs,hq⟩,q⟩:=q1
 subst e
 obtain⟨u,rfl,ru⟩:=vals1 r1
 cases ru
 obtain⟨its,rv,pl,hz⟩:=I1.list hq
 refine call_enumerate_list pl.isList λh2 he2 hi2 hz2 hk2=>?_
 have I2:Inv X pins σ H1 {s1 with heap:=h2}:=I1.kept (t':=s1.toks) hk2
 refine wpAny_pyIter_enum he2 ⟨_,[s1.heap.objs.size+1,s1.heap.objs.size],_,_,H1,rfl,I2,Qqo l _ _ (Nat.succ_ne_self _),⟨_,he2,hi2⟩,λb hb=>?_,q⟩
 have hb:b=s1.heap.objs.size+1∨b=s1.heap.objs.size:=by simpa using hb
 have hle:s1.heap.objs.size<=b:=by rcases hb with rfl | rfl<;>omega
 exact I1.Qku hle (I1.hok.fresh hle)
end
noncomputable def Itz(K:PySem.W.Frag)(a b:Addr):It:=
 ⟨λi H=>∃xs ys x y,SqL K H a xs/\SqL K H b ys/\xs[i]? =some x/\ys[i]? =some y,λi H v H'=>∃p x y,v= .ref p/\H p=none/\H'=upd H p (.tup [x,y])/\(∀xs,SqL K H a xs->xs[i]? =some x)/\∀ys,SqL K H b ys->ys[i]? =some y,
  λi H=>∃xs ys,SqL K H a xs/\SqL K H b ys/\(xs.length<=i∨ys.length<=i)⟩
structure QuR (z TI TO i1 i2:Addr):Prop where
 a:TI≠z
 b:TO≠z
 c:i1≠z
 d:i2≠z
 e:TI≠TO
 f:TI≠i1
 g:TI≠i2
 h:TO≠i1
 i:TO≠i2
 j:i1≠i2
theorem QtB{P:Program}{w:World}{K:PySem.W.Frag}{es:List Expr}{tk:Nat}{tpos:Pos}(l1 l2 z TI TO i1 i2:Addr)(D:QuR z TI TO i1 i2):
  Turn P w K (.Tuple es tk tpos) (Itz K l1 l2) [z,TI,TO,i1,i2] z (λi h=>IsZip h z TI TO .none/\IsPair h TI (.ref i1) (.ref i2)/\(∃a b,IsPair h TO a b)/\h.IsListIter i1 l1 i/\h.IsListIter i2 l2 i) where
 mem:=by simp
 obj:=λi h st b hb=>by
  obtain⟨hz,hTI,⟨p,q,hTO⟩,⟨o1,ho1,hc1,hd1⟩,⟨o2,ho2,hc2,hd2⟩⟩:=st
  have hb:b=z∨b=TI∨b=TO∨b=i1∨b=i2:=by simpa using hb
  rcases hb with rfl | rfl | rfl | rfl | rfl
  ·exact⟨_,hz,λv z=>by cases z⟩
  ·exact⟨_,hTI,λv z=>by cases z⟩
  ·exact⟨_,hTO,λv z=>by cases z⟩
  ·exact⟨o1,ho1,λv z=>by rw[hd1]at z;cases z⟩
  ·exact⟨o2,ho2,λv z=>by rw[hd2]at z;cases z⟩
 keep:=λi h h' st k=>by
  obtain⟨hz,hTI,⟨p,q,hTO⟩,h1,h2⟩:=st
  exact⟨k z (by simp) _ hz,k TI (by simp) _ hTI,⟨p,q,k TO (by simp) _ hTO⟩,h1.at λo e=>k i1 (by simp) o e,h2.at λo e=>k i2 (by simp) o e⟩
 item:=by
  intro X hP hw hK hc i pins s σ H E I hf st hg
  subst hP hw hK
  obtain⟨hz,hTI,⟨a0,b0,hTO⟩,h1,h2⟩:=st
  obtain⟨xs,ys,x,y,hq1,hq2,hx,hy⟩:=hg
  obtain⟨its,rv,p,hzz⟩:=I.list hq1
  obtain⟨its2,rv2,p2,hzz2⟩:=I.list hq2
  obtain⟨u,hu,ru⟩:=rv.get hx
  obtain⟨u2,hu2,ru2⟩:=rv2.get hy
  have free:∀l ys,SqL X.K H l ys->∀b,b∈[z,TI,TO,i1,i2]->l≠b:=λl ys hq b hb e=>by
   subst e
   rcases hq with(hq | ⟨o,hq⟩) | ⟨o,its,n,hk,hc',_,hd',_⟩
   ·rw[(hf l hb).1]at hq;cases hq
   ·rw[(hf l hb).1]at hq;cases hq
   ·have e1:=I.kIn l o hk
    obtain⟨o1,ho1,hcc1,hd1⟩:=id h1
    obtain⟨o2,ho2,hcc2,hd2⟩:=id h2
    have hb:l=z∨l=TI∨l=TO∨l=i1∨l=i2:=by simpa using hb
    rcases hb with rfl | rfl | rfl | rfl | rfl
    ·rw[hz]at e1;cases e1;simp at hc'
    ·rw[hTI]at e1;cases e1;simp at hc'
    ·rw[hTO]at e1;cases e1;simp at hc'
    ·rw[ho1]at e1;cases e1;rw[hc']at hcc1;simp at hcc1
    ·rw[ho2]at e1;cases e1;rw[hc']at hcc2;simp at hcc2
  have A1:=free l1 xs hq1
  have A2:=free l2 ys hq2
  have DD:ZipApart z TI TO i1 i2 l1 l2:=⟨D.a,D.b,D.c,D.d,D.e,D.f,D.g,D.h,D.i,D.j,A1 z (by simp),A1 TO (by simp),A1 i1 (by simp),A1 i2 (by simp),A2 z (by simp),A2 TO (by simp),A2 i1 (by simp),A2 i2 (by simp)⟩
  refine wpAny_pyNext_zip_item DD hz hTI hTO h1 h2 p.isList p2.isList (x:=u) (y:=u2) (by simpa using hu) (by simpa using hu2) λh3 z3 TO3 a3 b3 T3 sz3 k3=>?_
  refine⟨.ref s.heap.objs.size,rfl,wpAny_letOwnedTupleGo_zip z3 λh4 z4 hs4=>?_⟩
  replace hs4:Heap.SameBut z h3 h4:=hs4
  have lt:∀{c o},s.heap.get? c=some o->c<s.heap.objs.size:=λe=>Zy e
  have hzlt:=lt hz
  have all:∀b∈[z,TI,TO,i1,i2],b<s.heap.objs.size:=λb hb=>by
   have hb:b=z∨b=TI∨b=TO∨b=i1∨b=i2:=by simpa using hb
   obtain⟨o1,ho1,_⟩:=h1
   obtain⟨o2,ho2,_⟩:=h2
   rcases hb with rfl | rfl | rfl | rfl | rfl
   ·exact lt hz
   ·exact lt hTI
   ·exact lt hTO
   ·exact lt ho1
   ·exact lt ho2
  have kk:∀b o,b∉[z,TI,TO,i1,i2]->s.heap.get? b=some o->h4.get? b=some o:=λb o hb q=>by
   have n1:b≠z:=λe=>hb (by simp[e])
   exact hs4.extBut b o n1 (k3 b o n1 (λe=>hb (by simp[e])) (λe=>hb (by simp[e])) (λe=>hb (by simp[e])) q)
  have TI4:IsPair h4 TI (.ref i1) (.ref i2):=hs4.extBut _ _ D.a (k3 _ _ D.a D.e D.f D.g hTI)
  have TO4:IsPair h4 TO u u2:=hs4.extBut _ _ D.b TO3
  have a4:h4.IsListIter i1 l1 (i+1):=a3.extBut hs4.extBut D.c
  have b4:h4.IsListIter i2 l2 (i+1):=b3.extBut hs4.extBut D.d
  have T4:IsTup h4 s.heap.objs.size [u,u2].toArray:=⟨_,(hs4.2 _ (Nat.ne_of_gt hzlt)).trans T3,rfl,_,rfl⟩
  refine⟨.ref s.heap.objs.size,upd H s.heap.objs.size (.tup [x,y]),I.Qda (t':=s.toks) hf kk (λb hb=>?_) (Zi _) ⟨by show 2<=sizeLine;decide,_,.cons ru (.cons ru2 .nil),T4⟩,rfl,
   ⟨_,x,y,rfl,I.hok.fresh (Zi _),rfl,λzs hy'=>by rw[I.QgG hy' hq1];exact hx,λzs hy'=>by rw[I.QgG hy' hq2];exact hy⟩,⟨z4,TI4,⟨_,_,TO4⟩,a4,b4⟩,λb hb=>?_⟩
  ·have hb:b=z∨b=TI∨b=TO∨b=i1∨b=i2:=by simpa using hb
   obtain⟨o1,ho1,_⟩:=a4
   obtain⟨o2,ho2,_⟩:=b4
   rcases hb with rfl | rfl | rfl | rfl | rfl
   ·exact⟨_,z4⟩
   ·exact⟨_,TI4⟩
   ·exact⟨_,TO4⟩
   ·exact⟨_,ho1⟩
   ·exact⟨_,ho2⟩
  ·rw[QQ (ZU (all b hb))];exact(hf b hb).1
 done:=by
  intro X hP hw hK hc i pins s σ H E I hf st hg
  subst hP hw hK
  obtain⟨hz,hTI,⟨a0,b0,hTO⟩,h1,h2⟩:=st
  obtain⟨xs,ys,hq1,hq2,hx⟩:=hg
  obtain⟨its,rv,p,hzz⟩:=I.list hq1
  obtain⟨its2,rv2,p2,hzz2⟩:=I.list hq2
  have free:∀l ys,SqL X.K H l ys->∀b,b∈[z,TI,TO,i1,i2]->l≠b:=λl ys hq b hb e=>by
   subst e
   rcases hq with(hq | ⟨o,hq⟩) | ⟨o,its,n,hk,hc',_,hd',_⟩
   ·rw[(hf l hb).1]at hq;cases hq
   ·rw[(hf l hb).1]at hq;cases hq
   ·have e1:=I.kIn l o hk
    obtain⟨o1,ho1,hcc1,hd1⟩:=id h1
    obtain⟨o2,ho2,hcc2,hd2⟩:=id h2
    have hb:l=z∨l=TI∨l=TO∨l=i1∨l=i2:=by simpa using hb
    rcases hb with rfl | rfl | rfl | rfl | rfl
    ·rw[hz]at e1;cases e1;simp at hc'
    ·rw[hTI]at e1;cases e1;simp at hc'
    ·rw[hTO]at e1;cases e1;simp at hc'
    ·rw[ho1]at e1;cases e1;rw[hc']at hcc1;simp at hcc1
    ·rw[ho2]at e1;cases e1;rw[hc']at hcc2;simp at hcc2
  have A1:=free l1 xs hq1
  have A2:=free l2 ys hq2
  have DD:ZipApart z TI TO i1 i2 l1 l2:=⟨D.a,D.b,D.c,D.d,D.e,D.f,D.g,D.h,D.i,D.j,A1 z (by simp),A1 TO (by simp),A1 i1 (by simp),A1 i2 (by simp),A2 z (by simp),A2 TO (by simp),A2 i1 (by simp),A2 i2 (by simp)⟩
  have hl:=rv.length
  have hl2:=rv2.length
  refine wpAny_pyNext_zip_end (I.ok.hd hc) DD hz hTI hTO h1 h2 p.isList p2.isList (by rcases hx with hx | hx;(left;simp;omega);(right;simp;omega)) λh3 k3=>⟨rfl,?_⟩
  exact I.turns (t':=s.toks) hf λb o hb q=>k3 b o (λe=>hb (by simp[e])) (λe=>hb (by simp[e])) (λe=>hb (by simp[e])) (λe=>hb (by simp[e])) q
 self:=λ_ _ _ _ _ st h=>wpAny_pyIter_zip st.1 h
section
variable {X:Cx}
noncomputable def Qze(K:PySem.W.Frag)(ta:TA):TI:=λσ H R=>ta σ H λvs H1=>∃a b,vs=[.ref a,.ref b]/\(∃xs,SqL K H1 a xs)/\(∃ys,SqL K H1 b ys)/\R (Itz K a b) H1
theorem QvM{a b:Expr}{ta:TA}{p pos:Pos}{es:List Expr}{tk:Nat}{tpos:Pos}(hg:Gl X "zip")(hm:X.mg "zip" =none)(ha:PA X [a,b] ta)(hs:starEach [a,b] X.env=[(false,eval a X.env),(false,eval b X.env)])(hs2:starEach [b] X.env=[(false,eval b X.env)]):
  PI X (.Tuple es tk tpos) (.Call (.Name "zip" p) [a,b] [] pos) (Qze X.K ta):=by
 intro pins s σ H R I h
 refine Call_ (Qdq I hg hm PyProof.Rows.boot_zip (ZR (thn (ha pos pins s σ H _ I h) λus s1 ⟨vs,H1,I1,r1,q1⟩=>?_) (by rw[hs,hs2]) (by rw[hs2];rfl)))
 obtain⟨l,l2,e,⟨xs,hq⟩,⟨ys,hq2⟩,q⟩:=q1
 subst e
 obtain⟨u,u2,rfl,ru,ru2⟩:=vals2 r1
 cases ru
 cases ru2
 obtain⟨its,rv,pl,hz⟩:=I1.list hq
 obtain⟨its2,rv2,pl2,hz2⟩:=I1.list hq2
 refine call_zip_2 pl.isList pl2.isList λh2 hz hTI hTO h1 h2' hsz hk2=>?_
 have I2:Inv X pins σ H1 {s1 with heap:=h2}:=I1.kept (t':=s1.toks) hk2
 refine wpAny_pyIter_zip hz ⟨_,[s1.heap.objs.size+4,s1.heap.objs.size+2,s1.heap.objs.size+3,s1.heap.objs.size,s1.heap.objs.size+1],_,_,H1,rfl,I2,QtB l l2 _ _ _ _ _ ⟨?_,?_,?_,?_,?_,?_,?_,?_,?_,?_⟩,⟨hz,hTI,⟨_,_,hTO⟩,h1,h2'⟩,λb hb=>?_,q⟩
 iterate 10 (exact(by intro e;first | (have e':(s1.heap.objs.size:Nat)+_=_:=e;omega) | (have e':(s1.heap.objs.size:Nat)=_:=e;omega)))
 have hle:s1.heap.objs.size<=b:=by
  simp only[Zm,ZbF,or_false]at hb
  rcases hb with rfl | rfl | rfl | rfl | rfl<;>first | exact Zi _ | exact Nat.le_add_right _ _
 exact I1.Qku hle (I1.hok.fresh hle)
end
end L2
namespace L2
open PySem PySem.Spec
section
variable {prog:Program}{w:World}{A:Around}{E:Value->Shared->Prop}{s:Shared}
structure Six (z TI TO i1 i2 i3:Addr):Prop where
 TIz:TI≠z
 TOz:TO≠z
 i1z:i1≠z
 i2z:i2≠z
 i3z:i3≠z
 TITO:TI≠TO
 TIi1:TI≠i1
 TIi2:TI≠i2
 TIi3:TI≠i3
 TOi1:TO≠i1
 TOi2:TO≠i2
 TOi3:TO≠i3
 i12:i1≠i2
 i13:i1≠i3
 i23:i2≠i3
end
section
variable {prog:Program}{w:World}{A:Around}{E:Value->Shared->Prop}{s:Shared}
end
open PyProof.Rows
section
variable {X:Cx}
end
end L2
namespace HS
open PySem PySem.Spec PyProof.Rows L2
inductive D where
 | non | bl (b:Bool) | int (i:Int) | str (x:Str) | tup (xs:List D) | lst (xs:List D) | exc (x:Str)
mutual
noncomputable def D.flat:D->Bool
 | .lst _=>false
 | .tup xs=>Qae xs
 | .non=>true
 | .bl _=>true
 | .int _=>true
 | .str _=>true
 | .exc _=>true
noncomputable def Qae:List D->Bool
 | []=>true
 | d::ds=>d.flat && Qae ds
end
mutual
noncomputable def D.nl:D->Nat
 | .lst xs=>nls xs+1
 | .tup xs=>nls xs
 | .non=>0
 | .bl _=>0
 | .int _=>0
 | .str _=>0
 | .exc _=>0
noncomputable def nls:List D->Nat
 | []=>0
 | d::ds=>d.nl+nls ds
end
mutual
theorem Qeh:∀(d:D),d.flat=true->d.nl=0
 | .non,_=>rfl
 | .bl _,_=>rfl
 | .int _,_=>rfl
 | .str _,_=>rfl
 | .exc _,_=>rfl
 | .tup xs,h=>by simp only[D.nl];simp only[D.flat]at h;exact Qjj xs h
 | .lst xs,h=>by simp[D.flat]at h
theorem Qjj:∀(ds:List D),Qae ds=true->nls ds=0
 | [],_=>rfl
 | d::ds,h=>by simp only[Qae,Zj]at h;simp only[nls,Qeh d h.1,Qjj ds h.2]
end
def Fix(K:PySem.W.Frag)(H:Hp)(a:Addr)(vs:List V):Prop:=
 (∃o,H a=some (.frz o (.lst vs)))∨
  ∃(its:List Value) (n:Nat),K.lookup a=some {cls:= .type "list",data:= .seq its.toArray n}/\vs.length<=sizeLine/\QD vs its
def Qzi(a C:Addr)(h:Heap):Prop:=∃o vs,h.get? a=some o/\o.cls= .ref C/\o.data= .fields vs
def ExcAt(K:PySem.W.Frag)(H:Hp)(a:Addr)(x:Str):Prop:=∃C,PySem.W.nsIn K mainGlobals x=some (some (.ref C))/\H a=some (.ext (Qzi a C))
theorem QpI{K:PySem.W.Frag}{H H':Hp}{a:Addr}{x:Str}(s:QN H H')(h:ExcAt K H a x):ExcAt K H' a x:=by
 obtain⟨C,h1,h2⟩:=h
 exact⟨C,h1,s _ _ h2⟩
theorem QrL{K:PySem.W.Frag}{H:Hp}{a p:Addr}{x:Str}{zs ys:List V}(hp:H p=some (.lst zs))(h:ExcAt K H a x):ExcAt K (upd H p (.lst ys)) a x:=by
 obtain⟨C,h1,h2⟩:=h
 exact⟨C,h1,by rw[QQ (Qmc h2 hp (by intro z;cases z))];exact h2⟩
mutual
noncomputable def Rp(K:PySem.W.Frag)(H:Hp):D->V->List Addr->Prop
 | .non,v,F=>v= .non/\F=[]
 | .bl b,v,F=>v= .bl b/\F=[]
 | .int i,v,F=>v= .int i/\F=[]
 | .str x,v,F=>v= .str x/\F=[]
 | .exc x,v,F=>(∃a,v= .ref a/\ExcAt K H a x)/\F=[]
 | .tup ds,v,F=>∃a vs,v= .ref a/\SqT K H a vs/\Rps K H ds vs F
 | .lst ds,v,F=>ds.length<=sizeLine/\∃a vs,v= .ref a/\((∃G,F=a::G/\H a=some (.lst vs)/\Rps K H ds vs G)∨(Fix K H a vs/\Rps K H ds vs F))
noncomputable def Rps(K:PySem.W.Frag)(H:Hp):List D->List V->List Addr->Prop
 | [],vs,F=>vs=[]/\F=[]
 | d::ds,vs,F=>∃v ws F1 F2,vs=v::ws/\F=F1++F2/\Rp K H d v F1/\Rps K H ds ws F2
end
theorem Qm2{K:PySem.W.Frag}{H H':Hp}{a:Addr}{vs:List V}(s:QN H H')(h:SqT K H a vs):SqT K H' a vs:=by
 rcases h with(h | ⟨o,h⟩) | h
 ·exact .inl (.inl (s _ _ h))
 ·exact .inl (.inr ⟨o,s _ _ h⟩)
 ·exact .inr h
theorem QmX{K:PySem.W.Frag}{H H':Hp}{a:Addr}{vs:List V}(s:QN H H')(h:Fix K H a vs):Fix K H' a vs:=by
 rcases h with⟨o,h⟩ | h
 ·exact .inl ⟨o,s _ _ h⟩
 ·exact .inr h
theorem QoH{K:PySem.W.Frag}{H:Hp}{a p:Addr}{vs zs ys:List V}(hp:H p=some (.lst zs))(h:SqT K H a vs):SqT K (upd H p (.lst ys)) a vs:=by
 rcases h with(h | ⟨o,h⟩) | h
 ·exact .inl (.inl (by rw[QQ (Qmc h hp (by intro z;cases z))];exact h))
 ·exact .inl (.inr ⟨o,by rw[QQ (Qmc h hp (by intro z;cases z))];exact h⟩)
 ·exact .inr h
theorem Qvm{K:PySem.W.Frag}{H:Hp}{a p:Addr}{vs zs ys:List V}(hp:H p=some (.lst zs))(h:Fix K H a vs):Fix K (upd H p (.lst ys)) a vs:=by
 rcases h with⟨o,h⟩ | h
 ·exact .inl ⟨o,by rw[QQ (Qmc h hp (by intro z;cases z))];exact h⟩
 ·exact .inr h
section
variable {K:PySem.W.Frag}{H H':Hp}
mutual
theorem Rp.same(s:QN H H'):∀{d:D}{v:V}{F:List Addr},Rp K H d v F->Rp K H' d v F
 | .exc _,_,_,h=>by
  simp only[Rp]at h ⊢
  obtain⟨⟨a,e,q⟩,z⟩:=h
  exact⟨⟨a,e,QpI s q⟩,z⟩
 | .non,_,_,h=>h
 | .bl _,_,_,h=>h
 | .int _,_,_,h=>h
 | .str _,_,_,h=>h
 | .tup ds,_,_,h=>by
  simp only[Rp]at h ⊢
  obtain⟨a,vs,e,q,r⟩:=h
  exact⟨a,vs,e,Qm2 s q,Rps.same s r⟩
 | .lst ds,_,_,h=>by
  simp only[Rp]at h ⊢
  obtain⟨hz,a,vs,e,⟨G,eF,q,r⟩ | ⟨q,r⟩⟩:=h
  ·exact⟨hz,a,vs,e,.inl ⟨G,eF,s _ _ q,Rps.same s r⟩⟩
  ·exact⟨hz,a,vs,e,.inr ⟨QmX s q,Rps.same s r⟩⟩
theorem Rps.same(s:QN H H'):∀{ds:List D}{vs:List V}{F:List Addr},Rps K H ds vs F->Rps K H' ds vs F
 | [],_,_,h=>h
 | d::ds,_,_,h=>by
  simp only[Rps]at h ⊢
  obtain⟨v,ws,F1,F2,e,eF,r,q⟩:=h
  exact⟨v,ws,F1,F2,e,eF,Rp.same s r,Rps.same s q⟩
end
mutual
theorem Rp.upd{p:Addr}{zs ys:List V}(hp:H p=some (.lst zs)):∀{d:D}{v:V}{F:List Addr},Rp K H d v F->p∉F->Rp K (upd H p (.lst ys)) d v F
 | .exc _,_,_,h,_=>by
  simp only[Rp]at h ⊢
  obtain⟨⟨a,e,q⟩,z⟩:=h
  exact⟨⟨a,e,QrL hp q⟩,z⟩
 | .non,_,_,h,_=>h
 | .bl _,_,_,h,_=>h
 | .int _,_,_,h,_=>h
 | .str _,_,_,h,_=>h
 | .tup ds,_,_,h,hn=>by
  simp only[Rp]at h ⊢
  obtain⟨a,vs,e,q,r⟩:=h
  exact⟨a,vs,e,QoH hp q,Rps.upd hp r hn⟩
 | .lst ds,_,_,h,hn=>by
  simp only[Rp]at h ⊢
  obtain⟨hz,a,vs,e,⟨G,eF,q,r⟩ | ⟨q,r⟩⟩:=h
  ·subst eF
   have h1:a≠p:=λz=>hn (by rw[z];exact Zq)
   exact⟨hz,a,vs,e,.inl ⟨G,rfl,by rw[QQ h1];exact q,Rps.upd hp r λz=>hn (Zg _ z)⟩⟩
  ·exact⟨hz,a,vs,e,.inr ⟨Qvm hp q,Rps.upd hp r hn⟩⟩
theorem Rps.upd{p:Addr}{zs ys:List V}(hp:H p=some (.lst zs)):∀{ds:List D}{vs:List V}{F:List Addr},Rps K H ds vs F->p∉F->Rps K (upd H p (.lst ys)) ds vs F
 | [],_,_,h,_=>h
 | d::ds,_,_,h,hn=>by
  simp only[Rps]at h ⊢
  obtain⟨v,ws,F1,F2,e,eF,r,q⟩:=h
  subst eF
  exact⟨v,ws,F1,F2,e,rfl,Rp.upd hp r λz=>hn (Zh _ z),Rps.upd hp q λz=>hn (Zc _ z)⟩
end
mutual
theorem Rp.mem:∀{d:D}{v:V}{F:List Addr},Rp K H d v F->∀a∈F,∃vs,H a=some (.lst vs)
 | .non,_,_,h,a,ha=>by simp only[Rp]at h;rw[h.2]at ha;simp at ha
 | .bl _,_,_,h,a,ha=>by simp only[Rp]at h;rw[h.2]at ha;simp at ha
 | .int _,_,_,h,a,ha=>by simp only[Rp]at h;rw[h.2]at ha;simp at ha
 | .str _,_,_,h,a,ha=>by simp only[Rp]at h;rw[h.2]at ha;simp at ha
 | .exc _,_,_,h,a,ha=>by simp only[Rp]at h;rw[h.2]at ha;simp at ha
 | .tup ds,_,_,h,a,ha=>by
  simp only[Rp]at h
  obtain⟨_,vs,e,q,r⟩:=h
  exact Rps.mem r a ha
 | .lst ds,_,_,h,a,ha=>by
  simp only[Rp]at h
  obtain⟨_,b,vs,e,⟨G,eF,q,r⟩ | ⟨q,r⟩⟩:=h
  ·subst eF
   rcases Zm.mp ha with z | z
   ·exact⟨vs,by rw[z];exact q⟩
   ·exact Rps.mem r a z
  ·exact Rps.mem r a ha
theorem Rps.mem:∀{ds:List D}{vs:List V}{F:List Addr},Rps K H ds vs F->∀a∈F,∃vs,H a=some (.lst vs)
 | [],_,_,h,a,ha=>by simp only[Rps]at h;rw[h.2]at ha;simp at ha
 | d::ds,_,_,h,a,ha=>by
  simp only[Rps]at h
  obtain⟨v,ws,F1,F2,e,eF,r,q⟩:=h
  subst eF
  rcases ZJ.mp ha with z | z
  ·exact Rp.mem r a z
  ·exact Rps.mem q a z
end
mutual
theorem Rp.QbY:∀{d:D}{v:V}{F:List Addr},Rp K H d v F->d.flat=true->F=[]
 | .non,_,_,h,_=>by simp only[Rp]at h;exact h.2
 | .bl _,_,_,h,_=>by simp only[Rp]at h;exact h.2
 | .int _,_,_,h,_=>by simp only[Rp]at h;exact h.2
 | .str _,_,_,h,_=>by simp only[Rp]at h;exact h.2
 | .exc _,_,_,h,_=>by simp only[Rp]at h;exact h.2
 | .tup ds,_,_,h,hf=>by
  simp only[Rp]at h
  simp only[D.flat]at hf
  obtain⟨_,vs,e,q,r⟩:=h
  exact Rps.QbY r hf
 | .lst ds,_,_,h,hf=>by simp[D.flat]at hf
theorem Rps.QbY:∀{ds:List D}{vs:List V}{F:List Addr},Rps K H ds vs F->Qae ds=true->F=[]
 | [],_,_,h,_=>by simp only[Rps]at h;exact h.2
 | d::ds,_,_,h,hf=>by
  simp only[Rps]at h
  simp only[Qae,Zj]at hf
  obtain⟨v,ws,F1,F2,e,eF,r,q⟩:=h
  rw[eF,Rp.QbY r hf.1,Rps.QbY q hf.2];rfl
end
mutual
theorem Rp.Qal:∀{d:D}{v:V}{F:List Addr},Rp K H d v F->F.length<=d.nl
 | .non,_,_,h=>by simp only[Rp]at h;rw[h.2];exact ZS _
 | .bl _,_,_,h=>by simp only[Rp]at h;rw[h.2];exact ZS _
 | .int _,_,_,h=>by simp only[Rp]at h;rw[h.2];exact ZS _
 | .str _,_,_,h=>by simp only[Rp]at h;rw[h.2];exact ZS _
 | .exc _,_,_,h=>by simp only[Rp]at h;rw[h.2];exact ZS _
 | .tup ds,_,_,h=>by
  simp only[Rp]at h
  obtain⟨_,vs,e,q,r⟩:=h
  simp only[D.nl]
  exact Rps.Qal r
 | .lst ds,_,_,h=>by
  simp only[Rp]at h
  simp only[D.nl]
  obtain⟨_,b,vs,e,⟨G,eF,q,r⟩ | ⟨q,r⟩⟩:=h
  ·rw[eF,ZE];have:=Rps.Qal r;omega
  ·have:=Rps.Qal r;omega
theorem Rps.Qal:∀{ds:List D}{vs:List V}{F:List Addr},Rps K H ds vs F->F.length<=nls ds
 | [],_,_,h=>by simp only[Rps]at h;rw[h.2];exact ZS _
 | d::ds,_,_,h=>by
  simp only[Rps]at h
  obtain⟨v,ws,F1,F2,e,eF,r,q⟩:=h
  simp only[nls]
  rw[eF,Zt]
  have:=Rp.Qal r
  have:=Rps.Qal q
  omega
end
theorem Rps.length:∀{ds:List D}{vs:List V}{F:List Addr},Rps K H ds vs F->ds.length=vs.length
 | [],_,_,h=>by simp only[Rps]at h;rw[h.1];rfl
 | d::ds,_,_,h=>by
  simp only[Rps]at h
  obtain⟨v,ws,F1,F2,e,eF,r,q⟩:=h
  rw[e,ZE,ZE,Rps.length q]
theorem Rps.append:∀{ds es:List D}{vs ws:List V}{F G:List Addr},Rps K H ds vs F->Rps K H es ws G->Rps K H (ds++es) (vs++ws) (F++G)
 | [],_,_,_,_,_,h,g=>by simp only[Rps]at h;rw[h.1,h.2];exact g
 | d::ds,_,_,_,_,_,h,g=>by
  simp only[Rps,ZaZ]at h ⊢
  obtain⟨v,ws,F1,F2,e,eF,r,q⟩:=h
  subst e eF
  exact⟨v,_,F1,_,rfl,by rw[Zbl],r,Rps.append q g⟩
theorem Rps.get:∀{ds:List D}{vs:List V}{F:List Addr}{i:Nat}{d:D},Rps K H ds vs F->ds[i]? =some d->∃v F1 G F2,vs[i]? =some v/\F=F1++(G++F2)/\Rp K H d v G/\(F.length=nls ds->G.length=d.nl)
 | [],_,_,_,_,_,e=>by simp at e
 | d::ds,_,_,0,_,h,e=>by
  simp only[Rps]at h
  obtain⟨v,ws,F1,F2,e1,eF,r,q⟩:=h
  simp at e;subst e e1 eF
  refine⟨v,[],F1,F2,by simp,rfl,r,λhl=>?_⟩
  simp only[nls,Zt]at hl
  have:=Rp.Qal r
  have:=Rps.Qal q
  omega
 | d::ds,_,_,i+1,_,h,e=>by
  simp only[Rps]at h
  obtain⟨v,ws,F1,F2,e1,eF,r,q⟩:=h
  obtain⟨v',G1,G,G2,h1,h2,h3,h4⟩:=Rps.get q (by simpa using e)
  have l1:=Rp.Qal r
  have l2:=Rps.Qal q
  subst e1 eF
  refine⟨v',F1++G1,G,G2,by simpa using h1,by rw[h2,Zbl],h3,λhl=>h4 ?_⟩
  simp only[nls,Zt]at hl
  omega
theorem Fix.sq{K:PySem.W.Frag}{H:Hp}{a:Addr}{vs:List V}(h:Fix K H a vs):SqL K H a vs:=by
 rcases h with⟨o,h⟩ | ⟨its,n,h,hz,r⟩
 ·exact .inl (.inr ⟨o,h⟩)
 ·exact .inr ⟨_,its.toArray,n,h,rfl,rfl,rfl,by rw[Zw,← r.length];exact hz,by simpa using r⟩
theorem _root_.L2.Inv.Qmq{X:Cx}{pins:List (Addr×Obj)}{σ:L2.St}{H:Hp}{s:Shared}{a:Addr}{vs:List V}(I:Inv X pins σ H s)(h:H a=some (.lst vs)∨Fix X.K H a vs):
  vs.length<=sizeLine/\∃(its:List Value) (n:Nat),QD vs its/\vs.length=its.length/\s.heap.get? a=some {cls:= .type "list",data:= .seq its.toArray n}:=by
 rcases h with h | ⟨o,h⟩ | ⟨its,n,h,hz,r⟩
 ·exact I.QpF h
 ·obtain⟨e,hz,its,n,r,e2⟩:=I.hok a _ h
  exact⟨hz,its,n,r,r.length,e2⟩
 ·exact⟨hz,its,n,r,r.length,I.kIn _ _ h⟩
theorem Rp.lst_inv{K:PySem.W.Frag}{H:Hp}{ds:List D}{v:V}{F:List Addr}(h:Rp K H (.lst ds) v F):
  ∃a vs G,v= .ref a/\(H a=some (.lst vs)∨Fix K H a vs)/\Rps K H ds vs G/\ds.length<=sizeLine/\(F=a::G∨F=G):=by
 simp only[Rp]at h
 obtain⟨hz,a,vs,e,⟨G,eF,q,r⟩ | ⟨q,r⟩⟩:=h
 ·exact⟨a,vs,G,e,.inl q,r,hz,.inl eF⟩
 ·exact⟨a,vs,F,e,.inr q,r,hz,.inr rfl⟩
theorem Qah{K:PySem.W.Frag}{H:Hp}{a:Addr}{vs:List V}(h:H a=some (.lst vs)∨Fix K H a vs):SqL K H a vs:=h.elim (λh=>SqL.of h) Fix.sq
theorem Rp.Qa3{K:PySem.W.Frag}{H:Hp}{ds:List D}{v:V}{F:List Addr}(h:Rp K H (.tup ds) v F):∃a vs,v= .ref a/\SqT K H a vs/\Rps K H ds vs F:=by
 simp only[Rp]at h
 exact h
theorem Rp.QdZ{K:PySem.W.Frag}{H:Hp}{ds:List D}{a:Addr}{vs:List V}{G:List Addr}(h:H a=some (.lst vs))(r:Rps K H ds vs G)(hz:ds.length<=sizeLine):Rp K H (.lst ds) (.ref a) (a::G):=by
 simp only[Rp]
 exact⟨hz,a,vs,rfl,.inl ⟨G,rfl,h,r⟩⟩
theorem Rp.Qgb{K:PySem.W.Frag}{H:Hp}{ds:List D}{a:Addr}{vs:List V}{G:List Addr}(h:H a=some (.tup vs))(r:Rps K H ds vs G):Rp K H (.tup ds) (.ref a) G:=by
 simp only[Rp]
 exact⟨a,vs,rfl,SqT.of h,r⟩
theorem Rp.int_inv{K:PySem.W.Frag}{H:Hp}{i:Int}{v:V}{F:List Addr}(h:Rp K H (.int i) v F):v= .int i:=by simp only[Rp]at h;exact h.1
theorem Rp.Qf6{K:PySem.W.Frag}{H:Hp}{i:Bool}{v:V}{F:List Addr}(h:Rp K H (.bl i) v F):v= .bl i:=by simp only[Rp]at h;exact h.1
theorem Rp.QkM{K:PySem.W.Frag}{H:Hp}{v:V}{F:List Addr}(h:Rp K H .non v F):v= .non:=by simp only[Rp]at h;exact h.1
theorem Rp.str_inv{K:PySem.W.Frag}{H:Hp}{i:Str}{v:V}{F:List Addr}(h:Rp K H (.str i) v F):v= .str i:=by simp only[Rp]at h;exact h.1
theorem Rp.int_mk{K:PySem.W.Frag}{H:Hp}{i:Int}:Rp K H (.int i) (.int i) []:=by simp[Rp]
theorem Rp.Qd3{K:PySem.W.Frag}{H:Hp}{i:Bool}:Rp K H (.bl i) (.bl i) []:=by simp[Rp]
theorem Rp.QjG{K:PySem.W.Frag}{H:Hp}:Rp K H .non .non []:=by simp[Rp]
theorem Rp.str_mk{K:PySem.W.Frag}{H:Hp}{i:Str}:Rp K H (.str i) (.str i) []:=by simp[Rp]
theorem Qa8{H:Hp}{p:Addr}{o:HO}(h:H p=none):QN H (L2.upd H p o):=λb u e=>by rw[QQ (QbN e h)];exact e
end
end HS
namespace HS
open PySem PySem.Spec L2
noncomputable abbrev En:=List (Option (D×Bool))
structure R where
 d:D
 fr:Bool
 M:List Nat
structure RA where
 ds:List D
 fr:Bool
 M:List Nat
noncomputable abbrev DE:=En->Option R
noncomputable abbrev DA:=En->Option RA
noncomputable abbrev DT:=En->Option Bool
structure Rel (K:PySem.W.Frag) (H0:Hp) (A0:List Addr) (hs:List (V×D×List Addr)) (ρ:En) (F:Nat->List Addr) (σ:St) (H:Hp):Prop where
 len:ρ.length=σ.length
 val:∀(i:Nat) d b,ρ[i]? =some (some (d,b))->∃v,σ[i]? =some (some v)/\Rp K H d v (F i)
 own:∀(i:Nat) d,ρ[i]? =some (some (d,true))->(F i).length=d.nl/\(F i).Nodup/\(∀a∈F i,H0 a=none)/\(∀(j:Nat) d' b',j≠i->ρ[j]? =some (some (d',b'))->∀a∈F i,a∉F j)/\∀t∈hs,∀a∈F i,a∉t.2.2
 src:∀(i:Nat) d b,ρ[i]? =some (some (d,b))->∀a∈F i,H0 a=none∨a∈A0
 held:∀t∈hs,Rp K H t.2.1 t.1 t.2.2/\∀a∈t.2.2,H0 a=none∨a∈A0
 same:QN H0 H
def Src(ρ:En)(F:Nat->List Addr)(H:Hp)(M:List Nat)(G:List Addr):Prop:=
 ∀a∈G,H a=none∨∃(i:Nat) (d:D) (b:Bool),ρ[i]? =some (some (d,b))/\a∈F i/\(b=true->i∈M)
noncomputable def nw(H:Hp)(a:Addr):Nat:=match H a with | none=>1 | some _=>0
def Cnt(F:Nat->List Addr)(H:Hp)(M:List Nat)(G:List Addr):Prop:=
 ∀a,G.count a<=nw H a+((M.map F).flatten).count a
def Qbb(ρ:En)(M:List Nat):Prop:=∀i∈M,∃d,ρ[i]? =some (some (d,true))
structure Qab (K:PySem.W.Frag) (ρ:En) (F:Nat->List Addr) (H H':Hp) (r:R) (v:V) (G:List Addr):Prop where
 same:QN H H'
 rp:Rp K H' r.d v G
 src:Src ρ F H r.M G
 cnt:r.fr=true->Cnt F H r.M G/\G.length=r.d.nl
 own:Qbb ρ r.M
structure Qx4 (K:PySem.W.Frag) (ρ:En) (F:Nat->List Addr) (H H':Hp) (r:RA) (vs:List V) (G:List Addr):Prop where
 same:QN H H'
 rp:Rps K H' r.ds vs G
 src:Src ρ F H r.M G
 cnt:r.fr=true->Cnt F H r.M G/\G.length=nls r.ds
 own:Qbb ρ r.M
noncomputable def tV(K:PySem.W.Frag)(H0:Hp)(A0:List Addr)(f:DE):TE:=λσ H Q=>∃ρ hs F r,Rel K H0 A0 hs ρ F σ H/\f ρ=some r/\∀v H' G,Qab K ρ F H H' r v G->Q v H'
noncomputable def tVA(K:PySem.W.Frag)(H0:Hp)(A0:List Addr)(f:DA):TA:=λσ H Q=>∃ρ hs F r,Rel K H0 A0 hs ρ F σ H/\f ρ=some r/\∀v H' G,Qx4 K ρ F H H' r v G->Q v H'
noncomputable def tVT(K:PySem.W.Frag)(H0:Hp)(A0:List Addr)(f:DT):TT:=λσ H Q=>∃ρ hs F b,Rel K H0 A0 hs ρ F σ H/\f ρ=some b/\∀H',QN H H'->Q b H'
def SE(X:Cx)(e:Expr)(f:DE):Prop:=∀H0 A0,PE X e (tV X.K H0 A0 f)
def SA(X:Cx)(es:List Expr)(f:DA):Prop:=∀H0 A0,PA X es (tVA X.K H0 A0 f)
def ST(X:Cx)(e:Expr)(f:DT):Prop:=∀H0 A0,PT X e (tVT X.K H0 A0 f)
theorem _root_.L2.PE.mono{X:Cx}{e:Expr}{t t':TE}(h:PE X e t)(m:∀σ H Q,t' σ H Q->t σ H Q):PE X e t':=λpins s σ H Q I q=>h pins s σ H Q I (m σ H Q q)
theorem _root_.L2.PT.mono{X:Cx}{e:Expr}{t t':TT}(h:PT X e t)(m:∀σ H Q,t' σ H Q->t σ H Q):PT X e t':=λpins s σ H Q I q=>h pins s σ H Q I (m σ H Q q)
theorem _root_.L2.PA.mono{X:Cx}{e:List Expr}{t t':TA}(h:PA X e t)(m:∀σ H Q,t' σ H Q->t σ H Q):PA X e t':=λpos pins s σ H Q I q=>h pos pins s σ H Q I (m σ H Q q)
section
variable {K:PySem.W.Frag}{H0 H H':Hp}{A0:List Addr}{hs:List (V×D×List Addr)}{ρ:En}{F:Nat->List Addr}{σ:St}
theorem Rel.ext(r:Rel K H0 A0 hs ρ F σ H)(s:QN H H'):Rel K H0 A0 hs ρ F σ H' where
 len:=r.len
 val:=λi d b e=>let ⟨v,h1,h2⟩:=r.val i d b e;⟨v,h1,h2.same s⟩
 own:=r.own
 src:=r.src
 held:=λt ht=>⟨(r.held t ht).1.same s,(r.held t ht).2⟩
 same:=r.same.trans s
theorem Rel.mem(r:Rel K H0 A0 hs ρ F σ H){i:Nat}{d:D}{b:Bool}(e:ρ[i]? =some (some (d,b))){a:Addr}(h:a∈F i):∃vs,H a=some (.lst vs):=
 let ⟨_,_,h2⟩:=r.val i d b e;h2.mem a h
theorem Qdd{a:Addr}{o:HO}(h:H a=some o):nw H a=0:=by simp[nw,h]
theorem Qbp{a:Addr}(h:H a=none):nw H a=1:=by simp[nw,h]
theorem Rel.fl0(r:Rel K H0 A0 hs ρ F σ H){M:List Nat}(ow:Qbb ρ M){a:Addr}(h:H a=none):((M.map F).flatten).count a=0:=by
 rw[ZP]
 intro hm
 obtain⟨l,hl,ha⟩:=Zbr.mp hm
 obtain⟨i,hi,rfl⟩:=Zaf.mp hl
 obtain⟨d,e⟩:=ow i hi
 obtain⟨vs,q⟩:=r.mem e ha
 rw[h]at q;cases q
theorem Cnt.append(r:Rel K H0 A0 hs ρ F σ H){H1:Hp}{M1 M2:List Nat}{G1 G2:List Addr}(c1:Cnt F H M1 G1)(c2:Cnt F H1 M2 G2)(s:QN H H1)(m1:∀a∈G1,∃vs,H1 a=some (.lst vs)):Cnt F H (M1++M2) (G1++G2):=λa=>by
 rw[Zag,Zaz,List.flatten_append,Zag]
 have h1:=c1 a
 have h2:=c2 a
 cases q:H1 a with
 | some o=>rw[Qdd q]at h2;omega
 | none=>
  rw[Qbp q]at h2
  have h3:H a=none:=s.free q
  rw[Qbp h3]at h1 ⊢
  have h4:G1.count a=0:=ZP.mpr λhm=>by obtain⟨vs,z⟩:=m1 a hm;rw[q]at z;cases z
  omega
theorem Src.append{H1:Hp}{M1 M2:List Nat}{G1 G2:List Addr}(c1:Src ρ F H M1 G1)(c2:Src ρ F H1 M2 G2)(s:QN H H1):Src ρ F H (M1++M2) (G1++G2):=λa ha=>by
 rcases ZJ.mp ha with h | h
 ·rcases c1 a h with z | ⟨i,d,b,e,m,w⟩
  ·exact .inl z
  ·exact .inr ⟨i,d,b,e,m,λhb=>Zh _ (w hb)⟩
 ·rcases c2 a h with z | ⟨i,d,b,e,m,w⟩
  ·exact .inl (s.free z)
  ·exact .inr ⟨i,d,b,e,m,λhb=>Zc _ (w hb)⟩
theorem Qbb.append{M1 M2:List Nat}(h1:Qbb ρ M1)(h2:Qbb ρ M2):Qbb ρ (M1++M2):=λi hi=>(ZJ.mp hi).elim (h1 i) (h2 i)
theorem Qbb.nil:Qbb ρ []:=λi hi=>by simp at hi
theorem Src.nil{M:List Nat}:Src ρ F H M []:=λa ha=>by simp at ha
theorem Cnt.nil{M:List Nat}:Cnt F H M []:=λa=>by simp
theorem Qab.flat{d:D}{v:V}(s:QN H H')(r:Rp K H' d v [])(hf:d.flat=true:=by rfl):Qab K ρ F H H' ⟨d,true,[]⟩ v []:=⟨s,r,Src.nil,λ_=>⟨Cnt.nil,(Qeh d hf).symm⟩,Qbb.nil⟩
theorem Qab.sub{r:R}{v u:V}{d:D}{G G':List Addr}{H1:Hp}(p:Qab K ρ F H H1 r v G)(rp:Rp K H1 d u G')(hs:∀a,G'.count a<=G.count a)(hn:G.length=r.d.nl->G'.length=d.nl):Qab K ρ F H H1 ⟨d,r.fr,r.M⟩ u G' where
 same:=p.same
 rp:=rp
 src:=λa ha=>p.src a (by
  have:=hs a
  have h1:0<G'.count a:=Zaa.mpr ha
  exact Zaa.mp (by omega))
 cnt:=λh=>⟨λa=>Zk (hs a) ((p.cnt h).1 a),hn (p.cnt h).2⟩
 own:=p.own
noncomputable def R.norm(r:R):R:=if r.d.flat then⟨r.d,true,[]⟩else r
theorem R.QcB(r:R):r.norm.d=r.d:=by unfold R.norm;split<;>rfl
theorem Qab.norm{r:R}{v:V}{G:List Addr}(p:Qab K ρ F H H' r v G):Qab K ρ F H H' r.norm v G:=by
 unfold R.norm
 split
 ·rename_i h
  have:=p.rp.QbY h
  subst this
  exact .flat p.same p.rp h
 ·exact p
end
noncomputable def Qa(i:Nat):DE:=λρ=>match ρ[i]? with
 | some (some (d,b))=>if d.flat then some ⟨d,true,[]⟩else if b then some ⟨d,true,[i]⟩else some ⟨d,false,[]⟩
 | _=>none
noncomputable def dC(d:D):DE:=λ_=>some ⟨d,true,[]⟩
section
variable {X:Cx}
theorem QdV{i:Nat}{x:Str}{pos:Pos}(h:PE X (.Name x pos) (Qdn i)):SE X (.Name x pos) (Qa i):=λH0 A0=>h.mono λσ H Q ⟨ρ,hs,F,r,rel,e,q⟩=>by
 unfold Qa at e
 split at e
 ·rename_i d b q1
  obtain⟨v,h1,h2⟩:=rel.val i d b q1
  refine⟨v,h1,q v H (F i) ?_⟩
  split at e
  ·rename_i hf
   cases e
   have:=h2.QbY hf
   rw[this]at h2 ⊢
   exact .flat (QN.refl _) h2 hf
  ·split at e
   ·rename_i hb
    cases e
    subst hb
    exact⟨QN.refl _,h2,λa ha=> .inr ⟨i,d,true,q1,ha,λ_=>by simp⟩,λ_=>⟨λa=>(by simp),(rel.own i d q1).1⟩,λj hj=>by simp at hj;subst hj;exact⟨d,q1⟩⟩
   ·rename_i hb
    cases e
    simp at hb
    subst hb
    exact⟨QN.refl _,h2,λa ha=> .inr ⟨i,d,false,q1,ha,λz=>by cases z⟩,λz=>(by cases z),Qbb.nil⟩
 ·cases e
theorem QmG{e:Expr}{d:D}{v:V}(h:PE X e (tC v))(r:∀K H,Rp K H d v [])(hf:d.flat=true):SE X e (dC d):=λH0 A0=>h.mono λσ H Q ⟨ρ,hs,F,r',rel,e,q⟩=>by
 cases e
 exact q v H [] (.flat (QN.refl _) (r _ _) hf)
theorem two{K:PySem.W.Frag}{H0:Hp}{A0:List Addr}{fa fb:DE}{σ:St}{H:Hp}{hs:List (V×D×List Addr)}{ρ:En}{F:Nat->List Addr}{ra rb:R}{Rr:V->V->Hp->Prop}(rel:Rel K H0 A0 hs ρ F σ H)(ea:fa ρ=some ra)(eb:fb ρ=some rb)
  (k:∀x y H1 H2 G1 G2,Qab K ρ F H H1 ra x G1->Qab K ρ F H1 H2 rb y G2->Rr x y H2):tV K H0 A0 fa σ H λx H1=>tV K H0 A0 fb σ H1 λy H2=>Rr x y H2:=
 ⟨ρ,hs,F,ra,rel,ea,λx H1 G1 p1=>⟨ρ,hs,F,rb,rel.ext p1.same,eb,λy H2 G2 p2=>k x y H1 H2 G1 G2 p1 p2⟩⟩
noncomputable def dOp(g:D->D->Option D)(fa fb:DE):DE:=λρ=>(fa ρ).bind λra=>(fb ρ).bind λrb=>(g ra.d rb.d).map λd=>⟨d,true,[]⟩
theorem QkT{g:D->D->Option D}{fa fb:DE}{ρ:En}{r:R}(e:dOp g fa fb ρ=some r):∃ra rb d,fa ρ=some ra/\fb ρ=some rb/\g ra.d rb.d=some d/\r=⟨d,true,[]⟩:=by
 unfold dOp at e
 cases h1:fa ρ with
 | none=>rw[h1]at e;cases e
 | some ra=>
  cases h2:fb ρ with
  | none=>rw[h1,h2]at e;cases e
  | some rb=>
   rw[h1,h2]at e
   cases h3:g ra.d rb.d with
   | none=>simp[h3]at e
   | some d=>simp[h3]at e;exact⟨ra,rb,d,rfl,rfl,h3,e.symm⟩
def Qdm(K:PySem.W.Frag)(g:D->D->Option D)(r:R2):Prop:=∀a b d,g a b=some d->d.flat=true/\∀H x y F G (Q:VK),Rp K H a x F->Rp K H b y G->(∀v,(∀H',Rp K H' d v [])->Q v H)->r x y H Q
theorem Ql9{a b:Expr}{op:Operator}{pos:Pos}{fa fb:DE}{g:D->D->Option D}{r:R2}(ho:OpR X (binaryOp op) r)(hg:Qdm X.K g r)(ha:SE X a fa)(hb:SE X b fb):SE X (.BinOp a op b pos) (dOp g fa fb):=λH0 A0=>
 (QpX ho (ha H0 A0) (hb H0 A0)).mono λσ H Q ⟨ρ,hs,F,r',rel,e,q⟩=>by
  obtain⟨ra,rb,d,ea,eb,eg,rfl⟩:=QkT e
  refine two rel ea eb λx y H1 H2 G1 G2 p1 p2=>(hg _ _ _ eg).2 H2 x y G1 G2 Q (p1.rp.same p2.same) p2.rp λv hv=>?_
  exact q v H2 [] (.flat (p1.same.trans p2.same) (hv H2) (hg _ _ _ eg).1)
theorem QvT{a b:Expr}{op:CmpOp}{pos:Pos}{fa fb:DE}{g:D->D->Option D}{r:R2}(ho:OpR X (compareOp op) r)(hg:Qdm X.K g r)(ha:SE X a fa)(hb:SE X b fb)(hm:behindInMarks op b=false):SE X (.Compare a [op] [b] pos) (dOp g fa fb):=λH0 A0=>
 (Qu6 ho (ha H0 A0) (hb H0 A0) hm).mono λσ H Q ⟨ρ,hs,F,r',rel,e,q⟩=>by
  obtain⟨ra,rb,d,ea,eb,eg,rfl⟩:=QkT e
  refine two rel ea eb λx y H1 H2 G1 G2 p1 p2=>(hg _ _ _ eg).2 H2 x y G1 G2 Q (p1.rp.same p2.same) p2.rp λv hv=>?_
  exact q v H2 [] (.flat (p1.same.trans p2.same) (hv H2) (hg _ _ _ eg).1)
end
end HS
namespace HS
open PySem PySem.Spec L2
noncomputable def Qdo(i j:Int):Int:=if 0<=j then i / j else i.fdiv j
noncomputable def QcN(i j:Int):Int:=if 0<=j then i % j else i.fmod j
theorem QhZ(i j:Int):Qdo i j=i.fdiv j:=by
 unfold Qdo;split
 ·rw[Int.fdiv_eq_ediv_of_nonneg _ (by assumption)]
 ·rfl
theorem QhJ(i j:Int):QcN i j=i.fmod j:=by
 unfold QcN;split
 ·rw[Int.fmod_eq_emod_of_nonneg _ (by assumption)]
 ·rfl
noncomputable def QdT(i j:Int):Bool:=decide (i.natAbs<2^64) || decide (j.natAbs<2^64) || (decide (Builtin.Int.intBits i<=2^20) && decide (Builtin.Int.intBits j<=2^20))
noncomputable def Qbx(j:Int):Bool:=decide (j≠0) && decide (j.natAbs<2^8000)
noncomputable def gI(f:Int->Int->Option D)(a b:D):Option D:=match a,b with
 | .int i,.int j=>f i j
 | _,_=>none
noncomputable def QaP:=gI λi j=>some (.int (i-j))
noncomputable def Qcq:=gI λi j=>if Qbx j then some (.int (Qdo i j))else none
noncomputable def QaJ:=gI λi j=>if j≠0 then some (.int (QcN i j))else none
noncomputable def QgO:=gI λi j=>if 0<=j/\j<=1000/\i.natAbs<2^200 then some (.int (i^j.toNat))else none
noncomputable def gLt:=gI λi j=>some (.bl (decide (i<j)))
noncomputable def gLe:=gI λi j=>some (.bl (decide (i<=j)))
noncomputable def gGt:=gI λi j=>some (.bl (decide (j<i)))
noncomputable def gGe:=gI λi j=>some (.bl (decide (j<=i)))
theorem QqR{f:Int->Int->Option D}{a b d:D}(h:gI f a b=some d):∃i j,a= .int i/\b= .int j/\f i j=some d:=by
 unfold gI at h
 split at h
 ·exact⟨_,_,rfl,rfl,h⟩
 ·cases h
section
variable {K:PySem.W.Frag}{X:Cx}
theorem Qhj{f:Int->Int->Option D}{r:R2}(hf:∀i j d,f i j=some d->d.flat=true)(h:∀i j d,f i j=some d->∀H (Q:VK),(∀v,(∀H',Rp K H' d v [])->Q v H)->r (.int i) (.int j) H Q):Qdm K (gI f) r:=λa b d e=>by
 obtain⟨i,j,rfl,rfl,ef⟩:=QqR e
 refine⟨hf i j d ef,λH x y F G Q ha hb q=>?_⟩
 rw[ha.int_inv,hb.int_inv]
 exact h i j d ef H Q q
theorem QvH:Qdm K QaP (rI0 λi j=> .int (i-j)):=Qhj (λi j d e=>by cases e;rfl) λi j d e H Q q=>by cases e;exact⟨i,j,rfl,rfl,q _ λ_=> .int_mk⟩
theorem QsZ{i j:Int}(h:QdT i j=true):IntMulOk i j:=by
 have small:∀k:Int,k.natAbs<2^64->Builtin.Int.intBits k<=64:=λk hk=>by
  unfold Builtin.Int.intBits
  split
  ·omega
  ·rename_i h0;have h0':k.natAbs≠0:=λz=>by simp_all
   have:=(ZbU h0').mpr hk;omega
 unfold QdT at h
 simp only[ZbR,Zj,decide_eq_true_eq]at h
 rcases h with(h | h) | ⟨h1,h2⟩
 ·exact .of_left (small i h)
 ·exact .of_right (small j h)
 ·exact .of_bits h1 h2
theorem QuX:OpR X (binaryOp .Mult) (rI (λi j=>QdT i j=true) λi j=> .int (i*j)):=opI λ_ _ _ _ _ _ _ hc q=>PyProof.Rows.mul_int q (QsZ hc)
theorem QuJ:OpR X (binaryOp .FloorDiv) (rI (λi j=>Qbx j=true) λi j=> .int (Qdo i j)):=opI λi j _ _ _ _ _ hc q=>by
 unfold Qbx at hc
 simp only[Zj,decide_eq_true_eq]at hc
 rw[QhZ]at q
 refine PyProof.Rows.floordiv_int hc.1 q (.inl (Zbc ?_))
 have h0:j.natAbs≠0:=by omega
 exact ZbM ((ZbU h0).mpr hc.2) (by decide)
theorem Qvv:OpR X (binaryOp .Mod) (rI (λi j=>j≠0) λi j=> .int (QcN i j)):=opI λi j _ _ _ _ _ hc q=>by
 rw[QhJ]at q
 exact PyProof.Rows.mod_int' hc q
theorem Qxm:Qdm K Qcq (rI (λi j=>Qbx j=true) λi j=> .int (Qdo i j)):=Qhj (λi j d e=>by split at e<;>cases e;rfl) λi j d e H Q q=>by
 split at e
 ·cases e;exact⟨i,j,rfl,rfl,by assumption,q _ λ_=> .int_mk⟩
 ·cases e
theorem QwC:Qdm K QaJ (rI (λi j=>j≠0) λi j=> .int (QcN i j)):=Qhj (λi j d e=>by split at e<;>cases e;rfl) λi j d e H Q q=>by
 split at e
 ·cases e;exact⟨i,j,rfl,rfl,by assumption,q _ λ_=> .int_mk⟩
 ·cases e
theorem Qvl:OpR X (binaryOp .Pow) (rI (λi j=>0<=j/\j<=1000/\i.natAbs<2^200) λi j=> .int (i^j.toNat)):=opI λi j _ _ _ _ _ hc q=>by
 refine PyProof.Rows.pow_int hc.1 ?_ q
 have hb:Builtin.Int.intBits i<=200:=by
  unfold Builtin.Int.intBits
  split
  ·omega
  ·rename_i h0;have h0':i.natAbs≠0:=λz=>by simp_all
   have:=(ZbU h0').mpr hc.2.2;omega
 have h1:((Builtin.Int.intBits i:Nat):Int)*j<=200*1000:=Int.mul_le_mul (by omega) hc.2.1 hc.1 (by decide)
 omega
theorem Qxo:Qdm K QgO (rI (λi j=>0<=j/\j<=1000/\i.natAbs<2^200) λi j=> .int (i^j.toNat)):=Qhj (λi j d e=>by split at e<;>cases e;rfl) λi j d e H Q q=>by
 split at e
 ·rename_i h;cases e;exact⟨i,j,rfl,rfl,h,q _ λ_=> .int_mk⟩
 ·cases e
theorem QxD:Qdm K gLt (rI0 λi j=> .bl (decide (i<j))):=Qhj (λi j d e=>by cases e;rfl) λi j d e H Q q=>by cases e;exact⟨i,j,rfl,rfl,q _ λ_=> .Qd3⟩
theorem Qyd:Qdm K gLe (rI0 λi j=> .bl (decide (i<=j))):=Qhj (λi j d e=>by cases e;rfl) λi j d e H Q q=>by cases e;exact⟨i,j,rfl,rfl,q _ λ_=> .Qd3⟩
theorem QxJ:Qdm K gGt (rI0 λi j=> .bl (decide (j<i))):=Qhj (λi j d e=>by cases e;rfl) λi j d e H Q q=>by cases e;exact⟨i,j,rfl,rfl,q _ λ_=> .Qd3⟩
theorem QxL:Qdm K gGe (rI0 λi j=> .bl (decide (j<=i))):=Qhj (λi j d e=>by cases e;rfl) λi j d e H Q q=>by cases e;exact⟨i,j,rfl,rfl,q _ λ_=> .Qd3⟩
end
theorem Qc0:∀(xs ys:List D),Qae (xs++ys)=(Qae xs && Qae ys)
 | [],ys=>by simp[Qae]
 | x::xs,ys=>by simp[Qae,Qc0 xs ys,Bool.and_assoc]
noncomputable def Qbs(ds:List D)(M:List Nat):R:=if Qae ds then⟨.lst ds,true,[]⟩else⟨.lst ds,false,M⟩
section
variable {K:PySem.W.Frag}{H0 H H':Hp}{A0:List Addr}{hs:List (V×D×List Addr)}{ρ:En}{F:Nat->List Addr}{σ:L2.St}
theorem Qab.Qbs{ds:List D}{M:List Nat}{vs:List V}{G:List Addr}{H1:Hp}{p:Addr}(s:QN H H1)(hp:H1 p=none)(r:Rps K H1 ds vs G)(hz:ds.length<=sizeLine)(src:Src ρ F H M G)(ow:Qbb ρ M):
  Qab K ρ F H (upd H1 p (.lst vs)) (Qbs ds M) (.ref p) (p::G):=by
 have s2:QN H1 (upd H1 p (.lst vs)):=Qa8 hp
 have rp:Rp K (upd H1 p (.lst vs)) (.lst ds) (.ref p) (p::G):=Rp.QdZ Qai (r.same s2) hz
 have hH:H p=none:=s.free hp
 unfold HS.Qbs
 split
 ·rename_i hf
  have:=r.QbY hf
  subst this
  refine⟨s.trans s2,rp,λa ha=>?_,λ_=>⟨λa=>?_,by simp only[D.nl,Qjj ds hf];rfl⟩,Qbb.nil⟩
  ·have:a=p:=by simpa using ha
   subst this;exact .inl hH
  ·rw[List.count_singleton]
   split
   ·rename_i e;have e':p=a:=by simpa using e
    subst e';rw[Qbp hH];omega
   ·omega
 ·refine⟨s.trans s2,rp,λa ha=>?_,λz=>(by cases z),ow⟩
  rcases Zm.mp ha with rfl | h
  ·exact .inl hH
  ·exact src a h
end
noncomputable def Q8(fa fb:DE):DE:=λρ=>(fa ρ).bind λra=>(fb ρ).bind λrb=>match ra.d,rb.d with
 | .int i,.int j=>some ⟨.int (i+j),true,[]⟩
 | .lst xs,.lst ys=>if xs.length+ys.length<=sizeLine then some (Qbs (xs++ys) (ra.M++rb.M))else none
 | _,_=>none
noncomputable def Qaq(fa fb:DE):DE:=λρ=>(fa ρ).bind λra=>(fb ρ).bind λrb=>match ra.d,rb.d with
 | .int i,.int j=>if QdT i j then some ⟨.int (i*j),true,[]⟩else none
 | .lst xs,.int j=>if xs.length*j.toNat<=sizeLine/\ -(2^63)<=j/\j<2^63/\Qae xs=true then some ⟨.lst (List.replicate j.toNat xs).flatten,true,[]⟩else none
 | _,_=>none
theorem QpD{fa fb:DE}{ρ:En}{k:R->R->Option R}{r:R}(e:((fa ρ).bind λra=>(fb ρ).bind λrb=>k ra rb)=some r):∃ra rb,fa ρ=some ra/\fb ρ=some rb/\k ra rb=some r:=by
 cases h1:fa ρ with
 | none=>rw[h1]at e;cases e
 | some ra=>
  cases h2:fb ρ with
  | none=>rw[h1,h2]at e;cases e
  | some rb=>rw[h1,h2]at e;exact⟨ra,rb,rfl,rfl,e⟩
theorem bind1{α β:Type}{x:Option α}{k:α->Option β}{r:β}(e:x.bind k=some r):∃a,x=some a/\k a=some r:=by
 cases x with
 | none=>cases e
 | some a=>exact⟨a,rfl,e⟩
section
variable {X:Cx}{a b:Expr}{fa fb:DE}{pos:Pos}
noncomputable def Qyn(K:PySem.W.Frag):R2:=λx y H Q=>∃l c xs zs,x= .ref l/\y= .ref c/\(H l=some (.lst xs)∨Fix K H l xs)/\(H c=some (.lst zs)∨Fix K H c zs)/\xs.length+zs.length<=sizeLine/\∀p,H p=none->Q (.ref p) (upd H p (.lst (xs++zs)))
theorem Qvz:OpR X (binaryOp .Add) (Qyn X.K):=by
 intro pins s σ H x y v u Q I rx ry h
 obtain⟨l,c,xs,zs,rfl,rfl,hH,hB,hz,q⟩:=h
 cases rx
 cases ry
 obtain⟨z,its,n,r,hl,e⟩:=I.Qmq hH
 obtain⟨z2,its2,n2,r2,hl2,e2⟩:=I.Qmq hB
 refine PySem.P.add_list e e2 ?_ (by rw[Zw,Zw];omega)
 have ea:its.toArray++its2.toArray=(its++its2).toArray:=by simp
 rw[ea]
 exact⟨.ref _,_,I.Qwq (t':=s.toks) (r.append r2) (by rw[Zt];omega),rfl,q _ I.fresh⟩
theorem QvS(ha:SE X a fa)(hb:SE X b fb):SE X (.BinOp a .Add b pos) (Q8 fa fb):=λH0 A0=>
 (QpX (Qv8.or Qvz) (ha H0 A0) (hb H0 A0)).mono λσ H Q ⟨ρ,hs,F,r',rel,e,q⟩=>by
  obtain⟨ra,rb,ea,eb,ek⟩:=QpD e
  refine two rel ea eb λx y H1 H2 G1 G2 p1 p2=>?_
  have p1':=p1.rp.same p2.same
  have p2':=p2.rp
  have c1:=p1.src.append p2.src p1.same
  have o1:=p1.own.append p2.own
  revert ek
  revert p1' p2'
  cases ra.d<;>cases rb.d<;>intro p1' p2' ek<;>first | (cases ek;done) | skip
  ·cases ek
   rw[p1'.int_inv,p2'.int_inv]
   exact .inl ⟨_,_,rfl,rfl,q _ H2 [] (.flat (p1.same.trans p2.same) .int_mk)⟩
  ·rename_i xs ys
   dsimp only at ek
   split at ek
   ·rename_i hz
    cases ek
    obtain⟨l,vs,L1,rfl,hl,rl,zl,el⟩:=p1'.lst_inv
    obtain⟨c,ws,L2',rfl,hc,rc,zc,ec⟩:=p2'.lst_inv
    have n1:=rl.length
    have n2:=rc.length
    refine .inr ⟨l,c,vs,ws,rfl,rfl,hl,hc,by omega,λp hp=>?_⟩
    refine q _ _ (p::(L1++L2')) (Qab.Qbs (p1.same.trans p2.same) hp (rl.append rc) (by rw[Zt];exact hz) (λa ha=>c1 a ?_) o1)
    rcases ZJ.mp ha with h | h
    ·refine Zh _ ?_
     rcases el with rfl | rfl
     ·exact Zg _ h
     ·exact h
    ·refine Zc _ ?_
     rcases ec with rfl | rfl
     ·exact Zg _ h
     ·exact h
   ·cases ek
noncomputable def Qxy(K:PySem.W.Frag):R2:=λx y H Q=>∃l k xs,x= .ref l/\y= .int k/\(H l=some (.lst xs)∨Fix K H l xs)/\ -(2^63)<=k/\k<2^63/\xs.length*k.toNat<=sizeLine∧
 ∀p,H p=none->Q (.ref p) (upd H p (.lst (List.replicate k.toNat xs).flatten))
theorem QuC:OpR X (binaryOp .Mult) (Qxy X.K):=by
 intro pins s σ H x y v u Q I rx ry h
 obtain⟨l,k,xs,rfl,rfl,hH,h1,h2,hz,q⟩:=h
 cases rx
 obtain⟨t,rfl⟩:=ry
 obtain⟨z,its,n,r,hl,e⟩:=I.Qmq hH
 have hlen:its.toArray.size*k.toNat<=sizeLine:=by rw[Zw,← hl];exact hz
 have hcap:¬its.toArray.size*k.toNat>(2^63-1) / 8:=by
  have:(sizeLine:Nat)<=(2^63-1) / 8:=by decide
  omega
 have hfit:¬(!Builtin.List.listFitsIndex k)=true:=by
  rw[fitsIndex_both h1 h2]
  exact Zao
 have hlong:¬Builtin.List.listTooLong (its.toArray.size*k.toNat)=true:=by
  rw[Qsb hlen]
  exact Zao
 have hnew:List.foldl (λx1 x2=>x1++x2) #[] (List.replicate (if its.toArray.isEmpty=true then 0 else k.toNat) its.toArray)=(List.replicate k.toNat its).flatten.toArray:=by
  have f0:∀m:Nat,List.foldl (λx1 x2=>x1++x2) #[] (List.replicate m its.toArray)=(List.replicate m its).flatten.toArray:=λm=>by
   have:=foldl_rep its m []
   rw[Zbd]at this
   exact this
  rw[f0]
  cases its with
  | nil=>simp
  | cons a r'=>rw[if_neg (by simp)]
 open PyProof.Rows in
 refine wpAny_binaryOp_repeat_ref (by decide) ⟨_,e,rfl⟩ (λs'=>typeIs_int s' k t) noFill_list_mul F.fills_int_mul F.slot_int_rmul repeat_list F.slot_int_index.lookup
  (call_meets F.slot_int_rmul (typeIs_int s k t) F.entry_int_rmul (F.args_int_rmul_2 _ _) (int___rmul___int_list k t l its.toArray n)
   ⟨e,rfl,⟨_,e,rfl⟩,call_meets F.slot_list_mul ⟨_,e,rfl⟩ F.entry_list_mul (F.args_list_mul_2 _ _) (AutoListH.list___mul___list_int_3 l its.toArray n k t hfit hcap hlong) ⟨e,?_⟩⟩)
 rw[hnew]
 exact⟨.ref _,_,I.Qwq (t':=s.toks) (r.rep k.toNat) (by rw[len_rep,ZaH];exact hz),rfl,q _ I.fresh⟩
theorem Qlr{xs:List D}(h:Qae xs=true):∀n:Nat,Qae (List.replicate n xs).flatten=true
 | 0=>by simp[Qae]
 | n+1=>by rw[Zae,Zak,Qc0,h,Qlr h n];rfl
theorem Rps.rep{K:PySem.W.Frag}{H:Hp}{ds:List D}{vs:List V}(h:Rps K H ds vs []):∀n:Nat,Rps K H (List.replicate n ds).flatten (List.replicate n vs).flatten []
 | 0=>by simp[Rps]
 | n+1=>by rw[Zae,Zak,Zae,Zak];exact h.append (Rps.rep h n)
theorem Qwh(ha:SE X a fa)(hb:SE X b fb):SE X (.BinOp a .Mult b pos) (Qaq fa fb):=λH0 A0=>
 (QpX (QuX.or QuC) (ha H0 A0) (hb H0 A0)).mono λσ H Q ⟨ρ,hs,F,r',rel,e,q⟩=>by
  obtain⟨ra,rb,ea,eb,ek⟩:=QpD e
  refine two rel ea eb λx y H1 H2 G1 G2 p1 p2=>?_
  have p1':=p1.rp.same p2.same
  have p2':=p2.rp
  revert ek
  revert p1' p2'
  cases ra.d<;>cases rb.d<;>intro p1' p2' ek<;>first | (cases ek;done) | skip
  ·dsimp only at ek
   split at ek
   ·rename_i hm
    cases ek
    rw[p1'.int_inv,p2'.int_inv]
    exact .inl ⟨_,_,rfl,rfl,hm,q _ H2 [] (.flat (p1.same.trans p2.same) .int_mk)⟩
   ·cases ek
  ·rename_i xs j
   dsimp only at ek
   split at ek
   ·rename_i hz
    cases ek
    obtain⟨hz1,hz2,hz3,hf⟩:=hz
    obtain⟨l,vs,L1,rfl,hl,rl,zl,el⟩:=p1'.lst_inv
    have n1:=rl.length
    have e0:=rl.QbY hf
    subst e0
    rw[p2'.int_inv]
    refine .inr ⟨l,j,vs,rfl,rfl,hl,hz2,hz3,by rw[← n1];exact hz1,λp hp=>?_⟩
    have w:HS.Qbs (List.replicate j.toNat xs).flatten []=⟨.lst (List.replicate j.toNat xs).flatten,true,[]⟩:=by
     unfold HS.Qbs;rw[if_pos (Qlr hf _)]
    rw[← w]at q
    exact q _ _ (p::[]) (Qab.Qbs (p1.same.trans p2.same) hp (rl.rep _) (by rw[len_rep,ZaH];exact hz1) Src.nil Qbb.nil)
   ·cases ek
end
end HS
namespace HS
open PySem PySem.Spec L2
noncomputable def Qg:DA:=λ_=>some ⟨[],true,[]⟩
noncomputable def Qd(fa:DE)(fr:DA):DA:=λρ=>(fa ρ).bind λr=>(fr ρ).bind λrs=>some ⟨r.d::rs.ds,r.fr && rs.fr,r.M++rs.M⟩
noncomputable def Qe3(fa:DA):DE:=λρ=>(fa ρ).bind λr=>if r.ds.length<=64 then some ⟨.tup r.ds,r.fr,r.M⟩else none
noncomputable def Qav(fa:DA):DE:=λρ=>(fa ρ).bind λr=>if r.ds.length<=64 then some ⟨.lst r.ds,r.fr,r.M⟩else none
section
variable {X:Cx}{a b e:Expr}{es:List Expr}{fa fb:DE}{fs:DA}{pos:Pos}
theorem Qjq:SA X [] Qg:=λH0 A0=>Qds.mono λσ H Q ⟨ρ,hs,F,r',rel,e,q⟩=>by
 cases e
 exact q [] H [] ⟨QN.refl _,by simp[Rps],Src.nil,λ_=>⟨Cnt.nil,rfl⟩,Qbb.nil⟩
theorem Qgi(ha:SE X e fa)(hr:SA X es fs)(hs:starEach (e::es) X.env=(false,eval e X.env)::starEach es X.env):SA X (e::es) (Qd fa fs):=λH0 A0=>
 (QaB (ha H0 A0) (hr H0 A0) hs).mono λσ H Q ⟨ρ,hs,F,r',rel,e,q⟩=>by
  obtain⟨r,e1,e⟩:=bind1 e
  obtain⟨rs,e2,e⟩:=bind1 e
  cases e
  refine⟨ρ,hs,F,r,rel,e1,λx H1 G1 p1=>⟨ρ,hs,F,rs,rel.ext p1.same,e2,λxs H2 G2 p2=>?_⟩⟩
  refine q _ H2 (G1++G2) ⟨p1.same.trans p2.same,?_,p1.src.append p2.src p1.same,λh=>?_,p1.own.append p2.own⟩
  ·simp only[Rps]
   exact⟨x,xs,G1,G2,rfl,rfl,p1.rp.same p2.same,p2.rp⟩
  ·simp only[Zj]at h
   exact⟨(p1.cnt h.1).1.append rel (p2.cnt h.2).1 p1.same p1.rp.mem,by simp only[nls,Zt,(p1.cnt h.1).2,(p2.cnt h.2).2]⟩
theorem Qd2{n:Nat}(h:n<=64):n<=sizeLine:=Zk h (by decide)
theorem QwI{k:Nat}(ha:SA X es fs):SE X (.Tuple es k pos) (Qe3 fs):=λH0 A0=>
 (Qqw (ha H0 A0)).mono λσ H Q ⟨ρ,hs,F,r',rel,e,q⟩=>by
  obtain⟨r,e1,e⟩:=bind1 e
  split at e
  ·rename_i hz
   cases e
   refine⟨ρ,hs,F,r,rel,e1,λxs H1 G p=>⟨by rw[← p.rp.length];exact Qd2 hz,λc hc=>q _ _ G ⟨p.same.trans (Qa8 hc),Rp.Qgb Qai (p.rp.same (Qa8 hc)),p.src,λh=>⟨(p.cnt h).1,by simp only[D.nl];exact(p.cnt h).2⟩,p.own⟩⟩⟩
  ·cases e
theorem Qxb(ha:SA X es fs):SE X (.List es pos) (Qav fs):=λH0 A0=>
 (Qw1 (ha H0 A0)).mono λσ H Q ⟨ρ,hs,F,r',rel,e,q⟩=>by
  obtain⟨r,e1,e⟩:=bind1 e
  split at e
  ·rename_i hz
   cases e
   refine⟨ρ,hs,F,r,rel,e1,λxs H1 G p=>⟨by rw[← p.rp.length];exact Qd2 hz,λc hc=>?_⟩⟩
   have hH:H c=none:=p.same.free hc
   refine q _ _ (c::G) ⟨p.same.trans (Qa8 hc),Rp.QdZ Qai (p.rp.same (Qa8 hc)) (Qd2 hz),λz hz'=>?_,λh=>⟨λz=>?_,by simp only[D.nl,ZE,(p.cnt h).2]⟩,p.own⟩
   ·rcases Zm.mp hz' with rfl | h
    ·exact .inl hH
    ·exact p.src z h
   ·rw[ZaE]
    have:=(p.cnt h).1 z
    split
    ·rename_i e'
     have e':c=z:=by simpa using e'
     subst e'
     have h0:G.count c=0:=ZP.mpr λhm=>by obtain⟨vs,w⟩:=p.rp.mem c hm;rw[hc]at w;cases w
     rw[Qbp hH];omega
    ·exact this
  ·cases e
noncomputable def D.items:D->Option (List D)
 | .lst xs=>some xs
 | .tup xs=>some xs
 | _=>none
noncomputable def Ql(fa fb:DE):DE:=λρ=>(fa ρ).bind λra=>(fb ρ).bind λrb=>match rb.d with
 | .int i=>(ra.d.items).bind λxs=>(atI xs i).map λd=>(R.norm ⟨d,ra.fr,ra.M⟩)
 | _=>none
theorem QuI{α β:Type}{xs:List α}{i:Int}{d:α}(h:atI xs i=some d):∃j:Nat,xs[j]? =some d/\∀(ys:List β),ys.length=xs.length->∀y,ys[j]? =some y->atI ys i=some y:=by
 unfold atI at h
 cases e:ixN xs.length i with
 | none=>rw[e]at h;cases h
 | some j=>
  rw[e]at h
  refine⟨j,h,λys hl y hy=>?_⟩
  unfold atI
  rw[hl,e]
  exact hy
theorem Qv5(ha:SE X a fa)(hb:SE X b fb)(hs:QhL b):SE X (.Subscript a b pos) (Ql fa fb):=λH0 A0=>
 (Qj6 (QoW.or QhH) (ha H0 A0) (hb H0 A0) hs).mono λσ H Q ⟨ρ,hs,F,r',rel,e,q⟩=>by
  obtain⟨ra,rb,ea,eb,ek⟩:=QpD e
  refine two rel ea eb λx y H1 H2 G1 G2 p1 p2=>?_
  have p1':=p1.rp.same p2.same
  have p2':=p2.rp
  have pp:Qab X.K ρ F H H2 ra x G1:=⟨p1.same.trans p2.same,p1',p1.src,p1.cnt,p1.own⟩
  cases hb':rb.d with
  | int i=>
   rw[hb']at ek p2'
   rw[p2'.int_inv]
   obtain⟨xs,ex,ek⟩:=bind1 ek
   obtain⟨d,ed,ek⟩:=Zf.mp ek
   subst ek
   obtain⟨j,hj,hm⟩:=QuI ed
   have fin:∀(L:List Addr) (vs:List V),Rps X.K H2 xs vs L->(∀z,L.count z<=G1.count z)->(G1.length=ra.d.nl->L.length=nls xs)->∃v,atI vs i=some v/\Q v H2:=λL vs rl hc hn=>by
    obtain⟨v,F1,G,F2,hv,eF,rv,hx⟩:=rl.get hj
    refine⟨v,hm vs rl.length.symm v hv,q v H2 G (Qab.norm (Qab.sub pp rv (λz=>Zk ?_ (hc z)) λz=>hx (hn z)))⟩
    rw[eF,Zag,Zag];omega
   cases hra:ra.d with
   | lst ys=>
    rw[hra]at ex p1'
    cases ex
    obtain⟨l,vs,L,rfl,hl,rl,zl,el⟩:=p1'.lst_inv
    have hn:G1.length=ra.d.nl->L.length=nls xs:=λhz=>by
     have:=rl.Qal
     simp only[hra,D.nl]at hz
     rcases el with rfl | rfl
     ·rw[ZE]at hz;omega
     ·omega
    have hc:∀z,L.count z<=G1.count z:=λz=>by
     rcases el with rfl | rfl
     ·rw[ZaE];omega
     ·exact Zi _
    obtain⟨v,h1,h2⟩:=fin L vs rl hc hn
    exact .inl ⟨l,vs,i,v,rfl,rfl,Qah hl,h1,h2⟩
   | tup ys=>
    rw[hra]at ex p1'
    cases ex
    obtain⟨l,vs,rfl,hl,rl⟩:=p1'.Qa3
    obtain⟨v,h1,h2⟩:=fin G1 vs rl (λz=>Zi _) λz=>(by simpa only[hra,D.nl]using z)
    exact .inr ⟨l,vs,i,v,rfl,rfl,hl,h1,h2⟩
   | _=>rw[hra]at ex;cases ex
  | _=>rw[hb']at ek;cases ek
noncomputable abbrev DO:=En->Option (Option Int)
noncomputable def QcS:DO:=λ_=>some none
noncomputable def Qbd(f:DE):DO:=λρ=>(f ρ).bind λr=>match r.d with
 | .int i=>some (some i)
 | _=>none
noncomputable def tVO(K:PySem.W.Frag)(H0:Hp)(A0:List Addr)(f:DO):TO:=λσ H Q=>∃ρ hs F o,Rel K H0 A0 hs ρ F σ H/\f ρ=some o/\∀H',QN H H'->Q o H'
def SO(X:Cx)(e:Option Expr)(f:DO):Prop:=∀H0 A0,PO X e (tVO X.K H0 A0 f)
theorem _root_.L2.PO.mono{X:Cx}{e:Option Expr}{t t':TO}(h:PO X e t)(m:∀σ H Q,t' σ H Q->t σ H Q):PO X e t':=by
 intro pins s σ H Q I q
 exact h pins s σ H Q I (m σ H Q q)
theorem Quj:SO X none QcS:=λH0 A0=>Quz.mono λσ H Q ⟨ρ,hs,F,o,rel,e,q⟩=>by
 cases e
 exact q H (QN.refl _)
theorem Qvo(h:SE X a fa):SO X (some a) (Qbd fa):=λH0 A0=>(QuA (h H0 A0)).mono λσ H Q ⟨ρ,hs,F,o,rel,e,q⟩=>by
 obtain⟨r,e1,e⟩:=bind1 e
 refine⟨ρ,hs,F,r,rel,e1,λv H1 G p=>?_⟩
 have rp:=p.rp
 cases hr:r.d with
 | int i=>
  rw[hr]at e rp
  cases e
  exact⟨i,rp.int_inv,q H1 p.same⟩
 | _=>rw[hr]at e;cases e
noncomputable def cutD(xs:List D)(lo hi:Option Int):List D:=(xs.drop (HT.sIx xs.length 0 lo)).take (HT.sIx xs.length xs.length hi-HT.sIx xs.length 0 lo)
noncomputable def QcV(fa:DE)(lo hi:DO):DE:=λρ=>(fa ρ).bind λra=>(lo ρ).bind λl=>(hi ρ).bind λh=>match ra.d with
 | .lst xs=>some (Qbs (cutD xs l h) ra.M)
 | _=>none
theorem Rps.drop:∀{ds:List D}{vs:List V}{F:List Addr}{K:PySem.W.Frag}{H:Hp}(n:Nat),Rps K H ds vs F->∃G,Rps K H (ds.drop n) (vs.drop n) G/\∀a∈G,a∈F
 | [],vs,F,K,H,n,h=>by simp only[Rps]at h;rw[h.1,h.2];exact⟨[],by simp[Rps],λ_ h=>h⟩
 | d::ds,vs,F,K,H,0,h=>⟨F,by simpa using h,λ_ h=>h⟩
 | d::ds,vs,F,K,H,n+1,h=>by
  simp only[Rps]at h
  obtain⟨v,ws,F1,F2,e,eF,r,q⟩:=h
  subst e eF
  obtain⟨G,h1,h2⟩:=Rps.drop n q
  exact⟨G,by simpa using h1,λa ha=>Zc _ (h2 a ha)⟩
theorem Rps.take:∀{ds:List D}{vs:List V}{F:List Addr}{K:PySem.W.Frag}{H:Hp}(n:Nat),Rps K H ds vs F->∃G,Rps K H (ds.take n) (vs.take n) G/\∀a∈G,a∈F
 | [],vs,F,K,H,n,h=>by simp only[Rps]at h;rw[h.1,h.2];exact⟨[],by simp[Rps],λ_ h=>h⟩
 | d::ds,vs,F,K,H,0,h=>⟨[],by simp[Rps],λ_ h=>by simp at h⟩
 | d::ds,vs,F,K,H,n+1,h=>by
  simp only[Rps]at h
  obtain⟨v,ws,F1,F2,e,eF,r,q⟩:=h
  subst e eF
  obtain⟨G,h1,h2⟩:=Rps.take n q
  refine⟨F1++G,?_,λa ha=>?_⟩
  ·simp only[List.take_succ_cons,Rps]
   exact⟨v,_,F1,G,rfl,rfl,r,h1⟩
  ·rcases ZJ.mp ha with h | h
   ·exact Zh _ h
   ·exact Zc _ (h2 a h)
theorem QvD{lo hi:Option Expr}{fl fh:DO}{p2:Pos}(ha:SE X a fa)(hl:SO X lo fl)(hh:SO X hi fh):SE X (.Subscript a (.Slice lo hi none p2) pos) (QcV fa fl fh):=λH0 A0=>
 (Qtl QuW (ha H0 A0) (hl H0 A0) (hh H0 A0)).mono λσ H Q ⟨ρ,hs,F,r',rel,e,q⟩=>by
  obtain⟨ra,e1,e⟩:=bind1 e
  obtain⟨l,e2,e⟩:=bind1 e
  obtain⟨h,e3,e⟩:=bind1 e
  refine⟨ρ,hs,F,ra,rel,e1,λx H1 G1 p1=>⟨ρ,hs,F,l,rel.ext p1.same,e2,λH2 s2=>⟨ρ,hs,F,h,(rel.ext p1.same).ext s2,e3,λH3 s3=>?_⟩⟩⟩
  have rp:=p1.rp.same (s2.trans s3)
  cases hra:ra.d with
  | lst xs=>
   rw[hra]at e rp
   cases e
   obtain⟨c,vs,L,rfl,hc,rl,zl,el⟩:=rp.lst_inv
   refine⟨c,vs,rfl,Qah hc,λp hp=>?_⟩
   obtain⟨G2,h2,m2⟩:=rl.drop (HT.sIx xs.length 0 l)
   obtain⟨G3,h3,m3⟩:=h2.take (HT.sIx xs.length xs.length h-HT.sIx xs.length 0 l)
   have n1:=rl.length
   rw[show Qk7 vs l h=(vs.drop (HT.sIx xs.length 0 l)).take (HT.sIx xs.length xs.length h-HT.sIx xs.length 0 l) by unfold Qk7;rw[n1]]
   refine q _ _ (p::G3) (Qab.Qbs (p1.same.trans (s2.trans s3)) hp h3 ?_ (λz hz=>p1.src z ?_) p1.own)
   ·unfold cutD;rw[ZaY,List.length_drop];omega
   ·have:=m2 z (m3 z hz)
    rcases el with rfl | rfl
    ·exact Zg _ this
    ·exact this
  | _=>rw[hra]at e;cases e
noncomputable def dBf(g:List D->Option D)(fs:DA):DE:=λρ=>(fs ρ).bind λr=>(g r.ds).map λd=>⟨d,true,[]⟩
def Qex(K:PySem.W.Frag)(g:List D->Option D)(r:List V->Hp->VK->Prop):Prop:=∀ds d,g ds=some d->d.flat=true/\∀H vs F (Q:VK),Rps K H ds vs F->(∀v,(∀H',Rp K H' d v [])->Q v H)->r vs H Q
theorem QjV{x:Str}{id:String}{g:List D->Option D}{r:List V->Hp->VK->Prop}{p:Pos}(hc:Qbv X (.builtin id) r)(hk:Qex X.K g r)(hg:Gl X x)(hm:X.mg x=none)(hv:bootBuiltins x=some (.builtin id))(ha:SA X (e::es) fs)(hn:x≠ "__name__")(hdb:(x == ("__debug__" :Str))=false)
  (he:starEach (e::es) X.env=(false,eval e X.env)::starEach es X.env) (hpl:(backTo pos (starEach es X.env)).any (·.1)=false):SE X (.Call (.Name x p) (e::es) [] pos) (dBf g fs):=λH0 A0=>
 (Qi3 hc hg hm hv (ha H0 A0) hn hdb he hpl).mono λσ H Q ⟨ρ,hs,F,r',rel,e,q⟩=>by
  obtain⟨ra,e1,e⟩:=bind1 e
  obtain⟨d,ed,e⟩:=Zf.mp e
  subst e
  exact⟨ρ,hs,F,ra,rel,e1,λvs H1 G p1=>(hk _ _ ed).2 H1 vs G Q p1.rp λv hv=>q v H1 [] (.flat p1.same (hv _) (hk _ _ ed).1)⟩
theorem Rps.one{K:PySem.W.Frag}{H:Hp}{d:D}{vs:List V}{F:List Addr}(h:Rps K H [d] vs F):∃v,vs=[v]/\Rp K H d v F:=by
 simp only[Rps]at h
 obtain⟨v,ws,F1,F2,rfl,rfl,r,rfl,rfl⟩:=h
 exact⟨v,rfl,by simpa using r⟩
theorem Rps.two{K:PySem.W.Frag}{H:Hp}{d e:D}{vs:List V}{F:List Addr}(h:Rps K H [d,e] vs F):∃v w F1 F2,vs=[v,w]/\Rp K H d v F1/\Rp K H e w F2:=by
 simp only[Rps]at h
 obtain⟨v,ws,F1,F2,rfl,rfl,r,w,ws',F3,F4,rfl,rfl,r2,rfl,rfl⟩:=h
 exact⟨v,w,F1,F3,rfl,r,r2⟩
noncomputable def Qat:List D->Option D
 | [.lst xs]=>some (.int xs.length)
 | [.tup xs]=>some (.int xs.length)
 | _=>none
theorem Qwe{K:PySem.W.Frag}:Qex K Qat (λxs H Q=>∃p ys,xs=[.ref p]/\(SqL K H p ys∨SqT K H p ys)/\Q (.int ys.length) H):=λds d e=>by
 unfold Qat at e
 split at e
 ·cases e
  refine⟨rfl,λH vs F Q r q=>?_⟩
  obtain⟨v,rfl,rp⟩:=r.one
  obtain⟨l,ws,L,rfl,hl,rl,zl,el⟩:=rp.lst_inv
  exact⟨l,ws,rfl,.inl (Qah hl),by rw[← rl.length];exact q _ λ_=> .int_mk⟩
 ·cases e
  refine⟨rfl,λH vs F Q r q=>?_⟩
  obtain⟨v,rfl,rp⟩:=r.one
  obtain⟨l,ws,rfl,hl,rl⟩:=rp.Qa3
  exact⟨l,ws,rfl,.inr hl,by rw[← rl.length];exact q _ λ_=> .int_mk⟩
 ·cases e
noncomputable def QhY:List D->Option D
 | [.int i,.int j]=>some (.int (if j<i then j else i))
 | _=>none
noncomputable def Qh1:List D->Option D
 | [.int i,.int j]=>some (.int (if j>i then j else i))
 | _=>none
noncomputable def Qho:List D->Option D
 | [.int i]=>some (.int (if i<0 then-i else i))
 | _=>none
theorem Quu{K:PySem.W.Frag}:Qex K QhY (λxs H Q=>∃i j,xs=[.int i,.int j]/\Q (.int (if j<i then j else i)) H):=λds d e=>by
 unfold QhY at e
 split at e
 ·cases e
  refine⟨rfl,λH vs F Q r q=>?_⟩
  obtain⟨v,w,F1,F2,rfl,r1,r2⟩:=r.two
  exact⟨_,_,by rw[r1.int_inv,r2.int_inv],q _ λ_=> .int_mk⟩
 ·cases e
theorem QuB{K:PySem.W.Frag}:Qex K Qh1 (λxs H Q=>∃i j,xs=[.int i,.int j]/\Q (.int (if j>i then j else i)) H):=λds d e=>by
 unfold Qh1 at e
 split at e
 ·cases e
  refine⟨rfl,λH vs F Q r q=>?_⟩
  obtain⟨v,w,F1,F2,rfl,r1,r2⟩:=r.two
  exact⟨_,_,by rw[r1.int_inv,r2.int_inv],q _ λ_=> .int_mk⟩
 ·cases e
theorem Qv4{K:PySem.W.Frag}:Qex K Qho (λxs H Q=>∃i,xs=[.int i]/\Q (.int (if i<0 then-i else i)) H):=λds d e=>by
 unfold Qho at e
 split at e
 ·cases e
  refine⟨rfl,λH vs F Q r q=>?_⟩
  obtain⟨v,rfl,r1⟩:=r.one
  exact⟨_,by rw[r1.int_inv],q _ λ_=> .int_mk⟩
 ·cases e
noncomputable def dList(fs:DA):DE:=λρ=>(fs ρ).bind λr=>match r.ds with
 | [.lst xs]=>some (Qbs xs r.M)
 | [.tup xs]=>if xs.length<=sizeLine then some (Qbs xs r.M)else none
 | _=>none
theorem Quq{p:Pos}(hg:Gl X "list")(hm:X.mg "list" =none)(ha:SA X (e::es) fs)(he:starEach (e::es) X.env=(false,eval e X.env)::starEach es X.env)(hpl:(backTo pos (starEach es X.env)).any (·.1)=false):
  SE X (.Call (.Name "list" p) (e::es) [] pos) (dList fs):=λH0 A0=>
 (QfA Qg5 hg hm Zbn (ha H0 A0) (by decide) (by decide) he hpl).mono λσ H Q ⟨ρ,hs,F,r',rel,e,q⟩=>by
  obtain⟨ra,e1,e⟩:=bind1 e
  refine⟨ρ,hs,F,ra,rel,e1,λvs H1 G p1=>?_⟩
  have rp:=p1.rp
  have src:=p1.src
  split at e
  ·rename_i xs hds
   cases e
   rw[hds]at rp
   obtain⟨v,rfl,rq⟩:=rp.one
   obtain⟨l,ws,L,rfl,hl,rl,zl,el⟩:=rq.lst_inv
   refine⟨l,ws,rfl,.inl (Qah hl),λc hc=>q _ _ (c::L) (Qab.Qbs p1.same hc rl zl (λz hz=>src z ?_) p1.own)⟩
   rcases el with rfl | rfl
   ·exact Zg _ hz
   ·exact hz
  ·rename_i xs hds
   split at e
   ·rename_i hz
    cases e
    rw[hds]at rp
    obtain⟨v,rfl,rq⟩:=rp.one
    obtain⟨l,ws,rfl,hl,rl⟩:=rq.Qa3
    exact⟨l,ws,rfl,.inr hl,λc hc=>q _ _ (c::G) (Qab.Qbs p1.same hc rl hz src p1.own)⟩
   ·cases e
  ·cases e
end
end HS
namespace HS
open PySem PySem.Spec L2
mutual
noncomputable def D.py:D->PyData
 | .non=> .none
 | .bl b=> .bool b
 | .int i=> .int i
 | .str x=> .str x
 | .tup xs=> .tuple (pys xs)
 | .lst xs=> .list (pys xs)
 | .exc _=> .none
noncomputable def pys:List D->List PyData
 | []=>[]
 | d::ds=>d.py::pys ds
end
theorem QoR:∀ds:List D,pys ds=ds.map D.py
 | []=>rfl
 | d::ds=>by simp[pys,QoR ds]
noncomputable def D.sim:Nat->D->Bool
 | _,.non=>true
 | _,.bl _=>true
 | _,.int _=>true
 | _,.str x=>PyData.canLay0 (.str x)
 | 0,.tup xs=>xs.isEmpty
 | 0,.lst xs=>xs.isEmpty
 | n+1,.tup xs=>xs.all (D.sim n)
 | n+1,.lst xs=>xs.all (D.sim n)
 | _,.exc _=>false
theorem Qfl:∀{ds:List D},(∀d∈ds,d.py.canLay0=true)->PyData.canLayAll0 (pys ds)=true
 | [],_=>rfl
 | d::ds,h=>by
  simp only[pys,PyData.canLayAll0,Zj]
  exact⟨h d Zq,Qfl λe he=>h e (Zg _ he)⟩
theorem QfU{n:Nat}:∀{ds:List D},(∀d∈ds,d.py.depth<=n)->PyData.depthAll (pys ds)<=n
 | [],_=>ZS _
 | d::ds,h=>by
  simp only[pys,PyData.depthAll]
  exact Nat.max_le.mpr ⟨h d Zq,QfU λe he=>h e (Zg _ he)⟩
theorem Qb1:∀(n:Nat) (d:D),d.sim n=true->d.py.canLay0=true/\d.py.depth<=n+1
 | n,.exc _,h=>by cases n<;>cases h
 | n,.non,_=>by simp[D.py,PyData.canLay0,PyData.depth]
 | n,.bl _,_=>by simp[D.py,PyData.canLay0,PyData.depth]
 | n,.int _,_=>by simp[D.py,PyData.canLay0,PyData.depth]
 | n,.str x,h=>by
  simp only[D.py,PyData.depth]
  refine⟨?_,ZS _⟩
  cases n<;>exact h
 | 0,.tup xs,h=>by
  have:xs=[]:=by simpa[D.sim]using h
  subst this
  simp[D.py,pys,PyData.canLay0,PyData.canLayAll0,PyData.depth,PyData.depthAll]
 | 0,.lst xs,h=>by
  have:xs=[]:=by simpa[D.sim]using h
  subst this
  simp[D.py,pys,PyData.canLay0,PyData.canLayAll0,PyData.depth,PyData.depthAll]
 | n+1,.tup xs,h=>by
  simp only[D.sim,Zai]at h
  simp only[D.py,PyData.canLay0,PyData.depth]
  exact⟨Qfl λd hd=>(Qb1 n d (h d hd)).1,Zbt (QfU λd hd=>(Qb1 n d (h d hd)).2) 1⟩
 | n+1,.lst xs,h=>by
  simp only[D.sim,Zai]at h
  simp only[D.py,PyData.canLay0,PyData.depth]
  exact⟨Qfl λd hd=>(Qb1 n d (h d hd)).1,Zbt (QfU λd hd=>(Qb1 n d (h d hd)).2) 1⟩
noncomputable def deq(a b:D):Bool:=PyData.eqv a.py b.py
theorem Qms{n:Nat}{d:D}(h:d.sim n=true):deq d d=true:=SeqAt.eqv_refl _ (Qb1 n d h).1
mutual
noncomputable def D.noX:D->Bool
 | .exc _=>false
 | .tup xs=>QiO xs
 | .lst xs=>QiO xs
 | .non=>true
 | .bl _=>true
 | .int _=>true
 | .str _=>true
noncomputable def QiO:List D->Bool
 | []=>true
 | d::ds=>d.noX && QiO ds
end
theorem Qks:∀{ds:List D},(∀d∈ds,d.noX=true)->QiO ds=true
 | [],_=>rfl
 | d::ds,h=>by
  simp only[QiO,Zj]
  exact⟨h d Zq,Qks λe he=>h e (Zg _ he)⟩
theorem QcK:∀(n:Nat) (d:D),d.sim n=true->d.noX=true
 | n,.exc _,h=>by cases n<;>cases h
 | n,.non,_=>rfl
 | n,.bl _,_=>rfl
 | n,.int _,_=>rfl
 | n,.str x,_=>rfl
 | 0,.tup xs,h=>by
  have:xs=[]:=by simpa[D.sim]using h
  subst this;rfl
 | 0,.lst xs,h=>by
  have:xs=[]:=by simpa[D.sim]using h
  subst this;rfl
 | n+1,.tup xs,h=>by
  simp only[D.sim,Zai]at h
  simp only[D.noX]
  exact Qks λd hd=>QcK n d (h d hd)
 | n+1,.lst xs,h=>by
  simp only[D.sim,Zai]at h
  simp only[D.noX]
  exact Qks λd hd=>QcK n d (h d hd)
section
variable {X:Cx}{pins:List (Addr×Obj)}{σ:L2.St}{H:Hp}{s:Shared}
mutual
theorem Rp.reads(I:Inv X pins σ H s):∀{d:D}{v:V}{F:List Addr}{u:Value},d.noX=true->Rp X.K H d v F->RelV v u->∃as,Reads s.heap u d.py as
 | .exc _,v,_,u,hx,h,r=>by cases hx
 | .non,v,_,u,hx,h,r=>by
  rw[h.QkM]at r
  cases(show u=Value.none from r)
  exact⟨_,.none⟩
 | .bl b,v,_,u,hx,h,r=>by
  rw[h.Qf6]at r
  cases(show u=Value.bool b from r)
  exact⟨_,.bool b⟩
 | .int i,v,_,u,hx,h,r=>by
  rw[h.int_inv]at r
  obtain⟨t,rfl⟩:=(show ∃t,u=Value.int i t from r)
  exact⟨_,.int i t⟩
 | .str i,v,_,u,hx,h,r=>by
  rw[h.str_inv]at r
  obtain⟨t,rfl⟩:=(show ∃t,u=Value.str i t from r)
  exact⟨_,.str i t⟩
 | .tup ds,v,_,u,hx,h,r=>by
  obtain⟨a,vs,rfl,hq,rs⟩:=h.Qa3
  cases(show u=Value.ref a from r)
  obtain⟨its,rv,⟨o,h1,h2,n,h3⟩,_⟩:=I.tuple hq
  obtain⟨as,ra⟩:=Rps.reads I (by simpa only[D.noX]using hx) rs rv
  exact⟨_,.tuple h1 h2 h3 (by simpa using ra)⟩
 | .lst ds,v,_,u,hx,h,r=>by
  simp only[Rp]at h
  obtain⟨hz,a,vs,rfl,h⟩:=h
  have key:∃G,(H a=some (.lst vs)∨Fix X.K H a vs)/\Rps X.K H ds vs G:=by
   rcases h with⟨G,_,q,rs⟩ | ⟨q,rs⟩
   ·exact⟨G,.inl q,rs⟩
   ·exact⟨_,.inr q,rs⟩
  obtain⟨G,hq,rs⟩:=key
  cases(show u=Value.ref a from r)
  obtain⟨_,its,n,rv,_,e⟩:=I.Qmq hq
  obtain⟨as,ra⟩:=Rps.reads I (by simpa only[D.noX]using hx) rs rv
  exact⟨_,.list e rfl rfl (by simpa using ra)⟩
theorem Rps.reads(I:Inv X pins σ H s):∀{ds:List D}{vs:List V}{F:List Addr}{us:List Value},QiO ds=true->Rps X.K H ds vs F->QD vs us->∃as,ReadsAll s.heap us (pys ds) as
 | [],vs,_,us,_,h,r=>by
  simp only[Rps]at h
  rw[h.1]at r
  cases r
  exact⟨_,.nil⟩
 | d::ds,vs,_,us,hx,h,r=>by
  simp only[QiO,Zj]at hx
  simp only[Rps]at h
  obtain⟨v,ws,F1,F2,rfl,rfl,h1,h2⟩:=h
  cases r with
  | cons r rr=>
   obtain⟨as,ra⟩:=Rp.reads I hx.1 h1 r
   obtain⟨bs,rb⟩:=Rps.reads I hx.2 h2 rr
   exact⟨_,.cons ra rb⟩
end
end
noncomputable def gEq(a b:D):Option D:=if a.sim 8 && b.sim 8 then some (.bl (deq a b))else none
noncomputable def gNe(a b:D):Option D:=if a.sim 8 && b.sim 8 then some (.bl (!deq a b))else none
noncomputable def gIn(neg:Bool)(a b:D):Option D:=match b with
 | .lst xs=>if a.sim 8 && b.sim 8 then some (.bl (if neg then !(xs.any λy=>deq y a)else xs.any λy=>deq y a))else none
 | .tup xs=>if a.sim 8 && b.sim 8 then some (.bl (if neg then !(xs.any λy=>deq y a)else xs.any λy=>deq y a))else none
 | _=>none
noncomputable def Qwj(K:PySem.W.Frag):R2:=λx y H Q=>∃a b F G,Rp K H a x F/\Rp K H b y G/\a.sim 8=true/\b.sim 8=true/\Q (.bl (deq a b)) H
noncomputable def Qv0(K:PySem.W.Frag):R2:=λx y H Q=>∃a b F G,Rp K H a x F/\Rp K H b y G/\a.sim 8=true/\b.sim 8=true/\Q (.bl (!deq a b)) H
section
variable {X:Cx}
theorem QwQ(hu:X.A.units+64<cLine):OpR X (compareOp .Eq) (Qwj X.K):=by
 intro pins s σ H x y v u Q I rx ry h
 obtain⟨a,b,F,G,ha,hb,sa,sb,q⟩:=h
 obtain⟨as,ra⟩:=Rp.reads I (QcK 8 _ sa) ha rx
 obtain⟨bs,rb⟩:=Rp.reads I (QcK 8 _ sb) hb ry
 have h1:=Qb1 8 a sa
 have h2:=Qb1 8 b sb
 exact SeqAt.compareEq_reads ra rb h1.1 h2.1 (by have:=Nat.min_le_left a.py.depth b.py.depth;omega) ⟨.bl _,H,I,rfl,q⟩
theorem Qwg(hu:X.A.units+64<cLine):OpR X (compareOp .NotEq) (Qv0 X.K):=by
 intro pins s σ H x y v u Q I rx ry h
 obtain⟨a,b,F,G,ha,hb,sa,sb,q⟩:=h
 obtain⟨as,ra⟩:=Rp.reads I (QcK 8 _ sa) ha rx
 obtain⟨bs,rb⟩:=Rp.reads I (QcK 8 _ sb) hb ry
 have h1:=Qb1 8 a sa
 have h2:=Qb1 8 b sb
 exact SeqAt.compareNe_reads ra rb h1.1 h2.1 (by have:=Nat.min_le_left a.py.depth b.py.depth;omega) ⟨.bl _,H,I,rfl,q⟩
theorem Qyg{K:PySem.W.Frag}:Qdm K gEq (Qwj K):=λa b d e=>by
 unfold gEq at e
 split at e
 ·rename_i h
  simp only[Zj]at h
  cases e
  exact⟨rfl,λH x y F G Q ha hb q=>⟨a,b,F,G,ha,hb,h.1,h.2,q _ λ_=> .Qd3⟩⟩
 ·cases e
theorem Qyh{K:PySem.W.Frag}:Qdm K gNe (Qv0 K):=λa b d e=>by
 unfold gNe at e
 split at e
 ·rename_i h
  simp only[Zj]at h
  cases e
  exact⟨rfl,λH x y F G Q ha hb q=>⟨a,b,F,G,ha,hb,h.1,h.2,q _ λ_=> .Qd3⟩⟩
 ·cases e
noncomputable def Qsm(K:PySem.W.Frag)(neg:Bool):R2:=λx y H Q=>∃a b F G xs,Rp K H a x F/\Rp K H b y G/\a.sim 8=true/\b.sim 8=true/\(b= .lst xs∨b= .tup xs)/\Q (.bl (if neg then !(xs.any λy=>deq y a)else xs.any λy=>deq y a)) H
theorem Qp9(xs:List D)(a:D):((pys xs).any λy=>PyData.eqv y a.py)=xs.any λy=>deq y a:=by
 rw[QoR,List.any_map];rfl
theorem QvX(hu:X.A.units+64<cLine):OpR X (compareOp .In) (Qsm X.K false):=by
 intro pins s σ H x y v u Q I rx ry h
 obtain⟨a,b,F,G,xs,ha,hb,sa,sb,hk,q⟩:=h
 obtain⟨as,ra⟩:=Rp.reads I (QcK 8 _ sa) ha rx
 obtain⟨bs,rb⟩:=Rp.reads I (QcK 8 _ sb) hb ry
 have h1:=Qb1 8 a sa
 have h2:=Qb1 8 b sb
 have q':Q (.bl ((pys xs).any λy=>PyData.eqv y a.py)) H:=by rw[Qp9];exact q
 rcases hk with rfl | rfl
 ·exact SeqAt.in_list_reads rb ra h2.1 h1.1 (by have:=Zbs (PyData.depthAll (pys xs)) a.py.depth;omega) ⟨.bl _,H,I,rfl,q'⟩
 ·exact SeqAt.in_tuple_reads rb ra h2.1 h1.1 (by have:=Zbs (PyData.depthAll (pys xs)) a.py.depth;omega) ⟨.bl _,H,I,rfl,q'⟩
theorem Qrg(hu:X.A.units+64<cLine):OpR X (compareOp .NotIn) (Qsm X.K true):=by
 intro pins s σ H x y v u Q I rx ry h
 obtain⟨a,b,F,G,xs,ha,hb,sa,sb,hk,q⟩:=h
 obtain⟨as,ra⟩:=Rp.reads I (QcK 8 _ sa) ha rx
 obtain⟨bs,rb⟩:=Rp.reads I (QcK 8 _ sb) hb ry
 have h1:=Qb1 8 a sa
 have h2:=Qb1 8 b sb
 have q':Q (.bl (!(pys xs).any λy=>PyData.eqv y a.py)) H:=by rw[Qp9];exact q
 rcases hk with rfl | rfl
 ·exact SeqAt.notIn_list_reads rb ra h2.1 h1.1 (by have:=Zbs (PyData.depthAll (pys xs)) a.py.depth;omega) ⟨.bl _,H,I,rfl,q'⟩
 ·exact SeqAt.notIn_tuple_reads rb ra h2.1 h1.1 (by have:=Zbs (PyData.depthAll (pys xs)) a.py.depth;omega) ⟨.bl _,H,I,rfl,q'⟩
theorem QtX{K:PySem.W.Frag}{neg:Bool}:Qdm K (gIn neg) (Qsm K neg):=λa b d e=>by
 unfold gIn at e
 split at e
 ·split at e
  ·rename_i h
   simp only[Zj]at h
   cases e
   exact⟨rfl,λH x y F G Q ha hb q=>⟨a,_,F,G,_,ha,hb,h.1,h.2,.inl rfl,q _ λ_=> .Qd3⟩⟩
  ·cases e
 ·split at e
  ·rename_i h
   simp only[Zj]at h
   cases e
   exact⟨rfl,λH x y F G Q ha hb q=>⟨a,_,F,G,_,ha,hb,h.1,h.2,.inr rfl,q _ λ_=> .Qd3⟩⟩
  ·cases e
 ·cases e
noncomputable def D.tyN:D->String
 | .non=> "NoneType" | .bl _=> "bool" | .int _=> "int" | .str _=> "str" | .tup _=> "tuple" | .lst _=> "list" | .exc _=> "?"
noncomputable def D.isE:D->Bool
 | .exc _=>true
 | _=>false
noncomputable def D.isa(T:String)(d:D):Option Bool:=if(T == "int" || T == "bool" || T == "list" || T == "tuple" || T == "str") && !d.isE then some (d.tyN == T || (d.tyN == "bool" && T == "int"))else none
theorem Qw4{pins:List (Addr×Obj)}{σ:L2.St}{H:Hp}{s:Shared}{A:Around}{E Q:Value->Shared->Prop}{d:D}{v:V}{F:List Addr}{u:Value}{T:String}{b:Bool}(I:Inv X pins σ H s)(rp:Rp X.K H d v F)(rx:RelV v u)(e:d.isa T=some b)(h:∀tk,Q (.bool b) {s with toks:=tk}):
  wpAny (model X.prog X.w) A (call (.builtin "isinstance") [u,.type T]) Q E s:=by
 have kit:PySem.W.kitOne X.K (.type d.tyN) (.type T)=some b:=by
  unfold D.isa at e
  split at e
  ·rename_i hT
   cases e
   simp only[Zj,ZbR,beq_iff_eq]at hT
   obtain⟨hT,hE⟩:=hT
   rcases hT with(((rfl | rfl) | rfl) | rfl) | rfl<;>cases d<;>first | rfl | (cases hE)
  ·cases e
 cases d with
 | exc x=>unfold D.isa at e;split at e;(rename_i hT;exfalso;simp only[Zj]at hT;exact nomatch hT.2);cases e
 | non=>rw[rp.QkM]at rx;cases(show u=Value.none from rx);exact ZaR PySem.W.kitx_none I.kIn True.intro kit (λz=>nomatch z) h
 | bl y=>rw[rp.Qf6]at rx;cases(show u=Value.bool y from rx);exact ZaR PySem.W.kitx_bool I.kIn True.intro kit (λz=>nomatch z) h
 | int i=>rw[rp.int_inv]at rx;obtain⟨t,q⟩:=(show ∃t,u=Value.int i t from rx);cases q;exact ZaR PySem.W.kitx_int I.kIn True.intro kit (λz=>nomatch z) h
 | str y=>rw[rp.str_inv]at rx;obtain⟨t,q⟩:=(show ∃t,u=Value.str y t from rx);cases q;exact ZaR PySem.W.kitx_str I.kIn True.intro kit (λz=>nomatch z) h
 | tup ds=>
  obtain⟨a,vs,rfl,hq,_⟩:=rp.Qa3
  cases(show u=Value.ref a from rx)
  obtain⟨its,rv,⟨o,h1,h2,n,h3⟩,_⟩:=I.tuple hq
  exact ZaR PySem.W.kitx_tuple I.kIn ⟨o,h1,h2⟩ kit (λz=>nomatch z) h
 | lst ds=>
  obtain⟨a,vs,G,rfl,hq,_⟩:=rp.lst_inv
  cases(show u=Value.ref a from rx)
  obtain⟨_,its,n,rv,_,e1⟩:=I.Qmq hq
  exact ZaR PySem.W.kitx_list I.kIn ⟨_,e1,rfl⟩ kit (λz=>nomatch z) h
noncomputable def Qy2(K:PySem.W.Frag):List V->Hp->VK->Prop:=λxs H Q=>∃x T d F b,xs=[x,.ty T]/\Rp K H d x F/\d.isa T=some b/\Q (.bl b) H
theorem Qtb:Qbv X (.builtin "isinstance") (Qy2 X.K):=by
 intro pins s σ H xs us Q I r h
 obtain⟨x,T,d,F,b,rfl,rp,e,q⟩:=h
 obtain⟨u,w,rfl,ru,rw'⟩:=vals2 r
 cases(show w=Value.type T from rw')
 exact Qw4 I rp ru e λtk=>⟨.bl b,H,I.tok _,rfl,q⟩
noncomputable def Qhv(T:String)(fa:DE):DE:=λρ=>(fa ρ).bind λr=>(r.d.isa T).map λb=>⟨.bl b,true,[]⟩
theorem QvO{a:Expr}{fa:DE}{T:String}{x:Str}{p p2 pos:Pos}(hg:Gl X "isinstance")(hm:X.mg "isinstance" =none)(ha:SE X a fa)(hT:PE X (.Name x p2) (tC (.ty T)))
  (he:starEach [a,.Name x p2] X.env=(false,eval a X.env)::starEach [.Name x p2] X.env):SE X (.Call (.Name "isinstance" p) [a,.Name x p2] [] pos) (Qhv T fa):=λH0 A0=>
 (Qi3 Qtb hg hm PyProof.Rows.boot_isinstance (QaB (ha H0 A0) (QaB hT Qds) he) (by decide) (by decide) he (by rfl)).mono λσ H Q ⟨ρ,hs,F,r',rel,e,q⟩=>by
  obtain⟨r,e1,e⟩:=bind1 e
  obtain⟨b,eb,e⟩:=Zf.mp e
  subst e
  exact⟨ρ,hs,F,r,rel,e1,λv H1 G p=>⟨v,T,r.d,G,b,rfl,p.rp,eb,q _ H1 [] (.flat p.same .Qd3)⟩⟩
noncomputable def D.tru:D->Option Bool
 | .non=>some false
 | .bl b=>some b
 | .int i=>some (i != 0)
 | .lst xs=>some (!xs.isEmpty)
 | .tup xs=>some (!xs.isEmpty)
 | .str _=>none
 | .exc _=>none
theorem Ql8{K:PySem.W.Frag}{H:Hp}{d:D}{v:V}{F:List Addr}{b:Bool}(h:Rp K H d v F)(e:d.tru=some b):Qsz K v H b:=by
 have emp:∀{ds:List D}{vs:List V}{G:List Addr},Rps K H ds vs G->(!ds.isEmpty)= !vs.isEmpty:=λ{ds vs G} r=>by
  have:=r.length
  cases ds<;>cases vs<;>simp_all
 cases d with
 | non=>rw[h.QkM];cases e;exact rfl
 | bl c=>rw[h.Qf6];cases e;exact rfl
 | int i=>rw[h.int_inv];cases e;exact rfl
 | str i=>cases e
 | exc i=>cases e
 | tup ds=>cases e;obtain⟨a,vs,rfl,hq,r⟩:=h.Qa3;exact .inr (.inl ⟨vs,hq,emp r⟩)
 | lst ds=>cases e;obtain⟨a,vs,G,rfl,hq,r,_⟩:=h.lst_inv;exact .inl ⟨vs,Qah hq,emp r⟩
noncomputable def QM(fa:DE):DT:=λρ=>(fa ρ).bind λr=>r.d.tru
noncomputable def QfT(f g:DT):DT:=λρ=>(f ρ).bind λb=>if b=true then g ρ else some false
noncomputable def bOr(f g:DT):DT:=λρ=>(f ρ).bind λb=>if b=true then some true else g ρ
noncomputable def QdW(f:DT):DT:=λρ=>(f ρ).bind λb=>some (!b)
def SW(X:Cx)(e:Expr)(f:DT):Prop:=∀H0 A0,PW X e (tVT X.K H0 A0 f)
theorem _root_.L2.PW.mono{X:Cx}{e:Expr}{t t':TT}(h:PW X e t)(m:∀σ H Q,t' σ H Q->t σ H Q):PW X e t':=λwh pins s σ H Q I q=>h wh pins s σ H Q I (m σ H Q q)
variable {a b e:Expr}{fa fb:DE}{ga gb gc:DT}{pos:Pos}{rest:List Expr}
theorem Qxl(ha:SE X a fa)(he:∀whole,isTrue a X.env whole=(do let v ← whole;standAt a.pos;holding [v] (truthy v))):ST X a (QM fa):=λH0 A0=>
 (QsJ (ha H0 A0) he).mono λσ H Q ⟨ρ,hs,F,b,rel,e,q⟩=>by
  obtain⟨r,e1,e⟩:=bind1 e
  exact⟨ρ,hs,F,r,rel,e1,λv H1 G p=>⟨b,Ql8 p.rp e,q H1 p.same⟩⟩
theorem QwZ{op:CmpOp}{g:D->D->Option D}{r:R2}(ho:OpR X (compareOp op) r)(hg:Qdm X.K g r)(hbl:∀a b d,g a b=some d->∃k,d= .bl k)(ha:SE X a fa)(hb:SE X b fb)(hm:behindInMarks op b=false):ST X (.Compare a [op] [b] pos) (QM (dOp g fa fb)):=λH0 A0=>
 (Qui ho (ha H0 A0) (hb H0 A0) hm).mono λσ H Q ⟨ρ,hs,F,k,rel,e,q⟩=>by
  obtain⟨r',e0,e⟩:=bind1 e
  obtain⟨ra,rb,d,ea,eb,eg,rfl⟩:=QkT e0
  obtain⟨k',rfl⟩:=hbl _ _ _ eg
  cases e
  refine two rel ea eb λx y H1 H2 G1 G2 p1 p2=>(hg _ _ _ eg).2 H2 x y G1 G2 _ (p1.rp.same p2.same) p2.rp λv hv=>?_
  exact⟨_,(hv H2).Qf6,q H2 (p1.same.trans p2.same)⟩
theorem Qwz(ha:ST X a ga):ST X (.UnaryOp .Not a pos) (QdW ga):=λH0 A0=>
 (Qv7 (ha H0 A0)).mono λσ H Q ⟨ρ,hs,F,b,rel,e,q⟩=>by
  obtain⟨c,e1,e⟩:=bind1 e
  cases e
  exact⟨ρ,hs,F,c,rel,e1,λH1 s1=>q H1 s1⟩
theorem Qt6(ha:ST X a ga):SW X (.BoolOp .And [a] pos) ga:=λH0 A0=>Qvt (ha H0 A0)
theorem QwK(ha:ST X a ga):SW X (.BoolOp .Or [a] pos) ga:=λH0 A0=>Qwt (ha H0 A0)
theorem Qxn(ha:ST X a ga)(hb:SW X (.BoolOp .And (b::rest) pos) gb):SW X (.BoolOp .And (a::b::rest) pos) (QfT ga gb):=λH0 A0=>
 (QwA (ha H0 A0) (hb H0 A0)).mono λσ H Q ⟨ρ,hs,F,c,rel,e,q⟩=>by
  obtain⟨d,e1,e⟩:=bind1 e
  refine⟨ρ,hs,F,d,rel,e1,λH1 s1=>?_⟩
  cases d with
  | true=>exact⟨ρ,hs,F,c,rel.ext s1,e,λH2 s2=>q H2 (s1.trans s2)⟩
  | false=>cases e;exact q H1 s1
theorem Qyi(ha:ST X a ga)(hb:SW X (.BoolOp .Or (b::rest) pos) gb):SW X (.BoolOp .Or (a::b::rest) pos) (bOr ga gb):=λH0 A0=>
 (QxO (ha H0 A0) (hb H0 A0)).mono λσ H Q ⟨ρ,hs,F,c,rel,e,q⟩=>by
  obtain⟨d,e1,e⟩:=bind1 e
  refine⟨ρ,hs,F,d,rel,e1,λH1 s1=>?_⟩
  cases d with
  | true=>cases e;exact q H1 s1
  | false=>exact⟨ρ,hs,F,c,rel.ext s1,e,λH2 s2=>q H2 (s1.trans s2)⟩
theorem SW.st(h:SW X e ga):ST X e ga:=λH0 A0=>(h H0 A0).pt
noncomputable def Qi0(fa fb:DE):DE:=λρ=>(fa ρ).bind λra=>(ra.d.tru).bind λb=>if b=true then fb ρ else some ra
noncomputable def dOr(fa fb:DE):DE:=λρ=>(fa ρ).bind λra=>(ra.d.tru).bind λb=>if b=true then some ra else fb ρ
noncomputable def Qp2(fa:DE):DE:=λρ=>(fa ρ).bind λra=>(ra.d.tru).bind λb=>some ⟨.bl (!b),true,[]⟩
noncomputable def dIf(g:DT)(fa fb:DE):DE:=λρ=>(g ρ).bind λb=>if b=true then fa ρ else fb ρ
theorem Qrd{op}(h:SE X a fa):SE X (.BoolOp op [a] pos) fa:=λH0 A0=>Qwi (h H0 A0)
theorem Qab.ext{K:PySem.W.Frag}{ρ:En}{F:Nat->List Addr}{H H1 H2:Hp}{r:R}{v:V}{G:List Addr}(s:QN H H1)(p:Qab K ρ F H1 H2 r v G){H0:Hp}{A0:List Addr}{hs:List (V×D×List Addr)}{σ:L2.St}(rel:Rel K H0 A0 hs ρ F σ H):Qab K ρ F H H2 r v G where
 same:=s.trans p.same
 rp:=p.rp
 src:=λa ha=>(p.src a ha).elim (λz=> .inl (s.free z)) .inr
 cnt:=λh=>⟨λa=>Zk ((p.cnt h).1 a) (Zbt (by
  cases q:H1 a with
  | none=>rw[Qbp q,Qbp (s.free q)];exact Zi _
  | some o=>rw[Qdd q];exact ZS _) _),(p.cnt h).2⟩
 own:=p.own
theorem Qwa(ha:SE X a fa)(hb:SE X (.BoolOp .And (b::rest) pos) fb):SE X (.BoolOp .And (a::b::rest) pos) (Qi0 fa fb):=λH0 A0=>by
 intro pins s σ H Q I ⟨ρ,hs,F,r,rel,e,q⟩
 obtain⟨ra,e1,e⟩:=bind1 e
 obtain⟨c,e2,e⟩:=bind1 e
 refine PyProof.Rows.BoolOp_and (thn (ha H0 A0 pins s σ H _ I ⟨ρ,hs,F,ra,rel,e1,λv H' G p=>(⟨G,p⟩:∃G,Qab X.K ρ F H H' ra v G)⟩) λv s1 ⟨x,H1,I1,r1,G,p⟩=>?_)
 refine thn (QjB pins s1 σ H1 x v (λk H2=>k=c/\H2=H1) I1 r1 ⟨c,Ql8 p.rp e2,rfl,rfl⟩) λk s2 ⟨H2,I2,e3,e4⟩=>?_
 subst e3 e4
 cases k with
 | true=>exact hb H0 A0 pins s2 σ _ Q I2 ⟨ρ,hs,F,r,rel.ext p.same,e,λw H3 G3 p3=>q w H3 G3 (p3.ext p.same rel)⟩
 | false=>cases e;exact⟨x,_,I2,r1,q x _ G p⟩
theorem QxS(ha:SE X a fa)(hb:SE X (.BoolOp .Or (b::rest) pos) fb):SE X (.BoolOp .Or (a::b::rest) pos) (dOr fa fb):=λH0 A0=>by
 intro pins s σ H Q I ⟨ρ,hs,F,r,rel,e,q⟩
 obtain⟨ra,e1,e⟩:=bind1 e
 obtain⟨c,e2,e⟩:=bind1 e
 refine PyProof.Rows.BoolOp_or (thn (ha H0 A0 pins s σ H _ I ⟨ρ,hs,F,ra,rel,e1,λv H' G p=>(⟨G,p⟩:∃G,Qab X.K ρ F H H' ra v G)⟩) λv s1 ⟨x,H1,I1,r1,G,p⟩=>?_)
 refine thn (QjB pins s1 σ H1 x v (λk H2=>k=c/\H2=H1) I1 r1 ⟨c,Ql8 p.rp e2,rfl,rfl⟩) λk s2 ⟨H2,I2,e3,e4⟩=>?_
 subst e3 e4
 cases k with
 | false=>exact hb H0 A0 pins s2 σ _ Q I2 ⟨ρ,hs,F,r,rel.ext p.same,e,λw H3 G3 p3=>q w H3 G3 (p3.ext p.same rel)⟩
 | true=>cases e;exact⟨x,_,I2,r1,q x _ G p⟩
theorem QwL(ha:SE X a fa):SE X (.UnaryOp .Not a pos) (Qp2 fa):=λH0 A0=>by
 intro pins s σ H Q I ⟨ρ,hs,F,r,rel,e,q⟩
 obtain⟨ra,e1,e⟩:=bind1 e
 obtain⟨c,e2,e⟩:=bind1 e
 cases e
 refine PyProof.Rows.UnaryOp_ (thn (ha H0 A0 pins s σ H _ I ⟨ρ,hs,F,ra,rel,e1,λv H' G p=>(⟨G,p⟩:∃G,Qab X.K ρ F H H' ra v G)⟩) λv s1 ⟨x,H1,I1,r1,G,p⟩=>?_)
 refine PyProof.Rows.not_of (thn (QjB pins s1 σ H1 x v (λk H2=>k=c/\H2=H1) I1 r1 ⟨c,Ql8 p.rp e2,rfl,rfl⟩) λk s2 ⟨H2,I2,e3,e4⟩=>?_)
 subst e3 e4
 exact⟨.bl (!k),_,I2,rfl,q _ _ [] (.flat p.same .Qd3)⟩
theorem Qyl{c:Expr}(hc:ST X c gc)(ha:SE X a fa)(hb:SE X b fb):SE X (.IfExp c a b pos) (dIf gc fa fb):=λH0 A0=>
 (QsD (hc H0 A0) (ha H0 A0) (hb H0 A0)).mono λσ H Q ⟨ρ,hs,F,r,rel,e,q⟩=>by
  obtain⟨c,e1,e⟩:=bind1 e
  refine⟨ρ,hs,F,c,rel,e1,λH1 s1=>?_⟩
  cases c with
  | true=>exact⟨ρ,hs,F,r,rel.ext s1,e,λv H2 G p=>q v H2 G (p.ext s1 rel)⟩
  | false=>exact⟨ρ,hs,F,r,rel.ext s1,e,λv H2 G p=>q v H2 G (p.ext s1 rel)⟩
noncomputable def QpE(fa:DE):DE:=λρ=>(fa ρ).bind λra=>match ra.d with
 | .int i=>some ⟨.int (-i),true,[]⟩
 | _=>none
theorem Qxd(ha:SE X a fa):SE X (.UnaryOp .USub a pos) (QpE fa):=λH0 A0=>
 (Qyc Qws (ha H0 A0)).mono λσ H Q ⟨ρ,hs,F,r,rel,e,q⟩=>by
  obtain⟨ra,e1,e⟩:=bind1 e
  refine⟨ρ,hs,F,ra,rel,e1,λv H1 G p=>?_⟩
  have rp:=p.rp
  cases hr:ra.d with
  | int i=>
   rw[hr]at e rp
   cases e
   exact⟨i,rp.int_inv,q _ H1 [] (.flat p.same .int_mk)⟩
  | _=>rw[hr]at e;cases e
end
end HS
namespace HS
open PySem PySem.Spec L2
section
variable {K:PySem.W.Frag}{H0 H H':Hp}{A0:List Addr}{hs:List (V×D×List Addr)}{ρ ρ':En}{F:Nat->List Addr}{σ:L2.St}
def Qc1(ρ ρ':En):Prop:=ρ'.length=ρ.length/\∀(i:Nat) d b,ρ'[i]? =some (some (d,b))->∃b',ρ[i]? =some (some (d,b'))/\(b=true->b'=true)
theorem Qc1.refl:Qc1 ρ ρ:=⟨rfl,λi d b h=>⟨b,h,id⟩⟩
theorem Qc1.trans{ρ'':En}(a:Qc1 ρ ρ')(b:Qc1 ρ' ρ''):Qc1 ρ ρ'':=⟨b.1.trans a.1,λi d c h=>by
 obtain⟨c',h1,h2⟩:=b.2 i d c h
 obtain⟨c'',h3,h4⟩:=a.2 i d c' h1
 exact⟨c'',h3,λz=>h4 (h2 z)⟩⟩
theorem Rel.weak(r:Rel K H0 A0 hs ρ F σ H)(w:Qc1 ρ ρ'):Rel K H0 A0 hs ρ' F σ H where
 len:=w.1.trans r.len
 val:=λi d b e=>let ⟨b',h,_⟩:=w.2 i d b e;r.val i d b' h
 own:=λi d e=>by
  obtain⟨b',h,hb⟩:=w.2 i d true e
  have:b'=true:=hb rfl
  subst this
  obtain⟨h1,h2,h3,h4,h5⟩:=r.own i d h
  exact⟨h1,h2,h3,λj d' b' hj e'=>let ⟨b'',h',_⟩:=w.2 j d' b' e';h4 j d' b'' hj h',h5⟩
 src:=λi d b e=>let ⟨b',h,_⟩:=w.2 i d b e;r.src i d b' h
 held:=r.held
 same:=r.same
noncomputable def kill:List Nat->En->En
 | [],ρ=>ρ
 | i::M,ρ=>kill M (ρ.set i none)
noncomputable def Qau:List Nat->En->En
 | [],ρ=>ρ
 | i::M,ρ=>Qau M (match ρ[i]? with
  | some (some (d,_))=>ρ.set i (some (d,false))
  | _=>ρ)
theorem QcZ(i:Nat):Qc1 ρ (ρ.set i none):=⟨by simp,λj d b h=>by
 by_cases hj:i=j
 ·subst hj
  by_cases hl:i<ρ.length
  ·rw[Ze hl]at h;cases h
  ·rw[Zs (by simp;omega)]at h;cases h
 ·rw[Zb hj]at h
  exact⟨b,h,id⟩⟩
theorem Qc4:∀(M:List Nat) (ρ:En),Qc1 ρ (kill M ρ)
 | [],ρ=> .refl
 | i::M,ρ=>(QcZ i).trans (Qc4 M _)
theorem Qg4:∀(M:List Nat) (ρ:En) (i:Nat) (d:D) (b:Bool),i∈M->(kill M ρ)[i]? =some (some (d,b))->False
 | [],ρ,i,d,b,h,_=>by simp at h
 | j::M,ρ,i,d,b,h,e=>by
  rcases Zm.mp h with rfl | h
  ·obtain⟨b',e',_⟩:=(Qc4 M (ρ.set i none)).2 i d b e
   by_cases hl:i<ρ.length
   ·rw[Ze hl]at e';cases e'
   ·rw[Zs (by simp;omega)]at e';cases e'
  ·exact Qg4 M _ i d b h e
theorem QrQ(i:Nat):Qc1 ρ (match ρ[i]? with
  | some (some (d,_))=>ρ.set i (some (d,false))
  | _=>ρ):=by
 split
 ·rename_i d b e
  refine⟨by simp,λj d' b' h=>?_⟩
  by_cases hj:i=j
  ·subst hj
   have hl:i<ρ.length:=(Zd.mp e).1
   rw[Ze hl]at h
   cases h
   exact⟨b,e,λz=>by cases z⟩
  ·rw[Zb hj]at h
   exact⟨b',h,id⟩
 ·exact .refl
theorem QaK:∀(M:List Nat) (ρ:En),Qc1 ρ (Qau M ρ)
 | [],ρ=> .refl
 | i::M,ρ=>(QrQ i).trans (QaK M _)
theorem QjU:∀(M:List Nat) (ρ:En) (i:Nat) (d:D),i∈M->(Qau M ρ)[i]? =some (some (d,true))->False
 | [],ρ,i,d,h,_=>by simp at h
 | j::M,ρ,i,d,h,e=>by
  rcases Zm.mp h with rfl | h
  ·obtain⟨b',e',hb⟩:=(QaK M _).2 i d true e
   have:b'=true:=hb rfl
   subst this
   split at e'
   ·rename_i d' b e1
    have hl:i<ρ.length:=(Zd.mp e1).1
    rw[Ze hl]at e'
    cases e'
   ·rename_i h1
    exact h1 d true e'
  ·exact QjU M _ i d h e
def Shr(H0:Hp)(A0:List Addr)(ρ:En)(F:Nat->List Addr)(G:List Addr):Prop:=
 ∀a∈G,(H0 a=none∨a∈A0)/\∀(i:Nat) d,ρ[i]? =some (some (d,true))->a∉F i
theorem Shr.of(r:Rel K H0 A0 hs ρ F σ H){M:List Nat}{G:List Addr}(s:Src ρ F H M G):Shr H0 A0 (Qau M ρ) F G:=λa ha=>by
 have w:=QaK M ρ
 rcases s a ha with h | ⟨i,d,b,e,m,hm⟩
 ·refine⟨.inl (r.same.free h),λj d' e' hj=>?_⟩
  obtain⟨b',e2,_⟩:=w.2 j d' true e'
  obtain⟨vs,q⟩:=r.mem e2 hj
  rw[h]at q;cases q
 ·refine⟨r.src i d b e a m,λj d' e' hj=>?_⟩
  obtain⟨b',e2,hb⟩:=w.2 j d' true e'
  have:b'=true:=hb rfl
  subst this
  by_cases hij:i=j
  ·subst hij
   rw[e]at e2
   cases e2
   exact QjU M ρ i _ (hm rfl) e'
  ·exact(r.own j d' e2).2.2.2.1 i d b hij e a hj m
theorem Rel.QkV(r:Rel K H0 A0 hs ρ F σ H){i:Nat}{d:D}{v:V}{G:List Addr}(rp:Rp K H d v G)(sh:Shr H0 A0 ρ F G):
  Rel K H0 A0 hs (ρ.set i (some (d,d.flat))) (λj=>if j=i then G else F j) (σ.set i (some v)) H where
 len:=by simp[r.len]
 val:=λj d' b e=>by
  by_cases hj:j=i
  ·subst hj
   have hl:j<ρ.length:=by
    by_cases hl:j<ρ.length
    ·exact hl
    ·rw[Zs (by simp;omega)]at e;cases e
   rw[Ze hl]at e
   cases e
   exact⟨v,by rw[Ze (by rw[← r.len];exact hl)],by rw[if_pos rfl];exact rp⟩
  ·rw[Zb (Ne.symm hj)]at e
   obtain⟨w,h1,h2⟩:=r.val j d' b e
   exact⟨w,by rw[Zb (Ne.symm hj)];exact h1,by rw[if_neg hj];exact h2⟩
 own:=λj d' e=>by
  by_cases hj:j=i
  ·subst hj
   have hl:j<ρ.length:=by
    by_cases hl:j<ρ.length
    ·exact hl
    ·rw[Zs (by simp;omega)]at e;cases e
   rw[Ze hl]at e
   have e1:=Option.some.inj (Option.some.inj e)
   have ed:d=d':=congrArg Prod.fst e1
   have ef:d.flat=true:=congrArg Prod.snd e1
   subst ed
   have:=rp.QbY ef
   subst this
   rw[if_pos rfl]
   exact⟨(Qeh d ef).symm,Zaq,λa ha=>by simp at ha,λ_ _ _ _ _ a ha=>by simp at ha,λ_ _ a ha=>by simp at ha⟩
  ·rw[Zb (Ne.symm hj)]at e
   obtain⟨h1,h2,h3,h4,h5⟩:=r.own j d' e
   rw[if_neg hj]
   refine⟨h1,h2,h3,λk d'' b hk ek a ha=>?_,h5⟩
   by_cases hki:k=i
   ·subst hki
    rw[if_pos rfl]
    exact λhG=>(sh a hG).2 j d' e ha
   ·rw[Zb (Ne.symm hki)]at ek
    rw[if_neg hki]
    exact h4 k d'' b hk ek a ha
 src:=λj d' b e a ha=>by
  by_cases hj:j=i
  ·subst hj
   rw[if_pos rfl]at ha
   exact(sh a ha).1
  ·rw[Zb (Ne.symm hj)]at e
   rw[if_neg hj]at ha
   exact r.src j d' b e a ha
 held:=r.held
 same:=r.same
theorem QxM(r:Rel K H0 A0 hs ρ F σ H){M:List Nat}(ow:Qbb ρ M)(nd:M.Nodup)(a:Addr):((M.map F).flatten).count a<=1:=by
 induction M with
 | nil=>simp
 | cons i M ih=>
  rw[ZL,Zak,Zag]
  obtain⟨h1,h2⟩:=Zan.mp nd
  have ih':=ih (λj hj=>ow j (Zg _ hj)) h2
  obtain⟨d,e⟩:=ow i Zq
  obtain⟨_,nd1,_,apart,_⟩:=r.own i d e
  by_cases ha:a∈F i
  ·have c1:(F i).count a<=1:=Zah.mp nd1 a
   have c2:((M.map F).flatten).count a=0:=ZP.mpr λhm=>by
    obtain⟨l,hl,hal⟩:=Zbr.mp hm
    obtain⟨j,hj,rfl⟩:=Zaf.mp hl
    obtain⟨d',e'⟩:=ow j (Zg _ hj)
    exact apart j d' true (λz=>h1 (z▸hj)) e' a ha hal
   omega
  ·have:(F i).count a=0:=ZP.mpr ha
   omega
theorem Qab.fresh(r:Rel K H0 A0 hs ρ F σ H){rr:R}{v:V}{G:List Addr}(p:Qab K ρ F H H' rr v G)(hf:rr.fr=true)(nd:rr.M.Nodup):
  G.Nodup/\∀a∈G,H0 a=none/\(H a=none∨∃i d,i∈rr.M/\ρ[i]? =some (some (d,true))/\a∈F i):=by
 obtain⟨c,_⟩:=p.cnt hf
 refine⟨Zah.mpr λa=>?_,λa ha=>?_⟩
 ·have h1:=c a
  have h2:=QxM r p.own nd a
  cases q:H a with
  | none=>rw[Qbp q,r.fl0 p.own q]at h1;omega
  | some o=>rw[Qdd q]at h1;omega
 ·cases q:H a with
  | none=>exact⟨r.same.free q,.inl rfl⟩
  | some o=>
   have h1:=c a
   rw[Qdd q]at h1
   have h2:0<G.count a:=Zaa.mpr ha
   obtain⟨l,hl,hal⟩:=Zbr.mp (Zaa.mp (by omega:0<((rr.M.map F).flatten).count a))
   obtain⟨i,hi,rfl⟩:=Zaf.mp hl
   obtain⟨d,e⟩:=p.own i hi
   exact⟨(r.own i d e).2.2.1 a hal,.inr ⟨i,d,hi,e,hal⟩⟩
theorem Rel.QyC(r:Rel K H0 A0 hs ρ F σ H){i:Nat}{rr:R}{v:V}{G:List Addr}(p:Qab K ρ F H H' rr v G)(hf:rr.fr=true)(nd:rr.M.Nodup):
  Rel K H0 A0 hs ((kill rr.M ρ).set i (some (rr.d,true))) (λj=>if j=i then G else F j) (σ.set i (some v)) H':=by
 have r1:=(r.ext p.same).weak (Qc4 rr.M ρ)
 obtain⟨gn,gs⟩:=p.fresh r hf nd
 have gl:=(p.cnt hf).2
 have apart:∀(j:Nat) d b,(kill rr.M ρ)[j]? =some (some (d,b))->∀a∈G,a∉F j:=λj d b e a ha hj=>by
  obtain⟨b',e',_⟩:=(Qc4 rr.M ρ).2 j d b e
  rcases(gs a ha).2 with q | ⟨k,d',hk,ek,hak⟩
  ·obtain⟨vs,w⟩:=r.mem e' hj
   rw[q]at w;cases w
  ·have hjk:j≠k:=λz=>by subst z;exact Qg4 rr.M ρ j d b hk e
   exact(r.own k d' ek).2.2.2.1 j d b' hjk e' a hak hj
 have apartH:∀t∈hs,∀a∈G,a∉t.2.2:=λt ht a ha hj=>by
  rcases(gs a ha).2 with q | ⟨k,d',hk,ek,hak⟩
  ·obtain⟨vs,w⟩:=(r.held t ht).1.mem a hj
   rw[q]at w;cases w
  ·exact(r.own k d' ek).2.2.2.2 t ht a hak hj
 have lt:∀{j:Nat}{x:Option (D×Bool)}{y:D×Bool},((kill rr.M ρ).set j x)[j]? =some (some y)->j<(kill rr.M ρ).length:=λ{j x y} e=>by
  by_cases hl:j<(kill rr.M ρ).length
  ·exact hl
  ·rw[Zs (by simp;omega)]at e;cases e
 refine⟨by simp[r1.len],λj d b e=>?_,λj d e=>?_,λj d b e a ha=>?_,r1.held,r1.same⟩
 ·by_cases hj:j=i
  ·subst hj
   have hl:=lt e
   rw[Ze hl]at e
   cases e
   exact⟨v,by rw[Ze (by rw[← r1.len];exact hl)],by rw[if_pos rfl];exact p.rp⟩
  ·rw[Zb (Ne.symm hj)]at e
   obtain⟨w,h1,h2⟩:=r1.val j d b e
   exact⟨w,by rw[Zb (Ne.symm hj)];exact h1,by rw[if_neg hj];exact h2⟩
 ·by_cases hj:j=i
  ·subst hj
   have hl:=lt e
   rw[Ze hl]at e
   cases e
   rw[if_pos rfl]
   refine⟨gl,gn,λa ha=>(gs a ha).1,λk d' b hk ek a ha=>?_,apartH⟩
   rw[Zb (Ne.symm hk)]at ek
   rw[if_neg hk]
   exact apart k d' b ek a ha
  ·rw[Zb (Ne.symm hj)]at e
   obtain⟨h1,h2,h3,h4,h5⟩:=r1.own j d e
   rw[if_neg hj]
   refine⟨h1,h2,h3,λk d' b hk ek a ha=>?_,h5⟩
   by_cases hki:k=i
   ·subst hki
    rw[if_pos rfl]
    exact λhG=>apart j d true e a hG ha
   ·rw[Zb (Ne.symm hki)]at ek
    rw[if_neg hki]
    exact h4 k d' b hk ek a ha
 ·by_cases hj:j=i
  ·subst hj
   rw[if_pos rfl]at ha
   exact .inl (gs a ha).1
  ·rw[Zb (Ne.symm hj)]at e
   rw[if_neg hj]at ha
   exact r1.src j d b e a ha
noncomputable def asg(i:Nat)(r:R)(ρ:En):En:=
 if r.norm.fr && decide r.norm.M.Nodup then(kill r.norm.M ρ).set i (some (r.d,true))else(Qau r.norm.M ρ).set i (some (r.d,r.d.flat))
theorem Rel.asg(r:Rel K H0 A0 hs ρ F σ H){i:Nat}{rr:R}{v:V}{G:List Addr}(p:Qab K ρ F H H' rr v G):∃F',Rel K H0 A0 hs (asg i rr ρ) F' (σ.set i (some v)) H':=by
 have p':=p.norm
 unfold HS.asg
 split
 ·rename_i h
  simp only[Zj,decide_eq_true_eq]at h
  have:=r.QyC (i:=i) p' h.1 h.2
  rw[rr.QcB]at this
  exact⟨_,this⟩
 ·have r1:=(r.ext p'.same).weak (QaK rr.norm.M ρ)
  have rp:=p'.rp
  rw[rr.QcB]at rp
  have sh:=Shr.of r p'.src
  exact⟨_,r1.QkV rp sh⟩
theorem Rel.hold(r:Rel K H0 A0 hs ρ F σ H){ts:List (V×D×List Addr)}(h:∀t∈ts,Rp K H t.2.1 t.1 t.2.2/\Shr H0 A0 ρ F t.2.2):Rel K H0 A0 (ts++hs) ρ F σ H where
 len:=r.len
 val:=r.val
 own:=λi d e=>by
  obtain⟨h1,h2,h3,h4,h5⟩:=r.own i d e
  refine⟨h1,h2,h3,h4,λt ht a ha hm=>?_⟩
  rcases ZJ.mp ht with z | z
  ·exact((h t z).2 a hm).2 i d e ha
  ·exact h5 t z a ha hm
 src:=r.src
 held:=λt ht=>by
  rcases ZJ.mp ht with z | z
  ·exact⟨(h t z).1,λa ha=>((h t z).2 a ha).1⟩
  ·exact r.held t z
 same:=r.same
theorem Rel.QnW{ts:List (V×D×List Addr)}(r:Rel K H0 A0 (ts++hs) ρ F σ H):Rel K H0 A0 hs ρ F σ H where
 len:=r.len
 val:=r.val
 own:=λi d e=>let ⟨h1,h2,h3,h4,h5⟩:=r.own i d e;⟨h1,h2,h3,h4,λt ht=>h5 t (Zc _ ht)⟩
 src:=r.src
 held:=λt ht=>r.held t (Zc _ ht)
 same:=r.same
end
end HS
namespace HS
open PySem PySem.Spec L2
structure Ret (K:PySem.W.Frag) (H0:Hp) (A0:List Addr) (d:D) (fr:Bool) (v:V) (H':Hp) (G:List Addr):Prop where
 same:QN H0 H'
 rp:Rp K H' d v G
 src:∀a∈G,H0 a=none∨a∈A0
 cnt:fr=true->G.Nodup/\G.length=d.nl/\∀a∈G,H0 a=none
noncomputable abbrev Den:=List D->Option (D×Bool)
noncomputable def spV(K:PySem.W.Frag)(n:Nat)(den:Den):Sp:=λvs H Q _=>∃ds F d fr,Rps K H ds vs F/\ds.length=n/\den ds=some (d,fr)/\∀v H' G,Ret K H F d fr v H' G->Q v H'
theorem Quc{K:PySem.W.Frag}{n:Nat}{den:Den}{ps:List Str}(hn:ps.length=n):∀vs H Q E,spV K n den vs H Q E->vs.length=ps.length:=λvs H Q E ⟨ds,F,d,fr,r,hl,_⟩=>by rw[hn,← hl,r.length]
noncomputable def Qk(n:Nat)(den:Den)(dfl:List D)(fs:DA):DE:=λρ=>(fs ρ).bind λr=>if r.ds.length+dfl.length=n then(den (r.ds++dfl)).map λq=>if q.2=true then⟨q.1,true,[]⟩else R.norm ⟨q.1,false,r.M⟩else none
section
variable {X:Cx}{e:Expr}{es:List Expr}{fs:DA}{pos p:Pos}{x:Str}{n k:Nat}{f:Addr}{fd:FuncData}{ps:List Str}{den:Den}{dfl:List D}{dvs:List V}{ds:List Value}
theorem Qld{σ:L2.St}{H H0:Hp}{A0:List Addr}{Q:VK}(hdf:∀H,Rps X.K H dfl dvs []):tV X.K H0 A0 (Qk n den dfl fs) σ H Q->QpH (spV X.K n den) dvs E0 (tVA X.K H0 A0 fs) σ H Q:=λ⟨ρ,hs,F,r,rel,e,q⟩=>by
 obtain⟨ra,e1,e⟩:=bind1 e
 split at e
 ·rename_i hl
  obtain⟨⟨d,fr⟩,e2,e⟩:=Zf.mp e
  refine⟨ρ,hs,F,ra,rel,e1,λvs H1 G p1=>⟨ra.ds++dfl,G++[],d,fr,p1.rp.append (hdf H1),by rw[Zt];exact hl,e2,λv H2 G2 rt=>?_⟩⟩
  subst e
  have src:Src ρ F H ra.M G2:=λa ha=>by
   rcases rt.src a ha with z | z
   ·exact .inl (p1.same.free z)
   ·rw[Zbv]at z
    exact p1.src a z
  split at q
  ·rename_i hf
   have hf:fr=true:=hf
   obtain⟨nd,hn,fresh⟩:=rt.cnt hf
   have hH:∀a∈G2,H a=none:=λa ha=>p1.same.free (fresh a ha)
   refine q v H2 G2 ⟨p1.same.trans rt.same,rt.rp,λa ha=> .inl (hH a ha),λ_=>⟨λa=>?_,hn⟩,Qbb.nil⟩
   by_cases ha:a∈G2
   ·rw[Qbp (hH a ha)];have:=Zah.mp nd a;omega
   ·rw[ZP.mpr ha];exact ZS _
  ·refine q v H2 G2 (Qab.norm ⟨p1.same.trans rt.same,rt.rp,src,λz=>(by cases z),p1.own⟩)
 ·cases e
theorem Qt7(Fk:Qby X.prog X.w X.K X.mg X.base CX0 k f fd ps (spV X.K n den))(hr:QaE k X.A)(hg:Gl X x)(hm:X.mg x=some (.ref f))(hk:PySem.W.keepIn X.K (.ref f)=true)(hb:Binds X.K fd ps ds)(hd:QD dvs ds)(hdf:∀H,Rps X.K H dfl dvs [])
  (ha:SA X (e::es) fs) (hdb:(x == ("__debug__" :Str))=false) (he:starEach (e::es) X.env=(false,eval e X.env)::starEach es X.env) (hpl:(backTo pos (starEach es X.env)).any (·.1)=false):
  SE X (.Call (.Name x p) (e::es) [] pos) (Qk n den dfl fs):=λH0 A0=>
 (QuH Fk hr hg hm hk hb hd Qt0 (ha H0 A0) hdb he hpl).mono λσ H Q h=>Qld hdf h
theorem QrV(Fk:Qby X.prog X.w X.K X.mg X.base CX0 k f fd ps (spV X.K n den))(hr:QaE k X.A)(hg:Gl X x)(hm:X.mg x=some (.ref f))(hk:PySem.W.keepIn X.K (.ref f)=true)(hb:Binds X.K fd ps ds)(hd:QD dvs ds)(hdf:∀H,Rps X.K H dfl dvs [])
  (hdb:(x == ("__debug__" :Str))=false):SE X (.Call (.Name x p) [] [] pos) (Qk n den dfl Qg):=λH0 A0=>
 (Qs4 Fk hr hg hm hk hb hd Qt0 hdb).mono λσ H Q h=>by
  have h':=Qld hdf h
  obtain⟨ρ,hs,F,r,rel,e,q⟩:=h'
  cases e
  exact q [] H [] ⟨QN.refl _,by simp[Rps],Src.nil,λ_=>⟨Cnt.nil,rfl⟩,Qbb.nil⟩
end
structure IR where
 items:List D
 M:List Nat
noncomputable abbrev DI:=En->Option IR
def QnY(K:PySem.W.Frag)(H:Hp)(ts:List (V×D×List Addr)):Prop:=∀t∈ts,Rp K H t.2.1 t.1 t.2.2
structure Walk (K:PySem.W.Frag) (J:It) (ts:List (V×D×List Addr)) (ds:List D):Prop where
 stop:∀H,QnY K H ts->J.stop ds.length H
 go:∀i H,i<ds.length->QnY K H ts->J.go i H
 yld:∀(i:Nat) d H x H',ds[i]? =some d->QnY K H ts->J.yld i H x H'->QN H H'/\∃G,Rp K H' d x G/\∀a∈G,∃t∈ts,a∈t.2.2
noncomputable def tI(K:PySem.W.Frag)(H0:Hp)(A0:List Addr)(f:DI):TI:=λσ H Rr=>∃ρ hs F ir,Rel K H0 A0 hs ρ F σ H/\f ρ=some ir∧
 ∀J H1 ts,QN H H1->Walk K J ts ir.items->(∀t∈ts,Rp K H1 t.2.1 t.1 t.2.2/\Src ρ F H ir.M t.2.2)->Qbb ρ ir.M->ir.items.length<=sizeLine->Rr J H1
def SI(X:Cx)(tg e:Expr)(f:DI):Prop:=∀H0 A0,PI X tg e (tI X.K H0 A0 f)
theorem _root_.L2.PI.mono{X:Cx}{tg e:Expr}{t t':TI}(h:PI X tg e t)(m:∀σ H Q,t' σ H Q->t σ H Q):PI X tg e t':=λpins s σ H Q I q=>h pins s σ H Q I (m σ H Q q)
section
variable {X:Cx}{tg a b:Expr}{fa fb:DE}{fs:DA}{pos p:Pos}
theorem Rps.nth{K:PySem.W.Frag}{H:Hp}{ds:List D}{vs:List V}{F:List Addr}{i:Nat}{d:D}(h:Rps K H ds vs F)(e:ds[i]? =some d):∃v G,vs[i]? =some v/\Rp K H d v G/\∀a∈G,a∈F:=by
 obtain⟨v,F1,G,F2,h1,h2,h3,_⟩:=h.get e
 exact⟨v,G,h1,h3,λa ha=>by rw[h2];exact Zc _ (Zh _ ha)⟩
noncomputable def Qxe(K:PySem.W.Frag)(tl:TE):TI:=λσ H Rr=>tl σ H λx H1=>(∃a,x= .ref a/\(∃xs,SqL K H1 a xs)/\Rr (Itl K a) H1)∨(∃a,x= .ref a/\(∃xs,SqT K H1 a xs)/\Rr (Itt K a) H1)
theorem Qqu{l:Expr}{tl:TE}(hl:PE X l tl):PI X tg l (Qxe X.K tl):=by
 intro pins s σ H Rr I h
 refine thn (hl pins s σ H _ I h) λv s1 ⟨x,H1,I1,r1,q1⟩=>?_
 rcases q1 with⟨a,e,⟨xs,hq⟩,q⟩ | ⟨a,e,⟨xs,hq⟩,q⟩
 ·subst e
  cases r1
  obtain⟨its,rv,pl,hz⟩:=I1.list hq
  refine wpAny_pyIter_list pl.isList ⟨s1.heap.objs.size,[s1.heap.objs.size],_,_,H1,rfl,I1.kept (t':=s1.toks) λb o e=>Zn _ e,QqT a _,⟨_,ZN _ rfl,rfl,rfl⟩,λb hb=>?_,q⟩
  have e:b=s1.heap.objs.size:=by simpa using hb
  subst e
  exact I1.Qku (Zi _) (I1.hok.fresh (Zi _))
 ·subst e
  cases r1
  obtain⟨its,rv,pl,hz⟩:=I1.tuple hq
  refine wpAny_pyIter_tuple (show s1.heap.IsTuple a its.toArray from pl) ⟨s1.heap.objs.size,[s1.heap.objs.size],_,_,H1,rfl,I1.kept (t':=s1.toks) λb o e=>Zn _ e,Qpl a _,⟨_,ZN _ rfl,rfl,rfl⟩,λb hb=>?_,q⟩
  have e:b=s1.heap.objs.size:=by simpa using hb
  subst e
  exact I1.Qku (Zi _) (I1.hok.fresh (Zi _))
noncomputable def Q4(fa:DE):DI:=λρ=>(fa ρ).bind λr=>match r.d with
 | .lst xs=>some ⟨xs,r.M⟩
 | .tup xs=>if xs.length<=sizeLine then some ⟨xs,r.M⟩else none
 | _=>none
theorem Qp8{K:PySem.W.Frag}{c:Addr}{ds:List D}{G:List Addr}:Walk K (Itl K c) [(.ref c,.lst ds,G)] ds where
 stop:=λH h=>by
  obtain⟨l,vs,L,e,hl,rl,zl,el⟩:=(h _ (ZA.mpr rfl)).lst_inv
  cases e
  exact⟨vs,Qah hl,by rw[rl.length];exact Zi _⟩
 go:=λi H hi h=>by
  obtain⟨l,vs,L,e,hl,rl,zl,el⟩:=(h _ (ZA.mpr rfl)).lst_inv
  cases e
  have:i<vs.length:=by rw[← rl.length];exact hi
  exact⟨vs,vs[i],Qah hl,by simp[this]⟩
 yld:=λi d H x H' e h y=>by
  obtain⟨l,vs,L,e1,hl,rl,zl,el⟩:=(h _ (ZA.mpr rfl)).lst_inv
  cases e1
  obtain⟨rfl,y⟩:=y
  obtain⟨v,G',h1,h2,h3⟩:=rl.nth e
  have:=y vs (Qah hl)
  rw[h1]at this
  cases this
  refine⟨QN.refl _,G',h2,λz hz=>⟨_,ZA.mpr rfl,?_⟩⟩
  have:=h3 z hz
  rcases el with rfl | rfl
  ·exact Zg _ this
  ·exact this
theorem Qti{K:PySem.W.Frag}{c:Addr}{ds:List D}{G:List Addr}:Walk K (Itt K c) [(.ref c,.tup ds,G)] ds where
 stop:=λH h=>by
  obtain⟨l,vs,e,hl,rl⟩:=(h _ (ZA.mpr rfl)).Qa3
  cases e
  exact⟨vs,hl,by rw[rl.length];exact Zi _⟩
 go:=λi H hi h=>by
  obtain⟨l,vs,e,hl,rl⟩:=(h _ (ZA.mpr rfl)).Qa3
  cases e
  have:i<vs.length:=by rw[← rl.length];exact hi
  exact⟨vs,vs[i],hl,by simp[this]⟩
 yld:=λi d H x H' e h y=>by
  obtain⟨l,vs,e1,hl,rl⟩:=(h _ (ZA.mpr rfl)).Qa3
  cases e1
  obtain⟨rfl,y⟩:=y
  obtain⟨v,G',h1,h2,h3⟩:=rl.nth e
  have:=y vs hl
  rw[h1]at this
  cases this
  exact⟨QN.refl _,G',h2,λz hz=>⟨_,ZA.mpr rfl,h3 z hz⟩⟩
theorem Qxk(ha:SE X a fa):SI X tg a (Q4 fa):=λH0 A0=>(Qqu (ha H0 A0)).mono λσ H Rr ⟨ρ,hs,F,ir,rel,e,q⟩=>by
 obtain⟨r,e1,e⟩:=bind1 e
 refine⟨ρ,hs,F,r,rel,e1,λv H1 G p=>?_⟩
 have rp:=p.rp
 cases hr:r.d with
 | lst xs=>
  rw[hr]at e rp
  cases e
  obtain⟨c,vs,L,rfl,hl,rl,zl,el⟩:=rp.lst_inv
  refine .inl ⟨c,rfl,⟨vs,Qah hl⟩,q _ H1 [(.ref c,.lst xs,G)] p.same Qp8 (λt ht=>?_) p.own zl⟩
  rw[ZA.mp ht]
  exact⟨rp,p.src⟩
 | tup xs=>
  rw[hr]at e rp
  dsimp only at e
  split at e
  ·rename_i hz
   cases e
   obtain⟨c,vs,rfl,hl,rl⟩:=rp.Qa3
   refine .inr ⟨c,rfl,⟨vs,hl⟩,q _ H1 [(.ref c,.tup xs,G)] p.same Qti (λt ht=>?_) p.own hz⟩
   rw[ZA.mp ht]
   exact⟨rp,p.src⟩
  ·cases e
 | _=>rw[hr]at e;cases e
noncomputable def Qhe(lo:Int)(n:Nat):List D:=(List.range n).map λ(k:Nat)=> .int (lo+(k:Int))
theorem QgP{lo:Int}{n:Nat}:(Qhe lo n).length=n:=by simp[Qhe]
theorem QrM{lo:Int}{n i:Nat}{d:D}(h:(Qhe lo n)[i]? =some d):i<n/\d= .int (lo+i):=by
 unfold Qhe at h
 rw[Zl]at h
 cases q:(List.range n)[i]? with
 | none=>rw[q]at h;cases h
 | some k=>
  rw[q]at h
  obtain⟨h1,h2⟩:=Zd.mp q
  simp at h1 h2
  subst h2
  exact⟨h1,(Option.some.inj h).symm⟩
theorem QjE{K:PySem.W.Frag}{lo:Int}{n:Nat}:Walk K (Itr lo n) [] (Qhe lo n) where
 stop:=λH _=>by rw[QgP];exact Zi _
 go:=λi H hi _=>by rw[QgP]at hi;exact hi
 yld:=λi d H x H' e _ y=>by
  obtain⟨h1,rfl⟩:=QrM e
  obtain⟨rfl,rfl⟩:=y
  exact⟨QN.refl _,[],.int_mk,λz hz=>by simp at hz⟩
noncomputable def Q5(fa:DE):DI:=λρ=>(fa ρ).bind λr=>match r.d with
 | .int j=>if j<=16777216/\ -(2^62)<=j then some ⟨Qhe 0 j.toNat,[]⟩else none
 | _=>none
noncomputable def Qea(fa fb:DE):DI:=λρ=>(fa ρ).bind λr=>(fb ρ).bind λr'=>match r.d,r'.d with
 | .int i,.int j=>if j-i<=16777216/\ -(2^62)<=i/\i<2^62/\ -(2^62)<=j/\j<2^62 then some ⟨Qhe i (j-i).toNat,[]⟩else none
 | _,_=>none
theorem Qgf:(sizeLine:Nat)=16777216:=sizeLine_eq
theorem Qql(hg:Gl X "range")(hm:X.mg "range" =none)(ha:SE X a fa)(hs:starEach [a] X.env=[(false,eval a X.env)]):SI X tg (.Call (.Name "range" p) [a] [] pos) (Q5 fa):=λH0 A0=>
 (Qrj hg hm (QaB (ha H0 A0) Qds hs) hs).mono λσ H Rr ⟨ρ,hs,F,ir,rel,e,q⟩=>by
  obtain⟨r,e1,e⟩:=bind1 e
  refine⟨ρ,hs,F,r,rel,e1,λv H1 G pp=>?_⟩
  have rp:=pp.rp
  cases hr:r.d with
  | int j=>
   rw[hr]at e rp
   dsimp only at e
   split at e
   ·rename_i hz
    cases e
    rw[rp.int_inv]
    refine⟨j,rfl,hz.2,by omega,q _ H1 [] pp.same QjE (λt ht=>by simp at ht) Qbb.nil ?_⟩
    rw[QgP,Qgf];omega
   ·cases e
  | _=>rw[hr]at e;cases e
theorem QqI(hg:Gl X "range")(hm:X.mg "range" =none)(ha:SE X a fa)(hb:SE X b fb)(hs:starEach [a,b] X.env=[(false,eval a X.env),(false,eval b X.env)])(hs2:starEach [b] X.env=[(false,eval b X.env)]):
  SI X tg (.Call (.Name "range" p) [a,b] [] pos) (Qea fa fb):=λH0 A0=>
 (Qqx hg hm (QaB (ha H0 A0) (QaB (hb H0 A0) Qds hs2) (by rw[hs,hs2])) hs hs2).mono λσ H Rr ⟨ρ,hs,F,ir,rel,e,q⟩=>by
  obtain⟨r,e1,e⟩:=bind1 e
  obtain⟨r',e2,e⟩:=bind1 e
  refine⟨ρ,hs,F,r,rel,e1,λv H1 G pp=>⟨ρ,hs,F,r',rel.ext pp.same,e2,λv' H2 G' pp'=>?_⟩⟩
  have rp:=pp.rp.same pp'.same
  have rp':=pp'.rp
  cases hr:r.d with
  | int i=>
   cases hr':r'.d with
   | int j=>
    rw[hr,hr']at e
    rw[hr]at rp
    rw[hr']at rp'
    dsimp only at e
    split at e
    ·rename_i hz
     cases e
     rw[rp.int_inv,rp'.int_inv]
     refine⟨i,j,rfl,hz.2,q _ H2 [] (pp.same.trans pp'.same) QjE (λt ht=>by simp at ht) Qbb.nil ?_⟩
     rw[QgP,Qgf];omega
    ·cases e
   | _=>rw[hr,hr']at e;cases e
  | _=>rw[hr]at e;cases e
noncomputable def QeN(ds:List D):List D:=ds.zipIdx.map λq=> .tup [.int q.2,q.1]
theorem QhF{ds:List D}:(QeN ds).length=ds.length:=by simp[QeN]
theorem Qre{ds:List D}{i:Nat}{d:D}(h:(QeN ds)[i]? =some d):∃e,ds[i]? =some e/\d= .tup [.int i,e]:=by
 unfold QeN at h
 rw[Zl,List.getElem?_zipIdx]at h
 cases q:ds[i]? with
 | none=>rw[q]at h;cases h
 | some e=>rw[q]at h;simp at h;exact⟨e,rfl,h.symm⟩
theorem Qrr{K:PySem.W.Frag}{c:Addr}{ds:List D}{G:List Addr}:Walk K (Ite K c) [(.ref c,.lst ds,G)] (QeN ds) where
 stop:=λH h=>by
  obtain⟨l,vs,L,e,hl,rl,zl,el⟩:=(h _ (ZA.mpr rfl)).lst_inv
  cases e
  exact⟨vs,Qah hl,by rw[QhF,rl.length];exact Zi _⟩
 go:=λi H hi h=>by
  obtain⟨l,vs,L,e,hl,rl,zl,el⟩:=(h _ (ZA.mpr rfl)).lst_inv
  cases e
  rw[QhF]at hi
  have:i<vs.length:=by rw[← rl.length];exact hi
  exact⟨vs,vs[i],Qah hl,by simp[this]⟩
 yld:=λi d H x H' e h y=>by
  obtain⟨l,vs,L,e1,hl,rl,zl,el⟩:=(h _ (ZA.mpr rfl)).lst_inv
  cases e1
  obtain⟨d',e',rfl⟩:=Qre e
  obtain⟨pp,u,rfl,hp,rfl,y⟩:=y
  obtain⟨v,G',h1,h2,h3⟩:=rl.nth e'
  have:=y vs (Qah hl)
  rw[h1]at this
  cases this
  have s:=Qa8 (o:= .tup [.int i,u]) hp
  refine⟨s,G',Rp.Qgb Qai ?_,λz hz=>⟨_,ZA.mpr rfl,?_⟩⟩
  ·simp only[Rps]
   exact⟨.int i,[u],[],G',rfl,rfl,.int_mk,u,[],G',[],rfl,by simp,h2.same s,rfl,rfl⟩
  ·have:=h3 z hz
   rcases el with rfl | rfl
   ·exact Zg _ this
   ·exact this
noncomputable def Qhl(fa:DE):DI:=λρ=>(fa ρ).bind λr=>match r.d with
 | .lst xs=>some ⟨QeN xs,r.M⟩
 | _=>none
theorem QuU{es:List Expr}{tk:Nat}{tpos:Pos}(hg:Gl X "enumerate")(hm:X.mg "enumerate" =none)(ha:SE X a fa)(hs:starEach [a] X.env=[(false,eval a X.env)]):SI X (.Tuple es tk tpos) (.Call (.Name "enumerate" p) [a] [] pos) (Qhl fa):=λH0 A0=>
 (QuM hg hm (QaB (ha H0 A0) Qds hs) hs).mono λσ H Rr ⟨ρ,hs,F,ir,rel,e,q⟩=>by
  obtain⟨r,e1,e⟩:=bind1 e
  refine⟨ρ,hs,F,r,rel,e1,λv H1 G pp=>?_⟩
  have rp:=pp.rp
  cases hr:r.d with
  | lst xs=>
   rw[hr]at e rp
   cases e
   obtain⟨c,vs,L,rfl,hl,rl,zl,el⟩:=rp.lst_inv
   refine⟨c,rfl,⟨vs,Qah hl⟩,q _ H1 [(.ref c,.lst xs,G)] pp.same Qrr (λt ht=>?_) pp.own (by rw[QhF];exact zl)⟩
   rw[ZA.mp ht]
   exact⟨rp,pp.src⟩
  | _=>rw[hr]at e;cases e
noncomputable def Qhr(xs ys:List D):List D:=(xs.zip ys).map λq=> .tup [q.1,q.2]
theorem Qjg{xs ys:List D}:(Qhr xs ys).length=min xs.length ys.length:=by simp[Qhr]
theorem QrW{xs ys:List D}{i:Nat}{d:D}(h:(Qhr xs ys)[i]? =some d):∃e f,xs[i]? =some e/\ys[i]? =some f/\d= .tup [e,f]:=by
 unfold Qhr at h
 rw[Zl]at h
 cases q:(xs.zip ys)[i]? with
 | none=>rw[q]at h;cases h
 | some e=>
  rw[q]at h
  obtain⟨h1,h2⟩:=List.getElem?_zip_eq_some.mp q
  exact⟨e.1,e.2,h1,h2,(Option.some.inj h).symm⟩
theorem Qr6{K:PySem.W.Frag}{c c':Addr}{xs ys:List D}{G G':List Addr}:Walk K (Itz K c c') [(.ref c,.lst xs,G),(.ref c',.lst ys,G')] (Qhr xs ys) where
 stop:=λH h=>by
  obtain⟨l,vs,L,e,hl,rl,zl,el⟩:=(h _ (Zq)).lst_inv
  obtain⟨l',vs',L',e',hl',rl',zl',el'⟩:=(h _ (Zg _ Zq)).lst_inv
  cases e
  cases e'
  refine⟨vs,vs',Qah hl,Qah hl',?_⟩
  rw[Qjg,← rl.length,← rl'.length];omega
 go:=λi H hi h=>by
  obtain⟨l,vs,L,e,hl,rl,zl,el⟩:=(h _ (Zq)).lst_inv
  obtain⟨l',vs',L',e',hl',rl',zl',el'⟩:=(h _ (Zg _ Zq)).lst_inv
  cases e
  cases e'
  rw[Qjg]at hi
  have h1:i<vs.length:=by rw[← rl.length];omega
  have h2:i<vs'.length:=by rw[← rl'.length];omega
  exact⟨vs,vs',vs[i],vs'[i],Qah hl,Qah hl',by simp[h1],by simp[h2]⟩
 yld:=λi d H x H' e h y=>by
  obtain⟨l,vs,L,e1,hl,rl,zl,el⟩:=(h _ (Zq)).lst_inv
  obtain⟨l',vs',L',e1',hl',rl',zl',el'⟩:=(h _ (Zg _ Zq)).lst_inv
  cases e1
  cases e1'
  obtain⟨d1,d2,ea,eb,rfl⟩:=QrW e
  obtain⟨pp,u,u',rfl,hp,rfl,y,y'⟩:=y
  obtain⟨v,G1,h1,h2,h3⟩:=rl.nth ea
  obtain⟨v',G2,h1',h2',h3'⟩:=rl'.nth eb
  have:=y vs (Qah hl)
  rw[h1]at this
  cases this
  have:=y' vs' (Qah hl')
  rw[h1']at this
  cases this
  have s:=Qa8 (o:= .tup [u,u']) hp
  refine⟨s,G1++G2,Rp.Qgb Qai ?_,λz hz=>?_⟩
  ·simp only[Rps]
   exact⟨u,[u'],G1,G2,rfl,rfl,h2.same s,u',[],G2,[],rfl,by simp,h2'.same s,rfl,rfl⟩
  ·rcases ZJ.mp hz with hz | hz
   ·refine⟨_,Zq,?_⟩
    have:=h3 z hz
    rcases el with rfl | rfl
    ·exact Zg _ this
    ·exact this
   ·refine⟨_,Zg _ Zq,?_⟩
    have:=h3' z hz
    rcases el' with rfl | rfl
    ·exact Zg _ this
    ·exact this
noncomputable def QdU(fa fb:DE):DI:=λρ=>(fa ρ).bind λr=>(fb ρ).bind λr'=>match r.d,r'.d with
 | .lst xs,.lst ys=>some ⟨Qhr xs ys,r.M++r'.M⟩
 | _,_=>none
theorem QvJ{es:List Expr}{tk:Nat}{tpos:Pos}(hg:Gl X "zip")(hm:X.mg "zip" =none)(ha:SE X a fa)(hb:SE X b fb)(hs:starEach [a,b] X.env=[(false,eval a X.env),(false,eval b X.env)])(hs2:starEach [b] X.env=[(false,eval b X.env)]):
  SI X (.Tuple es tk tpos) (.Call (.Name "zip" p) [a,b] [] pos) (QdU fa fb):=λH0 A0=>
 (QvM hg hm (QaB (ha H0 A0) (QaB (hb H0 A0) Qds hs2) (by rw[hs,hs2])) hs hs2).mono λσ H Rr ⟨ρ,hs,F,ir,rel,e,q⟩=>by
  obtain⟨r,e1,e⟩:=bind1 e
  obtain⟨r',e2,e⟩:=bind1 e
  refine⟨ρ,hs,F,r,rel,e1,λv H1 G pp=>⟨ρ,hs,F,r',rel.ext pp.same,e2,λv' H2 G' pp'=>?_⟩⟩
  have rp:=pp.rp.same pp'.same
  have rp':=pp'.rp
  cases hr:r.d with
  | lst xs=>
   cases hr':r'.d with
   | lst ys=>
    rw[hr,hr']at e
    rw[hr]at rp
    rw[hr']at rp'
    cases e
    obtain⟨c,vs,L,rfl,hl,rl,zl,el⟩:=rp.lst_inv
    obtain⟨c',vs',L',rfl,hl',rl',zl',el'⟩:=rp'.lst_inv
    refine⟨c,c',rfl,⟨vs,Qah hl⟩,⟨vs',Qah hl'⟩,q _ H2 [(.ref c,.lst xs,G),(.ref c',.lst ys,G')] (pp.same.trans pp'.same) Qr6 (λt ht=>?_) (pp.own.append pp'.own) (by rw[Qjg];omega)⟩
    have sa:=pp.src.append pp'.src pp.same
    rcases Zm.mp ht with rfl | ht
    ·exact⟨rp,λz hz=>sa z (Zh _ hz)⟩
    ·rw[ZA.mp ht]
     exact⟨rp',λz hz=>sa z (Zc _ hz)⟩
   | _=>rw[hr,hr']at e;cases e
  | _=>rw[hr]at e;cases e
end
end HS
namespace HS
open PySem L2
section
variable {X:Cx}{a b c:Expr}{fa fb fc:DE}{pos p:Pos}
end
end HS
namespace HS
open PySem PySem.Spec L2
inductive Tg where
 | nm (i:Nat)
 | tp (is:List Nat)
noncomputable def Tg.slots:Tg->List Nat
 | .nm i=>[i]
 | .tp is=>is
noncomputable def QdY:List Nat->List D->En->En
 | i::is,d::ds,ρ=>QdY is ds (ρ.set i (some (d,d.flat)))
 | _,_,ρ=>ρ
noncomputable def QbO:Tg->D->En->Option En
 | .nm i,d,ρ=>some (ρ.set i (some (d,d.flat)))
 | .tp is,.tup xs,ρ=>if xs.length=is.length then some (QdY is xs ρ)else none
 | .tp is,.lst xs,ρ=>if xs.length=is.length then some (QdY is xs ρ)else none
 | .tp _,_,_=>none
noncomputable def tG(K:PySem.W.Frag)(H0:Hp)(A0:List Addr)(t:Tg):TG:=λv σ H Q=>∃ρ hs F d G ρ',Rel K H0 A0 hs ρ F σ H/\Rp K H d v G/\Shr H0 A0 ρ F G/\QbO t d ρ=some ρ'∧
 ∀σ' F',Rel K H0 A0 hs ρ' F' σ' H->(∀j,j∉t.slots->σ'[j]? =σ[j]?)->(∀j a,a∈F' j->a∈F j∨a∈G)->Q σ' H
def SG(X:Cx)(tg:Expr)(t:Tg):Prop:=∀H0 A0,PG X tg (tG X.K H0 A0 t)
theorem _root_.L2.PG.mono{X:Cx}{tg:Expr}{t t':TG}(h:PG X tg t)(m:∀v σ H Q,t' v σ H Q->t v σ H Q):PG X tg t':=λpins s σ H v u Q I r q=>h pins s σ H v u Q I r (m v σ H Q q)
noncomputable def QjL:List Nat->TGs
 | []=>QvI
 | i::is=>QtR (Qdu i) (QjL is)
theorem Shr.set{H0:Hp}{A0:List Addr}{ρ:En}{F:Nat->List Addr}{G G1:List Addr}{i:Nat}{d:D}(h:Shr H0 A0 ρ F G)(hf:d.flat=true->G1=[]):Shr H0 A0 (ρ.set i (some (d,d.flat))) (λj=>if j=i then G1 else F j) G:=λa ha=>by
 refine⟨(h a ha).1,λj d' e=>?_⟩
 by_cases hj:j=i
 ·subst hj
  show ¬a∈(if j=j then G1 else F j)
  rw[if_pos rfl]
  have hl:j<ρ.length:=by
   by_cases hl:j<ρ.length
   ·exact hl
   ·rw[Zs (by simp;omega)]at e;cases e
  rw[Ze hl]at e
  have e1:=Option.some.inj (Option.some.inj e)
  rw[hf (congrArg Prod.snd e1)]
  simp
 ·rw[Zb (Ne.symm hj)]at e
  show ¬a∈(if j=i then G1 else F j)
  rw[if_neg hj]
  exact(h a ha).2 j d' e
theorem Qix{K:PySem.W.Frag}{H0:Hp}{A0:List Addr}{hs:List (V×D×List Addr)}:∀(is:List Nat) (ds:List D) (vs:List V) (ρ:En) (F:Nat->List Addr) (σ:L2.St) (H:Hp) (G:List Addr) (Q:L2.St->Hp->Prop),
  Rel K H0 A0 hs ρ F σ H->Rps K H ds vs G->Shr H0 A0 ρ F G->ds.length=is.length→
  (∀σ' F',Rel K H0 A0 hs (QdY is ds ρ) F' σ' H->(∀j,j∉is->σ'[j]? =σ[j]?)->(∀j a,a∈F' j->a∈F j∨a∈G)->Q σ' H)->QjL is vs σ H Q
 | [],ds,vs,ρ,F,σ,H,G,Q,rel,rp,sh,hl,q=>by
  have:ds=[]:=by simpa using hl
  subst this
  simp only[Rps]at rp
  exact⟨rp.1,q σ F rel (λ_ _=>rfl) λ_ _ h=> .inl h⟩
 | i::is,[],vs,ρ,F,σ,H,G,Q,rel,rp,sh,hl,q=>by simp at hl
 | i::is,d::ds,vs,ρ,F,σ,H,G,Q,rel,rp,sh,hl,q=>by
  simp only[Rps]at rp
  obtain⟨v,ws,G1,G2,rfl,rfl,r1,r2⟩:=rp
  refine⟨v,ws,rfl,?_⟩
  have sh1:Shr H0 A0 ρ F G1:=λa ha=>sh a (Zh _ ha)
  have sh2:Shr H0 A0 ρ F G2:=λa ha=>sh a (Zc _ ha)
  refine Qix is ds ws _ _ _ H G2 Q (rel.QkV r1 sh1) r2 (sh2.set r1.QbY) (by simpa using hl) λσ' F' rel' k m=>q σ' F' rel' (λj hj=>?_) λj a ha=>?_
  ·have h1:j≠i:=λz=>hj (by rw[z];exact Zq)
   rw[k j λz=>hj (Zg _ z),Zb (Ne.symm h1)]
  ·rcases m j a ha with z | z
   ·by_cases hj:j=i
    ·rw[if_pos hj]at z;exact .inr (Zh _ z)
    ·rw[if_neg hj]at z;exact .inl z
   ·exact .inr (Zc _ z)
section
variable {X:Cx}{tg:Expr}{pos:Pos}
theorem Qvy{i:Nat}{x:Str}(h:PG X (.Name x pos) (Qdu i)):SG X (.Name x pos) (.nm i):=λH0 A0=>h.mono λv σ H Q ⟨ρ,hs,F,d,G,ρ',rel,rp,sh,e,q⟩=>by
 cases e
 refine q _ _ (rel.QkV rp sh) (λj hj=>?_) λj a ha=>?_
 ·have:j≠i:=λz=>hj (by simp[Tg.slots,z])
  rw[Zb (Ne.symm this)]
 ·by_cases hj:j=i
  ·rw[if_pos hj]at ha;exact .inr ha
  ·rw[if_neg hj]at ha;exact .inl ha
theorem QuP{es:List Expr}{k:Nat}{t:TGs}{n:Nat}(hc:X.calm=true)(h:PGs X es t)
  (hn:(assignEach es X.env).length=n) (hst:(assignEach es X.env).findIdx? (·.1)=none):PG X (.Tuple es k pos) (λv σ H Q=>∃a xs,v= .ref a/\SqL X.K H a xs/\xs.length=n/\t xs σ H Q):=by
 intro pins s σ H v u Q I r hw
 obtain⟨a,xs,e1,hq,hl,hw⟩:=hw
 subst e1
 cases r
 obtain⟨its,rv,ht,hz⟩:=I.list hq
 rw[PyProof.Rows.assign_Tuple]
 refine wpAny_bind (wpAny_standAt ?_)
 unfold unpack
 rw[hn,hst,show n=its.toArray.size by simp[← hl,rv.length]]
 refine wpAny_bind (wpAny_holding (PySem.W.kun_itemsOf (I.ok.hd hc) ht.isList λh' hx=>?_))
 have I1:Inv X pins σ H {s with heap:=h'}:=I.kept (t':=s.toks) λb o e=>hx b o (ZU (Zy e)) e
 exact h pins _ σ H xs _ Q I1 (by simpa using rv) hw
theorem QwO{es:List Expr}{k:Nat}{is:List Nat}(hc:X.calm=true)(h:PGs X es (QjL is))(hn:(assignEach es X.env).length=is.length)(hst:(assignEach es X.env).findIdx? (·.1)=none):SG X (.Tuple es k pos) (.tp is):=λH0 A0=>
 λpins s σ H v u Q I r ⟨ρ,hs,F,d,G,ρ',rel,rp,sh,e,q⟩=>by
  cases d with
  | tup xs=>
   simp only[QbO]at e
   split at e
   ·rename_i hl
    cases e
    obtain⟨a,vs,rfl,hq,rs⟩:=rp.Qa3
    exact QvN hc h hn hst pins s σ H _ u Q I r ⟨a,vs,rfl,hq,by rw[← rs.length];exact hl,Qix is xs vs ρ F σ H G Q rel rs sh hl q⟩
   ·cases e
  | lst xs=>
   simp only[QbO]at e
   split at e
   ·rename_i hl
    cases e
    obtain⟨a,vs,L,rfl,hq,rs,_,eG⟩:=rp.lst_inv
    have sub:∀b∈L,b∈G:=λb hb=>by
     rcases eG with rfl | rfl
     ·exact Zg _ hb
     ·exact hb
    exact QuP hc h hn hst pins s σ H _ u Q I r ⟨a,vs,rfl,Qah hq,by rw[← rs.length];exact hl,Qix is xs vs ρ F σ H L Q rel rs (λb hb=>sh b (sub b hb)) hl λσ' F' rel' k m=>q σ' F' rel' k λj b hb=>(m j b hb).imp id (sub b)⟩
   ·cases e
  | _=>simp only[QbO]at e;cases e
end
noncomputable def QeP(cap:List (Option Nat))(ρ:En):En:=cap.map λo=>o.bind λi=>match ρ[i]? with
 | some (some (d,_))=>some (d,d.flat)
 | _=>none
noncomputable def QpW(cap:List (Option Nat))(ρ:En):List Nat:=cap.filterMap λo=>o.bind λi=>match ρ[i]? with
 | some (some (d,b))=>if b && !d.flat then some i else none
 | _=>none
noncomputable def QfD(t:Tg)(ft:DT)(fe:DE)(ρc:En)(acc:List D×Bool)(d:D):Option (List D×Bool):=
 (QbO t d ρc).bind λρ1=>(ft ρ1).bind λc=>if c=true then(fe ρ1).map λr=>(acc.1++[r.d],acc.2 && r.norm.fr)else some acc
noncomputable def QO(fi:DI)(t:Tg)(cap:List (Option Nat))(ft:DT)(fe:DE):DE:=λρ=>(fi ρ).bind λir=>
 (ir.items.foldlM (QfD t ft fe (QeP cap ρ)) ([],true)).map λq=>if q.2=true then⟨.lst q.1,true,[]⟩else⟨.lst q.1,false,ir.M++QpW cap ρ⟩
def Qc6(ρ:En):Prop:=∀(j:Nat) d,ρ[j]? =some (some (d,true))->d.flat=true
theorem Qc6.set{ρ:En}(h:Qc6 ρ)(i:Nat)(d:D):Qc6 (ρ.set i (some (d,d.flat))):=λj d' e=>by
 by_cases hj:j=i
 ·subst hj
  have hl:j<ρ.length:=by
   by_cases hl:j<ρ.length
   ·exact hl
   ·rw[Zs (by simp;omega)]at e;cases e
  rw[Ze hl]at e
  have e1:=Option.some.inj (Option.some.inj e)
  have h1:d=d':=congrArg Prod.fst e1
  have h2:d.flat=true:=congrArg Prod.snd e1
  rw[← h1];exact h2
 ·rw[Zb (Ne.symm hj)]at e
  exact h j d' e
theorem Qc6.QdY:∀(is:List Nat) (ds:List D) {ρ:En},Qc6 ρ->Qc6 (QdY is ds ρ)
 | [],_,_,h=>h
 | _::_,[],_,h=>h
 | i::is,d::ds,_,h=>Qc6.QdY is ds (h.set i d)
theorem Qc6.bind{t:Tg}{d:D}{ρ ρ':En}(h:Qc6 ρ)(e:QbO t d ρ=some ρ'):Qc6 ρ':=by
 cases t with
 | nm i=>cases e;exact h.set i d
 | tp is=>
  cases d with
  | tup xs=>
   simp only[QbO]at e
   split at e
   ·cases e;exact h.QdY is xs
   ·cases e
  | lst xs=>
   simp only[QbO]at e
   split at e
   ·cases e;exact h.QdY is xs
   ·cases e
  | _=>simp only[QbO]at e;cases e
theorem Qjb(cap:List (Option Nat))(ρ:En):Qc6 (QeP cap ρ):=λj d e=>by
 unfold QeP at e
 rw[Zl]at e
 cases q:cap[j]? with
 | none=>rw[q]at e;cases e
 | some o=>
  rw[q]at e
  cases o with
  | none=>cases e
  | some i=>
   simp only[ZY,Za,Option.some.injEq]at e
   split at e
   ·have e1:=Option.some.inj e
    have h1:=congrArg Prod.fst e1
    have h2:=congrArg Prod.snd e1
    dsimp only at h1 h2
    rw[← h1];exact h2
   ·cases e
theorem Qlc{cap:List (Option Nat)}{ρ:En}{j:Nat}{d:D}{b:Bool}(e:(QeP cap ρ)[j]? =some (some (d,b))):∃i b',cap[j]? =some (some i)/\ρ[i]? =some (some (d,b')):=by
 unfold QeP at e
 rw[Zl]at e
 cases q:cap[j]? with
 | none=>rw[q]at e;cases e
 | some o=>
  rw[q]at e
  cases o with
  | none=>cases e
  | some i=>
   simp only[ZY,Za,Option.some.injEq]at e
   split at e
   ·rename_i d' b' hi
    have e1:=Option.some.inj e
    have h1:d'=d:=congrArg Prod.fst e1
    subst h1
    exact⟨i,b',rfl,hi⟩
   ·cases e
def Qns(X:Cx)(ifs:List Expr)(f:DT):Prop:=∀H0 A0,PTs X ifs (tVT X.K H0 A0 f)
noncomputable def QR:DT:=λ_=>some true
theorem QtN{X:Cx}:Qns X [] QR:=λH0 A0 pins s σ H Q I ⟨ρ,hs,F,b,rel,e,q⟩=>by
 cases e
 exact Qvs pins s σ H Q I (q H (QN.refl _))
theorem QtA{X:Cx}{c:Expr}{f:DT}(h:ST X c f):Qns X [c] f:=λH0 A0=>Qt9 (h H0 A0)
structure Qmd (X:Cx) (N':List Str) (scope:Scope) (cap:List (Option Nat)) (tgs:List Nat):Prop where
 len:cap.length=N'.length
 get:∀(j i:Nat),cap[j]? =some (some i)->∃x,N'[j]? =some x/\scope.names.lookup x=some .free/\X.N[i]? =some x/\(X.env.kindOf x=some .cell∨X.env.kindOf x=some .free)
 apart:∀(j i:Nat),cap[j]? =some (some i)->j∉tgs
theorem join_some{α:Type}{o:Option (Option α)}{v:α}(h:o.join=some v):o=some (some v):=by
 cases o with
 | none=>cases h
 | some p=>cases p with
  | none=>cases h
  | some x=>exact h▸rfl
theorem Qlj{X:Cx}{N':List Str}{scope:Scope}{fi:DI}{t:Tg}{cap:List (Option Nat)}{ft:DT}{fe:DE}{H0:Hp}{A0:List Addr}{σ:L2.St}{H:Hp}{Q:VK}(hc:Qmd X N' scope cap t.slots):
  tV X.K H0 A0 (QO fi t cap ft fe) σ H Q->Ql6 (tI X.K H0 A0 fi) (QjD X N' scope) (tG X.K (λ_=>none) [] t) (tVT X.K (λ_=>none) [] ft) (tV X.K (λ_=>none) [] fe) σ H Q:=λ⟨ρ,hs,F,r,rel,e,q⟩=>by
 obtain⟨ir,e1,e⟩:=bind1 e
 obtain⟨⟨xs,f⟩,ef,e⟩:=Zf.mp e
 subst e
 refine⟨ρ,hs,F,ir,rel,e1,λJ H1 ts s1 wk hts ow hz=>?_⟩
 refine⟨cap.map λo=>o.bind λi=>σ[i]?.join,⟨by simp[hc.len],λj x v hN hv=>?_⟩,λDl hD=>?_⟩
 ·rw[Zl]at hv
  cases qc:cap[j]? with
  | none=>rw[qc]at hv;cases hv
  | some o=>
   rw[qc]at hv
   cases o with
   | none=>cases hv
   | some i=>
    simp only[ZY,Za,Option.some.injEq]at hv
    obtain⟨y,h1,h2,h3,h4⟩:=hc.get j i qc
    rw[hN]at h1;cases h1
    exact⟨h2,i,h3,join_some hv,h4⟩
 generalize hσc:(cap.map λo=>o.bind λi=>σ[i]?.join)=σc
 generalize hρc:QeP cap ρ=ρc at ef
 have hF0:∃Fc:Nat->List Addr,Fc=λj=>match cap[j]? with
  | some (some i)=>(match ρ[i]? with
   | some (some _)=>F i
   | _=>[])
  | _=>[]:=⟨_,rfl⟩
 obtain⟨Fc,hFc⟩:=hF0
 have rel1:=rel.ext s1
 have relC:∀H2,QN H1 H2->Rel X.K (λ_=>none) [] [] ρc Fc σc H2:=λH2 s2=>by
  refine⟨by rw[← hρc,← hσc];simp[QeP],λj d b e=>?_,λj d e=>?_,λj d b e a ha=> .inl rfl,λt ht=>(by simp at ht),λb o z=>(by cases z)⟩
  ·rw[← hρc]at e
   obtain⟨i,b',h1,h2⟩:=Qlc e
   obtain⟨v,h3,h4⟩:=(rel1.ext s2).val i d b' h2
   refine⟨v,?_,?_⟩
   ·rw[← hσc,Zl,h1]
    simp only[ZY,Za,h3,Option.join_some]
   ·rw[hFc];simp only[h1,h2];exact h4
  ·have hf:d.flat=true:=Qjb cap ρ j d (by rw[hρc];exact e)
   have:Fc j=[]:=by
    rw[← hρc]at e
    obtain⟨i,b',h1,h2⟩:=Qlc e
    obtain⟨v,h3,h4⟩:=rel1.val i d b' h2
    rw[hFc];simp only[h1,h2];exact h4.QbY hf
   rw[this]
   exact⟨(Qeh d hf).symm,Zaq,λa ha=>(by simp at ha),λ_ _ _ _ _ a ha=>(by simp at ha),λt ht=>(by simp at ht)⟩
 have shC:∀G,Shr (λ_=>none) [] ρc Fc G:=λG a ha=>⟨.inl rfl,λj d e hj=>by
  have h0:=(relC H1 (QN.refl _)).own j d e
  have hf:d.flat=true:=Qjb cap ρ j d (by rw[hρc];exact e)
  have:(Fc j).length=0:=by rw[h0.1,Qeh d hf]
  rw[List.eq_nil_of_length_eq_zero this]at hj
  simp at hj⟩
 have hSh:Qc6 ρc:=by rw[← hρc];exact Qjb cap ρ
 have heldOf:∀H2,QN H1 H2->QnY X.K H2 ts:=λH2 s2 t ht=>(hts t ht).1.same s2
 have oldOf:∀a,((∃t∈ts,a∈t.2.2)∨∃j,a∈Fc j)->(∃vs,H1 a=some (.lst vs))/\(H a=none∨∃(i:Nat) (d:D) (b:Bool),ρ[i]? =some (some (d,b))/\a∈F i/\(b=true->i∈ir.M++QpW cap ρ)):=λa ha=>by
  rcases ha with⟨t,ht,ha⟩ | ⟨j,ha⟩
  ·refine⟨(hts t ht).1.mem a ha,?_⟩
   rcases(hts t ht).2 a ha with z | ⟨i,d,b,e,m,w⟩
   ·exact .inl z
   ·exact .inr ⟨i,d,b,e,m,λhb=>Zh _ (w hb)⟩
  ·have ha0:=ha
   rw[hFc]at ha
   dsimp only at ha
   split at ha
   ·rename_i i hi
    split at ha
    ·rename_i db hdb
     obtain⟨d,b⟩:=db
     obtain⟨v,h3,h4⟩:=rel1.val i d b hdb
     refine⟨h4.mem a ha,.inr ⟨i,d,b,hdb,ha,λhb=>Zc _ ?_⟩⟩
     unfold QpW
     refine Zbf.mpr ⟨some i,ZaG hi,?_⟩
     simp only[Za,hdb]
     have hnf:d.flat=false:=by
      cases hf:d.flat with
      | false=>rfl
      | true=>rw[h4.QbY hf]at ha;simp at ha
     rw[hb,hnf];rfl
    ·simp at ha
   ·simp at ha
 have fresh5:∀H2,QN H1 H2->∀a,H2 a=none->H1 a=none:=λH2 s2 a h=>s2.free h
 refine⟨λi m acc H2=>m=ir.items.length-i/\i<=ir.items.length/\QN H1 H2/\H2 Dl=some (.lst acc)/\∃(ys:List D) (g:Bool) (G:List Addr),(ir.items.drop i).foldlM (QfD t ft fe ρc) (ys,g)=some (xs,f)/\Rps X.K H2 ys acc G/\ys.length<=i∧
  (∀a∈G,a≠Dl/\(H1 a=none∨(∃t∈ts,a∈t.2.2)∨∃j,a∈Fc j))/\(g=true->G.length=nls ys/\∀a,G.count a<=nw H1 a),⟨ir.items.length,rfl,ZS _,Qa8 hD,Qai,[],true,[],by simpa using ef,by simp[Rps],Zi _,λa ha=>(by simp at ha),λ_=>⟨rfl,λa=>by simp⟩⟩,?_⟩
 rintro i m acc H2 ⟨rfl,hi,s2,eD,ys,g,G,hfold,rps,hlen,hG,hcnt⟩
 by_cases hlt:i<ir.items.length
 ·refine .inr ⟨wk.go i H2 hlt (heldOf H2 s2),λx H3 hy=>?_⟩
  obtain⟨s3,G0,rp0,hG0⟩:=wk.yld i ir.items[i] H2 x H3 (by simp[hlt]) (heldOf H2 s2) hy
  rw[Zaj hlt,ZbG]at hfold
  obtain⟨acc1,hstep,hrest⟩:=bind1 hfold
  unfold QfD at hstep
  obtain⟨ρ1,eb,hstep⟩:=bind1 hstep
  obtain⟨c,ec,hstep⟩:=bind1 hstep
  have sh1:Qc6 ρ1:=hSh.bind eb
  refine⟨ρc,[],Fc,ir.items[i],G0,ρ1,relC H3 (s2.trans s3),rp0,shC G0,eb,λσ2 F2 rel2 keep mem2=>⟨λj v hv=>?_,ρ1,[],F2,c,rel2,ec,λH5 s5=>?_⟩⟩
  ·have hj:j∉t.slots:=λhj=>by
    rw[← hσc,Zl]at hv
    cases qc:cap[j]? with
    | none=>rw[qc]at hv;cases hv
    | some o=>
     cases o with
     | none=>rw[qc]at hv;cases hv
     | some k=>exact hc.apart j k qc hj
   rw[keep j hj];exact hv
  have s15:QN H1 H5:=(s2.trans s3).trans s5
  have eD5:H5 Dl=some (.lst acc):=s5 _ _ (s3 _ _ eD)
  cases c with
  | false=>
   rw[if_neg Zao]at hstep
   refine QsG ?_
   cases hstep
   exact⟨_,by omega,rfl,hlt,s15,eD5,ys,g,G,hrest,rps.same (s3.trans s5),by omega,hG,hcnt⟩
  | true=>
   rw[if_pos rfl]at hstep
   refine Qsh ?_
   obtain⟨rr,er,hstep⟩:=Zf.mp hstep
   subst hstep
   refine⟨ρ1,[],F2,rr,rel2.ext s5,er,λy H6 Ge pe=>?_⟩
   have eD6:H6 Dl=some (.lst acc):=pe.same _ _ eD5
   have s16:=s15.trans pe.same
   refine⟨eD6,?_,_,by omega,rfl,hlt,?_⟩
   ·rw[← rps.length];exact ZW hlen (Zp hlt hz)
   have hGe:∀a∈Ge,a≠Dl/\(H1 a=none∨(∃t∈ts,a∈t.2.2)∨∃j,a∈Fc j):=λa ha=>by
    rcases pe.src a ha with z | ⟨j,d,b,ej,hj,_⟩
    ·exact⟨λw=>(by rw[w,eD5]at z;cases z),.inl (s15.free z)⟩
    ·have h1:(∃t∈ts,a∈t.2.2)∨∃j,a∈Fc j:=by
      rcases mem2 j a hj with w | w
      ·exact .inr ⟨j,w⟩
      ·exact .inl (hG0 a w)
     obtain⟨⟨vs,w⟩,_⟩:=oldOf a h1
     exact⟨λw'=>(by rw[w',hD]at w;cases w),.inr h1⟩
   have nD:Dl∉G:=λh=>(hG _ h).1 rfl
   have nDe:Dl∉Ge:=λh=>(hGe _ h).1 rfl
   have sU:QN H1 (L2.upd H6 Dl (.lst (acc++[y]))):=λb o hb=>by rw[QQ (QbN hb hD)];exact s16 b o hb
   refine⟨sU,Qai,ys++[rr.d],g && rr.norm.fr,G++Ge,hrest,?_,by rw[Zt,Zbo];omega,λa ha=>?_,λhg=>?_⟩
   ·refine Rps.append ((rps.same ((s3.trans s5).trans pe.same)).upd eD6 nD) ?_
    simp only[Rps]
    exact⟨y,[],Ge,[],rfl,by simp,pe.rp.upd eD6 nDe,rfl,rfl⟩
   ·rcases ZJ.mp ha with h | h
    ·exact hG a h
    ·exact hGe a h
   ·simp only[Zj]at hg
    obtain⟨l1,c1⟩:=hcnt hg.1
    have pn:=pe.norm
    obtain⟨c2,l2⟩:=pn.cnt hg.2
    rw[rr.QcB]at l2
    have nlapp:∀(as bs:List D),nls (as++bs)=nls as+nls bs:=λas bs=>by
     induction as with
     | nil=>simp[nls]
     | cons a as ih=>simp only[ZaZ,nls,ih];omega
    refine⟨by rw[Zt,l1,l2,nlapp];simp[nls],λa=>?_⟩
    have fl:((rr.norm.M.map F2).flatten).count a=0:=by
     rw[ZP]
     intro hm
     obtain⟨l,hl,hal⟩:=Zbr.mp hm
     obtain⟨j,hj,rfl⟩:=Zaf.mp hl
     obtain⟨d,ej⟩:=pn.own j hj
     have hf:=sh1 j d ej
     obtain⟨v,_,rv⟩:=rel2.val j d true ej
     rw[rv.QbY hf]at hal
     simp at hal
    have h1:=c1 a
    have h2:=c2 a
    rw[fl]at h2
    rw[Zag]
    cases q5:H5 a with
    | some o=>rw[Qdd q5]at h2;omega
    | none=>
     rw[Qbp q5]at h2
     have h0:G.count a=0:=ZP.mpr λhm=>by
      obtain⟨vs,w⟩:=rps.mem a hm
      rw[s5 _ _ (s3 _ _ w)]at q5;cases q5
     rw[Qbp (s15.free q5)]
     omega
 ·have hn:i=ir.items.length:=by omega
  subst hn
  refine .inl ⟨wk.stop H2 (heldOf H2 s2),?_⟩
  rw[List.drop_length]at hfold
  have:(ys,g)=(xs,f):=Option.some.inj hfold
  cases this
  have rp:Rp X.K H2 (.lst xs) (.ref Dl) (Dl::G):=Rp.QdZ eD rps (Zk hlen hz)
  have hHD:H Dl=none:=s1.free hD
  split at q
  ·rename_i hg
   have hg:f=true:=hg
   obtain⟨l1,c1⟩:=hcnt hg
   have hn:∀a∈G,H1 a=none:=λa ha=>by
    have:=c1 a
    have h2:0<G.count a:=Zaa.mpr ha
    cases w:H1 a with
    | none=>rfl
    | some o=>rw[Qdd w]at this;omega
   refine q _ H2 (Dl::G) ⟨s1.trans s2,rp,λa ha=>?_,λ_=>⟨λa=>?_,by simp only[D.nl,ZE,l1]⟩,Qbb.nil⟩
   ·rcases Zm.mp ha with rfl | h
    ·exact .inl hHD
    ·exact .inl (s1.free (hn a h))
   ·rw[ZaE]
    have h1:=c1 a
    split
    ·rename_i w
     have w:Dl=a:=by simpa using w
     subst w
     have h0:G.count Dl=0:=ZP.mpr λh=>(hG _ h).1 rfl
     rw[Qbp hHD];omega
    ·cases w:H1 a with
     | none=>rw[Qbp w]at h1;rw[Qbp (s1.free w)];omega
     | some o=>rw[Qdd w]at h1;omega
  ·refine q _ H2 (Dl::G) ⟨s1.trans s2,rp,λa ha=>?_,λz=>(by cases z),?_⟩
   ·rcases Zm.mp ha with rfl | h
    ·exact .inl hHD
    ·rcases(hG a h).2 with z | z
     ·exact .inl (s1.free z)
     ·exact(oldOf a z).2
   ·refine ow.append λi hi=>?_
    unfold QpW at hi
    obtain⟨o,_,ho⟩:=Zbf.mp hi
    cases o with
    | none=>cases ho
    | some k=>
     simp only[Za]at ho
     split at ho
     ·rename_i d b hk
      split at ho
      ·rename_i hb
       cases ho
       simp only[Zj]at hb
       rw[hb.1]at hk
       exact⟨d,hk⟩
      ·cases ho
     ·cases ho
section
variable {X:Cx}{tg iter elt:Expr}{ifs:List Expr}{scope:Scope}{N':List Str}{pos:Pos}{fi:DI}{t:Tg}{cap:List (Option Nat)}{ft:DT}{fe:DE}
theorem Qu1(hcalm:X.calm=true)(S:Qez X N' scope)(hi:SI X tg iter fi)(hcap:Qmd X N' scope cap t.slots)
  (hin:∀cl C fp s3 H3,SG (cxc X N' scope cl C fp s3 H3) tg t/\Qns (cxc X N' scope cl C fp s3 H3) ifs ft/\SE (cxc X N' scope cl C fp s3 H3) elt fe) (hs:∀x,foldedSetIterable iter X.env x=pure x):
  SE X (.ListComp elt [⟨tg,iter,ifs,0⟩] scope pos) (QO fi t cap ft fe):=λH0 A0=>
 (Qo1 hcalm S (hi H0 A0) (λcl C fp s3 H3=>⟨(hin cl C fp s3 H3).1 _ _,(hin cl C fp s3 H3).2.1 _ _,(hin cl C fp s3 H3).2.2 _ _⟩) hs).mono λσ H Q h=>Qlj hcap h
end
end HS
namespace HS
open PySem PySem.Spec L2
inductive Out where
 | nx (ρ:En)
 | bk (ρ:En)
 | ct (ρ:En)
 | rt (d:D) (fr:Bool)
noncomputable abbrev DS:=En->Option Out
noncomputable def Fits(K:PySem.W.Frag)(H0:Hp)(A0:List Addr)(hs:List (V×D×List Addr))(E:Ends):Out->Prop
 | .nx ρ=>∀σ H F,Rel K H0 A0 hs ρ F σ H->E.nx σ H
 | .bk ρ=>∀σ H F,Rel K H0 A0 hs ρ F σ H->E.bk σ H
 | .ct ρ=>∀σ H F,Rel K H0 A0 hs ρ F σ H->E.ct σ H
 | .rt d fr=>∀v H G,Ret K H0 A0 d fr v H G->E.rt v H
noncomputable def tS(K:PySem.W.Frag)(H0:Hp)(A0:List Addr)(f:DS):TS:=λE σ H=>∃ρ hs F o,Rel K H0 A0 hs ρ F σ H/\f ρ=some o/\Fits K H0 A0 hs E o
def S1(X:Cx)(st:Stmt)(f:DS):Prop:=∀H0 A0,PS X st (tS X.K H0 A0 f)
def SS(X:Cx)(sts:List Stmt)(f:DS):Prop:=∀H0 A0,PSs X sts (tS X.K H0 A0 f)
theorem _root_.L2.PS.mono{X:Cx}{st:Stmt}{t t':TS}(h:PS X st t)(m:∀D σ H,t' D σ H->t D σ H):PS X st t':=λpins s σ H D I q=>h pins s σ H D I (m D σ H q)
theorem _root_.L2.PSs.mono{X:Cx}{st:List Stmt}{t t':TS}(h:PSs X st t)(m:∀D σ H,t' D σ H->t D σ H):PSs X st t':=λpins s σ H D I q=>h pins s σ H D I (m D σ H q)
noncomputable def Qi:DS:=λρ=>some (.nx ρ)
noncomputable def Qf(f g:DS):DS:=λρ=>(f ρ).bind λo=>match o with
 | .nx ρ'=>g ρ'
 | .bk ρ'=>some (.bk ρ')
 | .ct ρ'=>some (.ct ρ')
 | .rt d fr=>some (.rt d fr)
noncomputable def QpA:DS:=λρ=>some (.bk ρ)
noncomputable def Qpk:DS:=λρ=>some (.ct ρ)
noncomputable def Qu(i:Nat)(fa:DE):DS:=λρ=>(fa ρ).bind λr=>some (.nx (asg i r ρ))
noncomputable def Qao(fa:DE):DE:=λρ=>(fa ρ).map λr=>⟨r.d,false,r.M⟩
noncomputable def QH(fa:DE):DS:=λρ=>(fa ρ).bind λr=>some (.rt r.d (r.norm.fr && decide r.norm.M.Nodup))
noncomputable def QpV:DS:=λ_=>some (.rt .non true)
noncomputable def Qo5(fa:DE):DS:=λρ=>(fa ρ).bind λ_=>some (.nx ρ)
noncomputable def sIf(g:DT)(f1 f2:DS):DS:=λρ=>(g ρ).bind λb=>if b=true then f1 ρ else f2 ρ
noncomputable def Qdw(t:Tg)(fb:DS):List D->DS
 | [],ρ=>some (.nx ρ)
 | d::ds,ρ=>(QbO t d ρ).bind λρ1=>(fb ρ1).bind λo=>match o with
  | .nx ρ2=>Qdw t fb ds ρ2
  | .ct ρ2=>Qdw t fb ds ρ2
  | .bk ρ2=>some (.nx ρ2)
  | .rt d fr=>some (.rt d fr)
noncomputable def QaW(fi:DI)(t:Tg)(fb:DS):DS:=λρ=>(fi ρ).bind λir=>Qdw t fb ir.items (Qau ir.M ρ)
noncomputable def Qa1(g:DT)(fb:DS):Nat->DS
 | 0,_=>none
 | n+1,ρ=>(g ρ).bind λb=>if b=true then(fb ρ).bind λo=>match o with
  | .nx ρ2=>Qa1 g fb n ρ2
  | .ct ρ2=>Qa1 g fb n ρ2
  | .bk ρ2=>some (.nx ρ2)
  | .rt d fr=>some (.rt d fr)
  else some (.nx ρ)
section
variable {X:Cx}{st:Stmt}{sts:List Stmt}{e:Expr}{fa:DE}{f g:DS}{gc:DT}{pos:Pos}
theorem Qxr:SS X [] Qi:=λH0 A0=>QoB.mono λE σ H ⟨ρ,hs,F,o,rel,e,q⟩=>by
 cases e
 exact q σ H F rel
theorem Que(h1:S1 X st f)(h2:SS X sts g):SS X (st::sts) (Qf f g):=λH0 A0=>(QaX (h1 H0 A0) (h2 H0 A0)).mono λE σ H ⟨ρ,hs,F,o,rel,e,q⟩=>by
 obtain⟨o1,e1,e⟩:=bind1 e
 refine⟨ρ,hs,F,o1,rel,e1,?_⟩
 cases o1 with
 | nx ρ'=>exact λσ' H' F' rel'=>⟨ρ',hs,F',o,rel',e,q⟩
 | bk ρ'=>cases e;exact q
 | ct ρ'=>cases e;exact q
 | rt d fr=>cases e;exact q
theorem Qve:S1 X (.Pass pos) Qi:=λH0 A0=>Qvi.mono λE σ H ⟨ρ,hs,F,o,rel,e,q⟩=>by
 cases e
 exact q σ H F rel
theorem QsT:S1 X (.Break pos) QpA:=λH0 A0=>Qtj.mono λE σ H ⟨ρ,hs,F,o,rel,e,q⟩=>by
 cases e
 exact q σ H F rel
theorem Qug:S1 X (.Continue pos) Qpk:=λH0 A0=>Qoq.mono λE σ H ⟨ρ,hs,F,o,rel,e,q⟩=>by
 cases e
 exact q σ H F rel
theorem Qr9(h:SE X e fa):SE X e (Qao fa):=λH0 A0=>(h H0 A0).mono λσ H Q ⟨ρ,hs,F,r,rel,e,q⟩=>by
 obtain⟨r',e1,rfl⟩:=Zf.mp e
 exact⟨ρ,hs,F,r',rel,e1,λv H' G p=>q v H' G ⟨p.same,p.rp,p.src,λz=>(by cases z),p.own⟩⟩
theorem Qmt{i:Nat}(h:∀H0 A0,PS X st (QcW (tV X.K H0 A0 fa) (Qdu i))):S1 X st (Qu i fa):=λH0 A0=>(h H0 A0).mono λE σ H ⟨ρ,hs,F,o,rel,e,q⟩=>by
 obtain⟨r,e1,e⟩:=bind1 e
 cases e
 refine⟨ρ,hs,F,r,rel,e1,λv H' G p=>?_⟩
 obtain⟨F',rel'⟩:=rel.asg (i:=i) p
 exact q _ _ F' rel'
theorem Qub(h:PS X st (QjR (tV X.K H0 A0 fa))):PS X st (tS X.K H0 A0 (Qo5 fa)):=h.mono λE σ H ⟨ρ,hs,F,o,rel,e,q⟩=>by
 obtain⟨r,e1,e⟩:=bind1 e
 cases e
 exact⟨ρ,hs,F,r,rel,e1,λv H' G p=>q σ H' F (rel.ext p.same)⟩
theorem Rel.ret{K:PySem.W.Frag}{H0 H H':Hp}{A0:List Addr}{hs:List (V×D×List Addr)}{ρ:En}{F:Nat->List Addr}{σ:L2.St}(rel:Rel K H0 A0 hs ρ F σ H){r:R}{v:V}{G:List Addr}(p:Qab K ρ F H H' r v G):Ret K H0 A0 r.d (r.norm.fr && decide r.norm.M.Nodup) v H' G where
 same:=rel.same.trans p.same
 rp:=p.rp
 src:=λa ha=>by
  rcases p.src a ha with z | ⟨i,d,b,e,m,_⟩
  ·exact .inl (rel.same.free z)
  ·exact rel.src i d b e a m
 cnt:=λh=>by
  simp only[Zj,decide_eq_true_eq]at h
  have p':=p.norm
  obtain⟨h1,h2⟩:=p'.fresh rel h.1 h.2
  have h3:=(p'.cnt h.1).2
  rw[r.QcB]at h3
  exact⟨h1,h3,λa ha=>(h2 a ha).1⟩
theorem QwG(he:SE X e fa):S1 X (.Return (some e) pos) (QH fa):=λH0 A0=>(Qxs (he H0 A0)).mono λE σ H ⟨ρ,hs,F,o,rel,e,q⟩=>by
 obtain⟨r,e1,e⟩:=bind1 e
 cases e
 exact⟨ρ,hs,F,r,rel,e1,λv H' G p=>q v H' G (rel.ret p)⟩
theorem QuN:S1 X (.Return none pos) QpV:=λH0 A0=>Qt4.mono λE σ H ⟨ρ,hs,F,o,rel,e,q⟩=>by
 cases e
 exact q .non H [] ⟨rel.same,.QjG,λa ha=>(by simp at ha),λ_=>⟨Zaq,rfl,λa ha=>(by simp at ha)⟩⟩
theorem QxW{c:Expr}{a b:List Stmt}(hc:ST X c gc)(ha:SS X a f)(hb:SS X b g):S1 X (.If c a b pos) (sIf gc f g):=λH0 A0=>(Qx8 (hc H0 A0) (ha H0 A0) (hb H0 A0)).mono λE σ H ⟨ρ,hs,F,o,rel,e,q⟩=>by
 obtain⟨c,e1,e⟩:=bind1 e
 refine⟨ρ,hs,F,c,rel,e1,λH1 s1=>?_⟩
 cases c with
 | true=>exact Qsh ⟨ρ,hs,F,o,rel.ext s1,e,q⟩
 | false=>exact QsG ⟨ρ,hs,F,o,rel.ext s1,e,q⟩
theorem Qwm{tg iter:Expr}{body:List Stmt}{fi:DI}{t:Tg}(hp:PassesOwn (model X.prog X.w) X.A X.env X.xe)(hc:X.calm=true)(hi:SI X tg iter fi)(hg:SG X tg t)(hb:SS X body f)(hs:∀x,foldedSetIterable iter X.env x=pure x):
  S1 X (.For tg iter body [] pos) (QaW fi t f):=λH0 A0=>(QqN hp hc (hi H0 A0) (hg H0 A0) (hb H0 A0) hs).mono λE σ H ⟨ρ,hs,F,o,rel,e,q⟩=>by
 obtain⟨ir,e1,e⟩:=bind1 e
 refine⟨ρ,hs,F,ir,rel,e1,λJ H1 ts s1 wk hts ow hz=>?_⟩
 have rel1:Rel X.K H0 A0 (ts++hs) (Qau ir.M ρ) F σ H1:=((rel.ext s1).weak (QaK ir.M ρ)).hold λt ht=>⟨(hts t ht).1,Shr.of rel (hts t ht).2⟩
 refine⟨λi m σ' H'=>m=ir.items.length-i/\i<=ir.items.length/\∃ρi Fi,Rel X.K H0 A0 (ts++hs) ρi Fi σ' H'/\Qdw t f (ir.items.drop i) ρi=some o,⟨_,rfl,ZS _,_,F,rel1,by simpa using e⟩,?_⟩
 rintro i m σ' H' ⟨rfl,hi',ρi,Fi,reli,ei⟩
 have held:QnY X.K H' ts:=λt ht=>(reli.held t (Zh _ ht)).1
 by_cases hlt:i<ir.items.length
 ·rw[Zaj hlt]at ei
  unfold Qdw at ei
  obtain⟨ρ1,eb,ei⟩:=bind1 ei
  obtain⟨o1,eo,ei⟩:=bind1 ei
  refine .inr ⟨wk.go i H' hlt held,λσ2 H2=>∃ρ2 F2,Rel X.K H0 A0 (ts++hs) ρ2 F2 σ2 H2/\Qdw t f (ir.items.drop (i+1)) ρ2=some o,λσ2 H2 ⟨ρ2,F2,rel2,e2⟩=>⟨_,by omega,rfl,hlt,ρ2,F2,rel2,e2⟩,λx H2 hy=>?_⟩
  obtain⟨s2,G0,rp0,hG0⟩:=wk.yld i ir.items[i] H' x H2 (by simp[hlt]) held hy
  have shr:Shr H0 A0 ρi Fi G0:=λa ha=>by
   obtain⟨t,ht,hat⟩:=hG0 a ha
   exact⟨(reli.held t (Zh _ ht)).2 a hat,λj d ej hj=>(reli.own j d ej).2.2.2.2 t (Zh _ ht) a hj hat⟩
  refine⟨ρi,ts++hs,Fi,ir.items[i],G0,ρ1,reli.ext s2,rp0,shr,eb,λσ3 F3 rel3 _ _=>⟨ρ1,ts++hs,F3,o1,rel3,eo,?_⟩⟩
  cases o1 with
  | nx ρ2=>exact λσ4 H4 F4 rel4=>⟨ρ2,F4,rel4,ei⟩
  | ct ρ2=>exact λσ4 H4 F4 rel4=>⟨ρ2,F4,rel4,ei⟩
  | bk ρ2=>cases ei;exact λσ4 H4 F4 rel4=>q σ4 H4 F4 rel4.QnW
  | rt d fr=>cases ei;exact q
 ·have hn:i=ir.items.length:=by omega
  subst hn
  rw[List.drop_length]at ei
  cases ei
  exact .inl ⟨wk.stop H' held,q σ' H' Fi reli.QnW⟩
theorem Qty{c:Expr}{body:List Stmt}{n:Nat}(hp:PassesOwn (model X.prog X.w) X.A X.env X.xe)(hc:ST X c gc)(hb:SS X body f):S1 X (.While c body [] pos) (Qa1 gc f n):=λH0 A0=>(Qs9 hp (hc H0 A0) (hb H0 A0)).mono λE σ H ⟨ρ,hs,F,o,rel,e,q⟩=>by
 refine⟨λm σ' H'=>∃ρi Fi,Rel X.K H0 A0 hs ρi Fi σ' H'/\Qa1 gc f m ρi=some o,⟨n,ρ,F,rel,e⟩,?_⟩
 rintro m σ' H' ⟨ρi,Fi,reli,ei⟩
 cases m with
 | zero=>cases ei
 | succ m=>
  unfold Qa1 at ei
  obtain⟨b,eb,ei⟩:=bind1 ei
  refine⟨ρi,hs,Fi,b,reli,eb,λH1 s1=>?_⟩
  cases b with
  | false=>
   rw[if_neg Zao]at ei
   cases ei
   exact QsG (q σ' H1 Fi (reli.ext s1))
  | true=>
   rw[if_pos rfl]at ei
   obtain⟨o1,eo,ei⟩:=bind1 ei
   refine Qsh ⟨λσ2 H2=>∃ρ2 F2,Rel X.K H0 A0 hs ρ2 F2 σ2 H2/\Qa1 gc f m ρ2=some o,λσ2 H2 h=>⟨m,Zbq _,h⟩,ρi,hs,Fi,o1,reli.ext s1,eo,?_⟩
   cases o1 with
   | nx ρ2=>exact λσ4 H4 F4 rel4=>⟨ρ2,F4,rel4,ei⟩
   | ct ρ2=>exact λσ4 H4 F4 rel4=>⟨ρ2,F4,rel4,ei⟩
   | bk ρ2=>cases ei;exact λσ4 H4 F4 rel4=>q σ4 H4 F4 rel4
   | rt d fr=>cases ei;exact q
end
end HS
namespace HS
open PySem PySem.Spec L2
section
variable {K:PySem.W.Frag}{H H':Hp}
theorem Rps.split:∀{ds:List D}{vs:List V}{F:List Addr}{j:Nat}{d:D},Rps K H ds vs F->ds[j]? =some d→
  ∃F1 G F2 v,F=F1++(G++F2)/\vs[j]? =some v/\Rps K H (ds.take j) (vs.take j) F1/\Rp K H d v G/\Rps K H (ds.drop (j+1)) (vs.drop (j+1)) F2
 | [],_,_,_,_,_,e=>by simp at e
 | d::ds,_,_,0,_,h,e=>by
  simp only[Rps]at h
  obtain⟨v,ws,F1,F2,rfl,rfl,r,q⟩:=h
  simp at e;subst e
  exact⟨[],F1,F2,v,rfl,by simp,by simp[Rps],r,by simpa using q⟩
 | d::ds,_,_,j+1,_,h,e=>by
  simp only[Rps]at h
  obtain⟨v,ws,F1,F2,rfl,rfl,r,q⟩:=h
  obtain⟨G1,G,G2,v',h1,h2,h3,h4,h5⟩:=Rps.split q (by simpa using e)
  refine⟨F1++G1,G,G2,v',by rw[h1,Zbl],by simpa using h2,?_,h4,by simpa using h5⟩
  simp only[List.take_succ_cons,Rps]
  exact⟨v,_,F1,G1,rfl,rfl,r,h3⟩
theorem Rps.join{ds:List D}{vs:List V}{F1 G F2:List Addr}{j:Nat}{d:D}{v:V}(h1:Rps K H (ds.take j) (vs.take j) F1)(hd:Rp K H d v G)(h2:Rps K H (ds.drop (j+1)) (vs.drop (j+1)) F2)(hj:j<ds.length)(hv:vs[j]? =some v):
  Rps K H (ds.set j d) vs (F1++(G++F2)):=by
 have e1:ds.set j d=ds.take j++d::ds.drop (j+1):=ZaB .. |>.trans (by rw[if_pos hj])
 have hjv:j<vs.length:=(Zd.mp hv).1
 have hve:vs[j]=v:=(Zd.mp hv).2
 have e2:vs=vs.take j++v::vs.drop (j+1):=by
  rw[← hve,← Zaj hjv,ZaS]
 rw[e1,e2]
 refine h1.append ?_
 simp only[Rps]
 refine⟨v,_,G,F2,rfl,rfl,hd,h2⟩
theorem Rps.Qt1{ds:List D}{vs:List V}{F1 G F2:List Addr}{j:Nat}{d:D}{v:V}(h1:Rps K H (ds.take j) (vs.take j) F1)(hd:Rp K H d v G)(h2:Rps K H (ds.drop (j+1)) (vs.drop (j+1)) F2)(hj:j<ds.length)(hv:j<vs.length):
  Rps K H (ds.set j d) (vs.set j v) (F1++(G++F2)):=by
 have e1:ds.set j d=ds.take j++d::ds.drop (j+1):=ZaB .. |>.trans (by rw[if_pos hj])
 have e2:vs.set j v=vs.take j++v::vs.drop (j+1):=ZaB .. |>.trans (by rw[if_pos hv])
 rw[e1,e2]
 refine h1.append ?_
 simp only[Rps]
 exact⟨v,_,G,F2,rfl,rfl,hd,h2⟩
noncomputable def Focus(K:PySem.W.Frag)(H:Hp):List Int->D->V->List Addr->D->V->List Addr->Prop
 | [],d,v,F,dm,w,Gm=>dm=d/\w=v/\Gm=F/\Rp K H d v F
 | i::is,d,v,F,dm,w,Gm=>∃(ds:List D) (a:Addr) (vs:List V) (j:Nat) (F1 G F2:List Addr) (d':D) (v':V),v= .ref a/\ixN ds.length i=some j∧
   ((d= .lst ds/\ds.length<=sizeLine/\((F=a::(F1++(G++F2))/\H a=some (.lst vs))∨(F=F1++(G++F2)/\Fix K H a vs)))∨(d= .tup ds/\F=F1++(G++F2)/\SqT K H a vs))∧
   Rps K H (ds.take j) (vs.take j) F1/\Rps K H (ds.drop (j+1)) (vs.drop (j+1)) F2/\ds[j]? =some d'/\vs[j]? =some v'/\ds.length=vs.length/\Focus K H is d' v' G dm w Gm
theorem Focus.same(s:QN H H'):∀{is:List Int}{d:D}{v:V}{F:List Addr}{dm:D}{w:V}{Gm:List Addr},Focus K H is d v F dm w Gm->Focus K H' is d v F dm w Gm
 | [],_,_,_,_,_,_,h=>⟨h.1,h.2.1,h.2.2.1,h.2.2.2.same s⟩
 | i::is,_,_,_,_,_,_,h=>by
  obtain⟨ds,a,vs,j,F1,G,F2,d',v',h1,h2,h3,h4,h5,h6,h7,h8,h9⟩:=h
  refine⟨ds,a,vs,j,F1,G,F2,d',v',h1,h2,?_,h4.same s,h5.same s,h6,h7,h8,h9.same s⟩
  rcases h3 with⟨e,z,q⟩ | ⟨e,eF,q⟩
  ·refine .inl ⟨e,z,?_⟩
   rcases q with⟨eF,q⟩ | ⟨eF,q⟩
   ·exact .inl ⟨eF,s _ _ q⟩
   ·exact .inr ⟨eF,QmX s q⟩
  ·exact .inr ⟨e,eF,Qm2 s q⟩
theorem Focus.rp:∀{is:List Int}{d:D}{v:V}{F:List Addr}{dm:D}{w:V}{Gm:List Addr},Focus K H is d v F dm w Gm->Rp K H dm w Gm
 | [],_,_,_,_,_,_,h=>by
  obtain⟨rfl,rfl,rfl,r⟩:=h
  exact r
 | i::is,_,_,_,_,_,_,h=>by
  obtain⟨ds,a,vs,j,F1,G,F2,d',v',h1,h2,h3,h4,h5,h6,h7,h8,h9⟩:=h
  exact h9.rp
theorem Focus.Qqq:∀{is:List Int}{d:D}{v:V}{F:List Addr}{dm:D}{w:V}{Gm:List Addr},Focus K H is d v F dm w Gm->Rp K H d v F
 | [],_,_,_,_,_,_,h=>h.2.2.2
 | i::is,_,_,_,_,_,_,h=>by
  obtain⟨ds,a,vs,j,F1,G,F2,d',v',rfl,h2,h3,h4,h5,h6,h7,h8,h9⟩:=h
  have hjl:j<ds.length:=(Zd.mp h6).1
  have hdj:ds[j]=d':=(Zd.mp h6).2
  have j1:=Rps.join h4 h9.Qqq h5 hjl h7
  rw[show ds.set j d'=ds by rw[← hdj];exact List.set_getElem_self hjl]at j1
  rcases h3 with⟨rfl,hz,⟨rfl,q⟩ | ⟨rfl,q⟩⟩ | ⟨rfl,rfl,q⟩
  ·exact Rp.QdZ q j1 hz
  ·simp only[Rp]
   exact⟨hz,a,vs,rfl,.inr ⟨q,j1⟩⟩
  ·simp only[Rp]
   exact⟨a,vs,rfl,q,j1⟩
theorem Focus.one{d:D}{v:V}{F:List Addr}{ds:List D}{i:Int}{d':D}(r:Rp K H d v F)(hd:d.items=some ds)(hi:atI ds i=some d'):
  ∃a vs v' G,v= .ref a/\((d= .lst ds/\SqL K H a vs)∨(d= .tup ds/\SqT K H a vs))/\atI vs i=some v'/\Focus K H [i] d v F d' v' G:=by
 unfold atI at hi
 cases hj:ixN ds.length i with
 | none=>rw[hj]at hi;cases hi
 | some j=>
  rw[hj]at hi
  have hdj:ds[j]? =some d':=hi
  have fin:∀(vs:List V) (L:List Addr),Rps K H ds vs L->∃v' G F1 F2,L=F1++(G++F2)/\vs[j]? =some v'/\atI vs i=some v'/\Rps K H (ds.take j) (vs.take j) F1/\Rp K H d' v' G/\Rps K H (ds.drop (j+1)) (vs.drop (j+1)) F2/\ds.length=vs.length:=λvs L rl=>by
   obtain⟨F1,G,F2,v',h1,h2,h3,h4,h5⟩:=rl.split hdj
   refine⟨v',G,F1,F2,h1,h2,?_,h3,h4,h5,rl.length⟩
   unfold atI
   rw[← rl.length,hj]
   exact h2
  cases d with
  | lst xs=>
   cases hd
   simp only[Rp]at r
   obtain⟨hz,a,vs,rfl,⟨L,rfl,q,rl⟩ | ⟨q,rl⟩⟩:=r
   ·obtain⟨v',G,F1,F2,h1,h2,h3,h4,h5,h6,h7⟩:=fin vs L rl
    exact⟨a,vs,v',G,rfl,.inl ⟨rfl,SqL.of q⟩,h3,ds,a,vs,j,F1,G,F2,d',v',rfl,hj,.inl ⟨rfl,hz,.inl ⟨by rw[h1],q⟩⟩,h4,h6,hdj,h2,h7,rfl,rfl,rfl,h5⟩
   ·obtain⟨v',G,F1,F2,h1,h2,h3,h4,h5,h6,h7⟩:=fin vs _ rl
    exact⟨a,vs,v',G,rfl,.inl ⟨rfl,q.sq⟩,h3,ds,a,vs,j,F1,G,F2,d',v',rfl,hj,.inl ⟨rfl,hz,.inr ⟨h1,q⟩⟩,h4,h6,hdj,h2,h7,rfl,rfl,rfl,h5⟩
  | tup xs=>
   cases hd
   obtain⟨a,vs,rfl,q,rl⟩:=r.Qa3
   obtain⟨v',G,F1,F2,h1,h2,h3,h4,h5,h6,h7⟩:=fin vs _ rl
   exact⟨a,vs,v',G,rfl,.inr ⟨rfl,q⟩,h3,ds,a,vs,j,F1,G,F2,d',v',rfl,hj,.inr ⟨rfl,h1,q⟩,h4,h6,hdj,h2,h7,rfl,rfl,rfl,h5⟩
  | _=>cases hd
theorem Focus.snoc:∀{is:List Int}{d:D}{v:V}{F:List Addr}{dm:D}{w:V}{Gm:List Addr}{i:Int}{d':D}{v':V}{G:List Addr},Focus K H is d v F dm w Gm->Focus K H [i] dm w Gm d' v' G->Focus K H (is++[i]) d v F d' v' G
 | [],_,_,_,_,_,_,_,_,_,_,h,g=>by
  obtain⟨rfl,rfl,rfl,r⟩:=h
  exact g
 | k::is,_,_,_,_,_,_,_,_,_,_,h,g=>by
  obtain⟨ds,a,vs,j,F1,G,F2,d',v',h1,h2,h3,h4,h5,h6,h7,h8,h9⟩:=h
  exact⟨ds,a,vs,j,F1,G,F2,d',v',h1,h2,h3,h4,h5,h6,h7,h8,h9.snoc g⟩
noncomputable def Qax:D->List Int->Option D
 | d,[]=>some d
 | d,i::is=>(d.items).bind λds=>(atI ds i).bind λd'=>Qax d' is
theorem Qjn:∀{is:List Int}{d:D}{i:Int}{d':D},Qax d (is++[i])=some d'->∃dm ds,Qax d is=some dm/\dm.items=some ds/\atI ds i=some d'
 | [],d,i,d',h=>by
  obtain⟨ds,h1,h⟩:=bind1 h
  obtain⟨d'',h2,h⟩:=bind1 h
  cases h
  exact⟨d,ds,rfl,h1,h2⟩
 | k::is,d,i,d',h=>by
  obtain⟨ds,h1,h⟩:=bind1 h
  obtain⟨d'',h2,h⟩:=bind1 h
  obtain⟨dm,es,h3,h4,h5⟩:=Qjn h
  refine⟨dm,es,?_,h4,h5⟩
  simp only[Qax,h1,h2,Za,h3]
noncomputable def Qay:List Int->D->D->D
 | [],_,new=>new
 | i::is,.lst ds,new=>match ixN ds.length i with
  | some j=> .lst (ds.set j (Qay is (ds.getD j .non) new))
  | none=> .lst ds
 | i::is,.tup ds,new=>match ixN ds.length i with
  | some j=> .tup (ds.set j (Qay is (ds.getD j .non) new))
  | none=> .tup ds
 | _::_,d,_=>d
theorem Qib:∀{ds:List D}{j:Nat}{d e:D},ds[j]? =some d->nls (ds.set j e)+d.nl=nls ds+e.nl
 | [],_,_,_,h=>by simp at h
 | x::ds,0,d,e,h=>by simp at h;subst h;simp only[List.set_cons_zero,nls];omega
 | x::ds,j+1,d,e,h=>by
  have:=Qib (e:=e) (by simpa using h)
  simp only[List.set_cons_succ,nls];omega
theorem Qde:∀(as bs:List D),nls (as++bs)=nls as+nls bs
 | [],bs=>by simp[nls]
 | a::as,bs=>by simp only[ZaZ,nls,Qde as bs];omega
theorem Focus.mut{p:Addr}{dsm ds':List D}{vs':List V}{G':List Addr}:∀{is:List Int}{d:D}{v:V}{F:List Addr}{Gm:List Addr},Focus K H is d v F (.lst dsm) (.ref p) Gm->F.Nodup->F.length=d.nl→
  ∃vsm Gp,H p=some (.lst vsm)/\Gm=p::Gp/\Rps K H dsm vsm Gp/\Gp.length=nls dsm/\p∈F/\(∀a∈Gp,a∈F)/\p∉Gp∧
   (Rps K (upd H p (.lst vs')) ds' vs' G'->ds'.length<=sizeLine->G'.length=nls ds'→
    ∃F',Rp K (upd H p (.lst vs')) (Qay is d (.lst ds')) v F'/\F'.length=(Qay is d (.lst ds')).nl/\∀a,F'.count a+Gp.count a=F.count a+G'.count a)
 | [],d,v,F,Gm,h,nd,hl=>by
  obtain⟨rfl,rfl,rfl,r⟩:=h
  simp only[Rp]at r
  obtain⟨hz,a,vs,e,h⟩:=r
  cases e
  rcases h with⟨L,rfl,q,rl⟩ | ⟨q,rl⟩
  ·obtain⟨n1,n2⟩:=Zan.mp nd
   have hl':L.length=nls dsm:=by simp only[D.nl,ZE]at hl;omega
   refine⟨vs,L,q,rfl,rl,hl',Zq,λa ha=>Zg _ ha,n1,λr' hz' hl2=>⟨p::G',Rp.QdZ Qai r' hz',?_,λa=>?_⟩⟩
   ·simp only[Qay,D.nl,ZE,hl2]
   ·rw[ZaE,ZaE];omega
  ·have:=rl.Qal
   simp only[D.nl]at hl
   omega
 | i::is,d,v,F,Gm,h,nd,hl=>by
  obtain⟨ds,a,vs,j,F1,G,F2,d',v',rfl,hj,h3,h4,h5,h6,h7,h8,h9⟩:=h
  have hjl:j<ds.length:=(Zd.mp h6).1
  have gd:ds.getD j .non=d':=by rw[Zar,h6];rfl
  have l1:=h4.Qal
  have l2:=h5.Qal
  have l3:=h9.Qqq.Qal
  have nlsplit:nls (ds.take j)+(d'.nl+nls (ds.drop (j+1)))=nls ds:=by
   have e1:ds=ds.take j++d'::ds.drop (j+1):=by
    have:ds[j]=d':=(Zd.mp h6).2
    rw[← this,← Zaj hjl,ZaS]
   have e2:=congrArg nls e1
   rw[Qde]at e2
   simp only[nls]at e2
   exact e2.symm
  have core:(F1++(G++F2)).Nodup->(F1++(G++F2)).length=nls ds->_:=λnd' hl'=>by
   simp only[Zt]at hl'
   have hG:G.length=d'.nl:=by omega
   have ndG:G.Nodup:=(ZaI.mp (ZaI.mp nd').2.1).1
   exact(h9.mut (vs':=vs') (ds':=ds') (G':=G') ndG hG)
  have apart:(F1++(G++F2)).Nodup->p∈G->p∉F1/\p∉F2:=λnd' hp=>by
   have n1:=ZaI.mp nd'
   have n2:=ZaI.mp n1.2.1
   exact⟨λh=>n1.2.2 p h p (Zh _ hp) rfl,λh=>n2.2.2 p hp p h rfl⟩
  have cnt:∀(G'' Gp:List Addr),(∀a,G''.count a+Gp.count a=G.count a+G'.count a)->∀a,(F1++(G''++F2)).count a+Gp.count a=(F1++(G++F2)).count a+G'.count a:=λG'' Gp hc a=>by
   have:=hc a
   simp only[Zag];omega
  rcases h3 with⟨rfl,hz,⟨rfl,q⟩ | ⟨rfl,q⟩⟩ | ⟨rfl,rfl,q⟩
  ·
   obtain⟨n1,n2⟩:=Zan.mp nd
   have hl':(F1++(G++F2)).length=nls ds:=by simp only[D.nl,ZE]at hl;omega
   obtain⟨vsm,Gp,e1,e2,e3,e4,e5,e6,e7,e8⟩:=core n2 hl'
   have ap:=apart n2 e5
   have hap:a≠p:=λz=>n1 (by rw[z];exact Zc _ (Zh _ e5))
   refine⟨vsm,Gp,e1,e2,e3,e4,Zg _ (Zc _ (Zh _ e5)),λb hb=>Zg _ (Zc _ (Zh _ (e6 b hb))),e7,λr' hz' hl2=>?_⟩
   obtain⟨G'',f1,f2,f3⟩:=e8 r' hz' hl2
   have j1:=Rps.join (h4.upd e1 ap.1) f1 (h5.upd e1 ap.2) hjl h7
   refine⟨a::(F1++(G''++F2)),?_,?_,λb=>?_⟩
   ·simp only[Qay,hj,gd]
    exact Rp.QdZ (by rw[QQ hap];exact q) j1 (by rw[Zz];exact hz)
   ·have:=Qib (e:=Qay is d' (.lst ds')) h6
    simp only[Qay,hj,gd,D.nl,ZE,Zt,f2]at hl' ⊢
    omega
   ·have:=cnt G'' Gp f3 b
    rw[ZaE,ZaE];omega
  ·have:(F1++(G++F2)).length<=nls ds:=by simp only[Zt];omega
   simp only[D.nl]at hl
   omega
  ·
   have hl':(F1++(G++F2)).length=nls ds:=by simpa only[D.nl]using hl
   obtain⟨vsm,Gp,e1,e2,e3,e4,e5,e6,e7,e8⟩:=core nd hl'
   have ap:=apart nd e5
   refine⟨vsm,Gp,e1,e2,e3,e4,Zc _ (Zh _ e5),λb hb=>Zc _ (Zh _ (e6 b hb)),e7,λr' hz' hl2=>?_⟩
   obtain⟨G'',f1,f2,f3⟩:=e8 r' hz' hl2
   have j1:=Rps.join (h4.upd e1 ap.1) f1 (h5.upd e1 ap.2) hjl h7
   refine⟨F1++(G''++F2),?_,?_,cnt G'' Gp f3⟩
   ·simp only[Qay,hj,gd,Rp]
    exact⟨a,vs,rfl,QoH e1 q,j1⟩
   ·have:=Qib (e:=Qay is d' (.lst ds')) h6
    simp only[Qay,hj,gd,D.nl,Zt,f2]at hl' ⊢
    omega
end
end HS
namespace HS
open PySem PySem.Spec L2
section
variable {K:PySem.W.Frag}{H0 H H1 H2:Hp}{A0:List Addr}{hs:List (V×D×List Addr)}{ρ:En}{F:Nat->List Addr}{σ:L2.St}
theorem Rel.mut(rel:Rel K H0 A0 hs ρ F σ H){r:R}{vn:V}{Gn:List Addr}(p:Qab K ρ F H H1 r vn Gn)(hf:r.fr=true)(nd:r.M.Nodup)(s12:QN H1 H2){x:Nat}{d:D}(hx:ρ[x]? =some (some (d,true)))(hxM:x∉r.M){v0:V}(hv0:σ[x]? =some (some v0))
  {dnew:D}{q:Addr}{F':List Addr}{vsm vs':List V}(e1:H2 q=some (.lst vsm)) (e5:q∈F x) (f1:Rp K (upd H2 q (.lst vs')) dnew v0 F') (f2:F'.length=dnew.nl) (cF:∀a,F'.count a<=(F x).count a+Gn.count a):
  ∃F',Rel K H0 A0 hs ((kill r.M ρ).set x (some (dnew,true))) F' σ (upd H2 q (.lst vs')):=by
 obtain⟨ol,on,o0,oap,oh⟩:=rel.own x d hx
 obtain⟨gn,gs⟩:=p.fresh rel hf nd
 have rel2:=(rel.ext p.same).ext s12
 have relk:=rel2.weak (Qc4 r.M ρ)
 have apn:∀a∈Gn,a∉F x:=λa ha hax=>by
  rcases(gs a ha).2 with z | ⟨k,d',hk,ek,hak⟩
  ·obtain⟨vs,w⟩:=rel.mem hx hax
   rw[z]at w;cases w
  ·have:k≠x:=λz=>hxM (z▸hk)
   exact oap k d' true this ek a hax hak
 have memF:∀a∈F',a∈F x∨a∈Gn:=λa ha=>by
  have h1:=cF a
  have h2:0<F'.count a:=Zaa.mpr ha
  by_cases h:a∈F x
  ·exact .inl h
  ·rw[ZP.mpr h]at h1
   exact .inr (Zaa.mp (by omega))
 have apart:∀(j:Nat) d' b,j≠x->(kill r.M ρ)[j]? =some (some (d',b))->∀a∈F',a∉F j:=λj d' b hj e a ha haj=>by
  obtain⟨b',e',_⟩:=(Qc4 r.M ρ).2 j d' b e
  rcases memF a ha with h | h
  ·exact oap j d' b' hj e' a h haj
  ·rcases(gs a h).2 with z | ⟨k,d'',hk,ek,hak⟩
   ·obtain⟨vs,w⟩:=rel.mem e' haj
    rw[z]at w;cases w
   ·have hjk:j≠k:=λz=>by subst z;exact Qg4 r.M ρ j d' b hk e
    exact(rel.own k d'' ek).2.2.2.1 j d' b' hjk e' a hak haj
 have apartH:∀t∈hs,∀a∈F',a∉t.2.2:=λt ht a ha hat=>by
  rcases memF a ha with h | h
  ·exact oh t ht a h hat
  ·rcases(gs a h).2 with z | ⟨k,d'',hk,ek,hak⟩
   ·obtain⟨vs,w⟩:=(rel.held t ht).1.mem a hat
    rw[z]at w;cases w
   ·exact(rel.own k d'' ek).2.2.2.2 t ht a hak hat
 have nqj:∀(j:Nat) d' b,j≠x->ρ[j]? =some (some (d',b))->q∉F j:=λj d' b hj e h=>oap j d' b hj e q e5 h
 have nF':F'.Nodup:=Zah.mpr λa=>by
  have h1:=cF a
  have h2:=Zah.mp on a
  have h3:=Zah.mp gn a
  by_cases h:a∈Gn
  ·rw[ZP.mpr (apn a h)]at h1;omega
  ·rw[ZP.mpr h]at h1;omega
 have lt:∀{j:Nat}{z:Option (D×Bool)}{y:D×Bool},((kill r.M ρ).set j z)[j]? =some (some y)->j<(kill r.M ρ).length:=λ{j z y} e=>by
  by_cases hl:j<(kill r.M ρ).length
  ·exact hl
  ·rw[Zs (by simp;omega)]at e;cases e
 refine⟨λj=>if j=x then F' else F j,by simp[relk.len],λj d' b e=>?_,λj d' e=>?_,λj d' b e a ha=>?_,λt ht=>⟨(relk.held t ht).1.upd e1 λh=>oh t ht q e5 h,(relk.held t ht).2⟩,λb o hb=>?_⟩
 ·by_cases hj:j=x
  ·subst hj
   have hl:=lt e
   rw[Ze hl]at e
   cases e
   exact⟨v0,hv0,by rw[if_pos rfl];exact f1⟩
  ·rw[Zb (Ne.symm hj)]at e
   obtain⟨w,h1,h2⟩:=relk.val j d' b e
   obtain⟨b',e',_⟩:=(Qc4 r.M ρ).2 j d' b e
   exact⟨w,h1,by rw[if_neg hj];exact h2.upd e1 (nqj j d' b' hj e')⟩
 ·by_cases hj:j=x
  ·subst hj
   have hl:=lt e
   rw[Ze hl]at e
   cases e
   rw[if_pos rfl]
   refine⟨f2,nF',λa ha=>?_,λk d'' b hk ek a ha=>?_,apartH⟩
   ·rcases memF a ha with h | h
    ·exact o0 a h
    ·exact(gs a h).1
   ·rw[Zb (Ne.symm hk)]at ek
    rw[if_neg hk]
    exact apart k d'' b hk ek a ha
  ·rw[Zb (Ne.symm hj)]at e
   obtain⟨h1,h2,h3,h4,h5⟩:=relk.own j d' e
   rw[if_neg hj]
   refine⟨h1,h2,h3,λk d'' b hk ek a ha=>?_,h5⟩
   by_cases hki:k=x
   ·subst hki
    rw[if_pos rfl]
    exact λhG=>apart j d' true hj e a hG ha
   ·rw[Zb (Ne.symm hki)]at ek
    rw[if_neg hki]
    exact h4 k d'' b hk ek a ha
 ·by_cases hj:j=x
  ·subst hj
   rw[if_pos rfl]at ha
   rcases memF a ha with h | h
   ·exact .inl (o0 a h)
   ·exact .inl (gs a h).1
  ·rw[Zb (Ne.symm hj)]at e
   rw[if_neg hj]at ha
   exact relk.src j d' b e a ha
 ·have hbq:b≠q:=λz=>by rw[z,o0 q e5]at hb;cases hb
  rw[QQ hbq]
  exact relk.same b o hb
end
noncomputable abbrev DP:=En->Option (List Int)
noncomputable def Q2:DP:=λ_=>some []
noncomputable def Qar(p:DP)(fb:DE):DP:=λρ=>(p ρ).bind λis=>(fb ρ).bind λr=>match r.d with
 | .int i=>some (is++[i])
 | _=>none
noncomputable def tP(K:PySem.W.Frag)(H0:Hp)(A0:List Addr)(x:Nat)(pf:DP):TE:=λσ H Q=>∃ρ hs F d b is dm,Rel K H0 A0 hs ρ F σ H/\ρ[x]? =some (some (d,b))/\pf ρ=some is/\Qax d is=some dm∧
 ∀v0 v H' Gm,QN H H'->σ[x]? =some (some v0)->Focus K H' is d v0 (F x) dm v Gm->Q v H'
def SPa(X:Cx)(e:Expr)(x:Nat)(pf:DP):Prop:=∀H0 A0,PE X e (tP X.K H0 A0 x pf)
section
variable {X:Cx}{a b e:Expr}{fa fb:DE}{pf:DP}{x:Nat}{pos:Pos}
theorem Qfc{y:Str}(h:PE X (.Name y pos) (Qdn x)):SPa X (.Name y pos) x Q2:=λH0 A0=>h.mono λσ H Q ⟨ρ,hs,F,d,b,is,dm,rel,hx,hp,hd,q⟩=>by
 cases hp
 cases hd
 obtain⟨v,h1,h2⟩:=rel.val x d b hx
 exact⟨v,h1,q v v H (F x) (QN.refl _) h1 ⟨rfl,rfl,rfl,h2⟩⟩
theorem Qgk(ha:SPa X a x pf)(hb:SE X b fb)(hs:QhL b):SPa X (.Subscript a b pos) x (Qar pf fb):=λH0 A0=>
 (Qj6 (QoW.or QhH) (ha H0 A0) (hb H0 A0) hs).mono λσ H Q ⟨ρ,hs,F,d,b',is,dm,rel,hx,hp,hd,q⟩=>by
  obtain⟨is',e1,hp⟩:=bind1 hp
  obtain⟨r,e2,hp⟩:=bind1 hp
  cases hr:r.d with
  | int i=>
   rw[hr]at hp
   cases hp
   obtain⟨dn,ds,g1,g2,g3⟩:=Qjn hd
   refine⟨ρ,hs,F,d,b',is',dn,rel,hx,e1,g1,λv0 w H1 Gm s1 hv fo=>⟨ρ,hs,F,r,rel.ext s1,e2,λu H2 G p2=>?_⟩⟩
   have rp:=p2.rp
   rw[hr]at rp
   rw[rp.int_inv]
   have fo2:=fo.same p2.same
   obtain⟨c,vs,v',G',rfl,hc,h3,h4⟩:=Focus.one fo2.rp g2 g3
   have fin:=q v0 v' H2 G' (s1.trans p2.same) hv (fo2.snoc h4)
   rcases hc with⟨_,hc⟩ | ⟨_,hc⟩
   ·exact .inl ⟨c,vs,i,v',rfl,rfl,hc,h3,fin⟩
   ·exact .inr ⟨c,vs,i,v',rfl,rfl,hc,h3,fin⟩
  | _=>rw[hr]at hp;cases hp
noncomputable def Qbf(x:Nat)(pf:DP)(fi fa:DE):DS:=λρ=>(fa ρ).bind λr0=>match ρ[x]? with
 | some (some (d,true))=>(pf ρ).bind λis=>(fi ρ).bind λri=>match ri.d,Qax d is with
  | .int k,some (.lst ds)=>(ixN ds.length k).bind λj=>if r0.norm.fr && decide r0.norm.M.Nodup && !r0.norm.M.contains x then some (.nx ((kill r0.norm.M ρ).set x (some (Qay is d (.lst (ds.set j r0.d)),true))))else
   if is.isEmpty && !r0.norm.M.contains x then some (.nx ((Qau r0.norm.M ρ).set x (some (.lst (ds.set j r0.d),false))))else
   none
  | _,_=>none
 | _=>none
theorem set_mk{K:PySem.W.Frag}{H2:Hp}{q:Addr}{dsm:List D}{vsm:List V}{Gp Gn:List Addr}{j:Nat}{dn:D}{vn:V}(hq:H2 q=some (.lst vsm))(rs:Rps K H2 dsm vsm Gp)(hl:Gp.length=nls dsm)(nq:q∉Gp)(nqn:q∉Gn)(hn:Rp K H2 dn vn Gn)(hnl:Gn.length=dn.nl)(hj:j<dsm.length):
  ∃G',Rps K (upd H2 q (.lst (vsm.set j vn))) (dsm.set j dn) (vsm.set j vn) G'/\G'.length=nls (dsm.set j dn)/\∀a,G'.count a<=Gp.count a+Gn.count a:=by
 obtain⟨F1,G,F2,v,e1,e2,h1,h2,h3⟩:=rs.split (j:=j) (d:=dsm[j]) (by simp[hj])
 subst e1
 have hjv:j<vsm.length:=by rw[← rs.length];exact hj
 have n1:q∉F1:=λh=>nq (Zh _ h)
 have n2:q∉F2:=λh=>nq (Zc _ (Zc _ h))
 refine⟨F1++(Gn++F2),Rps.Qt1 (h1.upd hq n1) (hn.upd hq nqn) (h3.upd hq n2) hj hjv,?_,λa=>?_⟩
 ·have:=Qib (ds:=dsm) (j:=j) (d:=dsm[j]) (e:=dn) (by simp[hj])
  have l1:=h1.Qal
  have l2:=h2.Qal
  have l3:=h3.Qal
  have e1:nls (dsm.take j)+((dsm[j]).nl+nls (dsm.drop (j+1)))=nls dsm:=by
   have e2:=congrArg nls (ZaS j dsm)
   rw[Qde,Zaj hj]at e2
   simpa only[nls]using e2
  simp only[Zt]at hl ⊢
  omega
 ·simp only[Zag];omega
theorem Qab.QfC{K:PySem.W.Frag}{ρ:En}{F:Nat->List Addr}{H H1 H2:Hp}{r:R}{v:V}{G:List Addr}(p:Qab K ρ F H H1 r v G)(s:QN H1 H2):Qab K ρ F H H2 r v G:=⟨p.same.trans s,p.rp.same s,p.src,p.cnt,p.own⟩
theorem Qkc{K:PySem.W.Frag}{H2:Hp}{q:Addr}{dsm:List D}{vsm:List V}{Gp Gn:List Addr}{j:Nat}{dn:D}{vn:V}(hq:H2 q=some (.lst vsm))(rs:Rps K H2 dsm vsm Gp)(nq:q∉Gp)(nqn:q∉Gn)(hn:Rp K H2 dn vn Gn)(hj:j<dsm.length):
  ∃G',Rps K (upd H2 q (.lst (vsm.set j vn))) (dsm.set j dn) (vsm.set j vn) G'/\∀a∈G',a∈Gp∨a∈Gn:=by
 obtain⟨F1,G,F2,v,e1,e2,h1,h2,h3⟩:=rs.split (j:=j) (d:=dsm[j]) (by simp[hj])
 subst e1
 have hjv:j<vsm.length:=by rw[← rs.length];exact hj
 have n1:q∉F1:=λh=>nq (Zh _ h)
 have n2:q∉F2:=λh=>nq (Zc _ (Zc _ h))
 refine⟨F1++(Gn++F2),Rps.Qt1 (h1.upd hq n1) (hn.upd hq nqn) (h3.upd hq n2) hj hjv,λa ha=>?_⟩
 rcases ZJ.mp ha with h | h
 ·exact .inl (Zh _ h)
 ·rcases ZJ.mp h with h | h
  ·exact .inr h
  ·exact .inl (Zc _ (Zc _ h))
theorem Qie:∀(M:List Nat) (ρ:En) (x:Nat),x∉M->(Qau M ρ)[x]? =ρ[x]?
 | [],ρ,x,_=>rfl
 | i::M,ρ,x,h=>by
  have hi:i≠x:=λe=>h (e▸Zq)
  unfold Qau
  rw[Qie M _ x λe=>h (Zg _ e)]
  split
  ·rw[Zb hi]
  ·rfl
theorem Rel.QyE{K:PySem.W.Frag}{H0 H:Hp}{A0:List Addr}{hs:List (V×D×List Addr)}{ρ:En}{F:Nat->List Addr}{σ:L2.St}(rel:Rel K H0 A0 hs ρ F σ H){x:Nat}{d:D}(hx:ρ[x]? =some (some (d,true))){Gn:List Addr}(sh:Shr H0 A0 ρ F Gn){v0:V}(hv0:σ[x]? =some (some v0))
  {dnew:D}{q:Addr}{G':List Addr}{vsm vs':List V}(e1:H q=some (.lst vsm)) (e5:q∈F x) (f1:Rp K (upd H q (.lst vs')) dnew v0 G') (mem:∀a∈G',a∈F x∨a∈Gn):
  ∃F',Rel K H0 A0 hs (ρ.set x (some (dnew,false))) F' σ (upd H q (.lst vs')):=by
 obtain⟨ol,on,o0,oap,oh⟩:=rel.own x d hx
 have lt:∀{j:Nat}{z:Option (D×Bool)}{y:D×Bool},(ρ.set j z)[j]? =some (some y)->j<ρ.length:=λ{j z y} e=>by
  by_cases hl:j<ρ.length
  ·exact hl
  ·rw[Zs (by simp;omega)]at e;cases e
 refine⟨λj=>if j=x then G' else F j,by simp[rel.len],λj d' b e=>?_,λj d' e=>?_,λj d' b e a ha=>?_,λt ht=>⟨(rel.held t ht).1.upd e1 λh=>oh t ht q e5 h,(rel.held t ht).2⟩,λb o hb=>?_⟩
 ·by_cases hj:j=x
  ·subst hj
   have hl:=lt e
   rw[Ze hl]at e
   cases e
   exact⟨v0,hv0,by rw[if_pos rfl];exact f1⟩
  ·rw[Zb (Ne.symm hj)]at e
   obtain⟨w,h1,h2⟩:=rel.val j d' b e
   exact⟨w,h1,by rw[if_neg hj];exact h2.upd e1 λh=>oap j d' b hj e q e5 h⟩
 ·by_cases hj:j=x
  ·subst hj
   have hl:=lt e
   rw[Ze hl]at e
   cases e
  ·rw[Zb (Ne.symm hj)]at e
   obtain⟨h1,h2,h3,h4,h5⟩:=rel.own j d' e
   rw[if_neg hj]
   refine⟨h1,h2,h3,λk d'' b hk ek a ha=>?_,h5⟩
   by_cases hki:k=x
   ·subst hki
    rw[if_pos rfl]
    intro hG
    rcases mem a hG with h | h
    ·exact h4 k d true (Ne.symm hj) hx a ha h
    ·exact(sh a h).2 j d' e ha
   ·rw[Zb (Ne.symm hki)]at ek
    rw[if_neg hki]
    exact h4 k d'' b hk ek a ha
 ·by_cases hj:j=x
  ·subst hj
   rw[if_pos rfl]at ha
   rcases mem a ha with h | h
   ·exact .inl (o0 a h)
   ·exact(sh a h).1
  ·rw[Zb (Ne.symm hj)]at e
   rw[if_neg hj]at ha
   exact rel.src j d' b e a ha
 ·have hbq:b≠q:=λz=>by rw[z,o0 q e5]at hb;cases hb
  rw[QQ hbq]
  exact rel.same b o hb
theorem QvU{i:Expr}{pos':Pos}{fi:DE}(hv:SE X e fa)(ho:SPa X a x pf)(hi:SE X i fi)
  (h:∀te to ti,PE X e te->PE X a to->PE X i ti->PS X (.Assign [.Subscript a i pos'] e pos) (QcW te (L2.QaP to ti QeO))):S1 X (.Assign [.Subscript a i pos'] e pos) (Qbf x pf fi fa):=λH0 A0=>
 (h _ _ _ (hv H0 A0) (ho H0 A0) (hi H0 A0)).mono λE σ H ⟨ρ,hs,F,o,rel,e,q⟩=>by
  obtain⟨r0,e1,e⟩:=bind1 e
  split at e
  ·rename_i d hx
   obtain⟨is,e2,e⟩:=bind1 e
   obtain⟨ri,e3,e⟩:=bind1 e
   split at e
   ·rename_i k ds hk hp
    obtain⟨j,e4,e⟩:=bind1 e
    split at e
    ·rename_i hc
     cases e
     simp only[Zj,decide_eq_true_eq,ZaJ]at hc
     obtain⟨⟨c1,c2⟩,c3⟩:=hc
     have c3:x∉r0.norm.M:=λh=>by rw[Zbp.mpr h]at c3;cases c3
     refine⟨ρ,hs,F,r0,rel,e1,λvn H1 Gn p=>⟨ρ,hs,F,d,true,is,.lst ds,rel.ext p.same,hx,e2,hp,λv0 w H2 Gm s2 hv0 fo=>⟨ρ,hs,F,ri,(rel.ext p.same).ext s2,e3,λu H3 Gi pi=>?_⟩⟩⟩
     have p':=(p.norm.QfC s2).QfC pi.same
     have fo3:=fo.same pi.same
     have rpi:=pi.rp
     rw[hk]at rpi
     rw[rpi.int_inv]
     obtain⟨l,ws,L,rfl,_⟩:=fo3.rp.lst_inv
     obtain⟨ol,on,_,oap,_⟩:=rel.own x d hx
     have hjl:=(Qb6 e4).2.1
     obtain⟨gn,gs⟩:=p'.fresh rel c1 c2
     have rn:=p'.rp
     rw[r0.QcB]at rn
     have hnl:=(p'.cnt c1).2
     rw[r0.QcB]at hnl
     obtain⟨vsm,_,f1,_⟩:=fo3.mut (vs':=[]) (ds':=[]) (G':=[]) on ol
     obtain⟨_,_,_,_,_,_,zl,_⟩:=fo3.rp.lst_inv
     have key:∃F',Rp X.K (upd H3 l (.lst (vsm.set j vn))) (Qay is d (.lst (ds.set j r0.d))) v0 F'/\F'.length=(Qay is d (.lst (ds.set j r0.d))).nl/\l∈F x/\ds.length=vsm.length/\∀a,F'.count a<=(F x).count a+Gn.count a:=by
      have own5:∀G',_:=λG'=>fo3.mut (vs':=vsm.set j vn) (ds':=ds.set j r0.d) (G':=G') on ol
      obtain⟨vs1,Gp,g1,g2,g3,g4,g5,g6,g7,_⟩:=own5 []
      rw[f1]at g1;cases g1
      have hq:l∉Gn:=λh=>by
       rcases(gs l h).2 with z | ⟨k',d',hk',ek,hak⟩
       ·obtain⟨vs,w⟩:=rel.mem hx g5
        rw[z]at w;cases w
       ·exact oap k' d' true (λz=>c3 (z▸hk')) ek l g5 hak
      obtain⟨G',m1,m2,m3⟩:=set_mk f1 g3 g4 g7 hq rn hnl hjl
      obtain⟨vs2,Gp2,k1,k2,k3,k4,k5,k6,k7,k8⟩:=own5 G'
      have eG:Gp2=Gp:=by rw[g2]at k2;exact(List.cons.inj k2).2.symm
      subst eG
      obtain⟨F',h1,h2,h3⟩:=k8 m1 (by rw[Zz];exact zl) m2
      exact⟨F',h1,h2,g5,g3.length,λa=>by have:=h3 a;have:=m3 a;omega⟩
     obtain⟨F',k1,k2,k3,k4,k5⟩:=key
     refine⟨l,vsm,k,j,rfl,rfl,f1,by rw[← k4];exact e4,?_⟩
     obtain⟨F'',rel'⟩:=rel.mut p' c1 c2 (QN.refl _) hx c3 hv0 f1 k3 k1 k2 k5
     exact q _ _ F'' rel'
    ·
     split at e
     ·rename_i hc
      cases e
      simp only[Zj,ZaJ,List.isEmpty_iff]at hc
      obtain⟨rfl,c3⟩:=hc
      have c3:x∉r0.norm.M:=λh=>by rw[Zbp.mpr h]at c3;cases c3
      refine⟨ρ,hs,F,r0,rel,e1,λvn H1 Gn p=>⟨ρ,hs,F,d,true,[],.lst ds,rel.ext p.same,hx,e2,hp,λv0 w H2 Gm s2 hv0 fo=>⟨ρ,hs,F,ri,(rel.ext p.same).ext s2,e3,λu H3 Gi pi=>?_⟩⟩⟩
      have p':=(p.norm.QfC s2).QfC pi.same
      have fo3:=fo.same pi.same
      have rpi:=pi.rp
      rw[hk]at rpi
      rw[rpi.int_inv]
      obtain⟨l,ws,L,rfl,_⟩:=fo3.rp.lst_inv
      obtain⟨ol,on,_,oap,_⟩:=rel.own x d hx
      have hjl:=(Qb6 e4).2.1
      have rn:=p'.rp
      rw[r0.QcB]at rn
      obtain⟨vsm,Gp,f1,g2,g3,g4,g5,g6,g7,_⟩:=fo3.mut (vs':=[]) (ds':=[]) (G':=[]) on ol
      obtain⟨_,_,_,_,_,_,zl,_⟩:=fo3.rp.lst_inv
      have sh:=Shr.of rel p'.src
      have relD:=(rel.ext p'.same).weak (QaK r0.norm.M ρ)
      have hxD:(Qau r0.norm.M ρ)[x]? =some (some (d,true)):=by rw[Qie _ _ _ c3];exact hx
      have hq:l∉Gn:=λh=>(sh l h).2 x d hxD g5
      obtain⟨G',m1,m3⟩:=Qkc f1 g3 g7 hq rn hjl
      have e0:v0= .ref l:=(fo3.2.1).symm
      subst e0
      refine⟨l,vsm,k,j,rfl,rfl,f1,by rw[← g3.length];exact e4,?_⟩
      obtain⟨F'',rel'⟩:=relD.QyE (dnew:= .lst (ds.set j r0.d)) (G':=l::G') (vs':=vsm.set j vn) hxD sh hv0 f1 g5 (Rp.QdZ Qai m1 (by rw[Zz];exact zl)) λa ha=>by
       rcases Zm.mp ha with h | h
       ·exact .inl (h▸g5)
       ·rcases m3 a h with h | h
        ·exact .inl (g6 a h)
        ·exact .inr h
      exact q _ _ F'' rel'
     ·
      cases e
   ·cases e
  ·cases e
end
end HS
namespace HS
open PySem PySem.Spec L2
section
variable {K:PySem.W.Frag}{H0 H H1 H2 H3:Hp}{A0:List Addr}{hs:List (V×D×List Addr)}{ρ:En}{F:Nat->List Addr}{σ:L2.St}
theorem Rel.write(rel:Rel K H0 A0 hs ρ F σ H){r:R}{vn:V}{Gn:List Addr}(p:Qab K ρ F H H3 r vn Gn)(hf:r.fr=true)(nd:r.M.Nodup){x:Nat}{d:D}(hx:ρ[x]? =some (some (d,true)))(hxM:x∉r.M){v0 w:V}(hv0:σ[x]? =some (some v0))
  {is:List Int}{ds:List D}{Gm:List Addr}(fo:Focus K H3 is d v0 (F x) (.lst ds) w Gm):
  ∃l vsm Gp,w= .ref l/\H3 l=some (.lst vsm)/\Rps K H3 ds vsm Gp/\Gp.length=nls ds/\l∉Gp/\l∉Gn/\ds.length<=sizeLine∧
   ∀ds' vs' G',Rps K (upd H3 l (.lst vs')) ds' vs' G'->ds'.length<=sizeLine->G'.length=nls ds'->(∀a,G'.count a<=Gp.count a+Gn.count a)→
    ∃F',Rel K H0 A0 hs ((kill r.M ρ).set x (some (Qay is d (.lst ds'),true))) F' σ (upd H3 l (.lst vs')):=by
 obtain⟨l,ws,L,rfl,_,_,zl,_⟩:=fo.rp.lst_inv
 obtain⟨ol,on,_,oap,_⟩:=rel.own x d hx
 obtain⟨gn,gs⟩:=p.fresh rel hf nd
 obtain⟨vsm,Gp,g1,g2,g3,g4,g5,g6,g7,_⟩:=fo.mut (vs':=[]) (ds':=[]) (G':=[]) on ol
 have hq:l∉Gn:=λh=>by
  rcases(gs l h).2 with z | ⟨k',d',hk',ek,hak⟩
  ·obtain⟨vs,w⟩:=rel.mem hx g5
   rw[z]at w;cases w
  ·exact oap k' d' true (λz=>hxM (z▸hk')) ek l g5 hak
 refine⟨l,vsm,Gp,rfl,g1,g3,g4,g7,hq,zl,λds' vs' G' m1 m2 m3 m4=>?_⟩
 obtain⟨vs2,Gp2,k1,k2,k3,k4,k5,k6,k7,k8⟩:=fo.mut (vs':=vs') (ds':=ds') (G':=G') on ol
 have eG:Gp2=Gp:=by rw[g2]at k2;exact(List.cons.inj k2).2.symm
 subst eG
 obtain⟨F',h1,h2,h3⟩:=k8 m1 m2 m3
 exact rel.mut p hf nd (QN.refl _) hx hxM hv0 g1 g5 h1 h2 λa=>by have:=h3 a;have:=m4 a;omega
end
section
variable {X:Cx}{a b e:Expr}{fa fb:DE}{pf:DP}{x:Nat}{pos apos:Pos}
noncomputable def Qh6(r:R)(x:Nat):Bool:=r.norm.fr && decide r.norm.M.Nodup && !r.norm.M.contains x
theorem Qqi{r:R}{x:Nat}(h:Qh6 r x=true):r.norm.fr=true/\r.norm.M.Nodup/\x∉r.norm.M:=by
 unfold Qh6 at h
 simp only[Zj,decide_eq_true_eq,ZaJ]at h
 exact⟨h.1.1,h.1.2,λz=>by rw[Zbp.mpr z]at h;cases h.2⟩
noncomputable def QcP(x:Nat)(pf:DP)(fa:DE):DS:=λρ=>match ρ[x]? with
 | some (some (d,true))=>(pf ρ).bind λis=>(fa ρ).bind λr0=>match Qax d is with
  | some (.lst ds)=>if Qh6 r0 x && decide (ds.length<sizeLine)then some (.nx ((kill r0.norm.M ρ).set x (some (Qay is d (.lst (ds++[r0.d])),true))))else none
  | _=>none
 | _=>none
theorem Qsl{H0:Hp}{A0:List Addr}{E:Ends}{σ:L2.St}{H:Hp}:tS X.K H0 A0 (QcP x pf fa) E σ H->QjR (tBM X.K "list" QoQ (tP X.K H0 A0 x pf) (Qgx (tV X.K H0 A0 fa) Qnq)) E σ H:=λ⟨ρ,hs,F,o,rel,e,q⟩=>by
 unfold QcP at e
 split at e
 ·rename_i d hx
  obtain⟨is,e2,e⟩:=bind1 e
  obtain⟨r0,e1,e⟩:=bind1 e
  split at e
  ·rename_i ds hp
   split at e
   ·rename_i hc
    simp only[Zj,decide_eq_true_eq]at hc
    obtain⟨c1,c2,c3⟩:=Qqi hc.1
    cases e
    refine⟨ρ,hs,F,d,true,is,.lst ds,rel,hx,e2,hp,λv0 w H2 Gm s2 hv0 fo=>?_⟩
    have ty:tyV X.K "list" w H2:=by
     obtain⟨l,ws,L,rfl,hl,_⟩:=fo.rp.lst_inv
     exact .inl ⟨rfl,ws,Qah hl⟩
    refine⟨ty,ρ,hs,F,r0,rel.ext s2,e1,λvn H3 Gn p=>?_⟩
    have p':=p.norm
    obtain⟨l,vsm,Gp,rfl,g1,g2,g3,g4,g5,g6,g7⟩:=(rel.ext s2).write p' c1 c2 hx c3 hv0 (fo.same p.same)
    refine⟨l,vsm,vn,rfl,rfl,g1,by rw[← g2.length];exact hc.2,?_⟩
    have rn:=p'.rp
    rw[r0.QcB]at rn
    have hnl:=(p'.cnt c1).2
    rw[r0.QcB]at hnl
    have rw1:Rps X.K (upd H3 l (.lst (vsm++[vn]))) [r0.d] [vn] Gn:=by
     simp only[Rps]
     exact⟨vn,[],Gn,[],rfl,by simp,rn.upd g1 g5,rfl,rfl⟩
    obtain⟨F',rel'⟩:=g7 (ds++[r0.d]) (vsm++[vn]) (Gp++Gn) ((g2.upd g1 g4).append rw1) (by rw[Zt,Zbo];omega) (by rw[Zt,Qde,g3,hnl];simp[nls]) (λa=>by rw[Zag];omega)
    exact q _ _ F' rel'
   ·cases e
  ·cases e
 ·cases e
end
end HS
namespace HS
open PySem PySem.Spec L2 PyProof.Rows
noncomputable def D.QtP:D->Option Int
 | .int i=>some i
 | _=>none
noncomputable def Qgo:List D->Option (List Int)
 | []=>some []
 | d::ds=>(d.QtP).bind λi=>(Qgo ds).map λr=>i::r
theorem QhI:∀{ds:List D}{ns:List Int},Qgo ds=some ns->ds=ns.map .int
 | [],_,h=>by cases h;rfl
 | d::ds,ns,h=>by
  unfold Qgo at h
  obtain⟨i,h1,h⟩:=bind1 h
  obtain⟨r,h2,rfl⟩:=Zf.mp h
  cases d with
  | int j=>cases h1;rw[QhI h2];rfl
  | _=>cases h1
theorem QnS:∀(ns:List Int),Qgo (ns.map D.int)=some ns
 | []=>rfl
 | n::ns=>by simp[Qgo,QnS ns,D.QtP]
theorem Rps.ints{K:PySem.W.Frag}{H:Hp}:∀{ns:List Int}{vs:List V}{F:List Addr},Rps K H (ns.map .int) vs F->vs=ns.map .int
 | [],_,_,h=>by simp only[List.map_nil,Rps]at h;rw[h.1];rfl
 | n::ns,_,_,h=>by
  simp only[ZL,Rps]at h
  obtain⟨v,ws,F1,F2,rfl,rfl,r,q⟩:=h
  rw[r.int_inv,Rps.ints q];rfl
theorem Qeu{ns:List Int}{us:List Value}(h:QD (ns.map V.int) us):IntsAre us ns:=intsAre_of h
section
variable {X:Cx}{a b e:Expr}{es:List Expr}{fa fb:DE}{fs:DA}{pos p2:Pos}
theorem Rps.rev{K:PySem.W.Frag}{H:Hp}:∀{ds:List D}{vs:List V}{F:List Addr},Rps K H ds vs F->∃G,Rps K H ds.reverse vs.reverse G/\∀a∈G,a∈F
 | [],_,_,h=>by simp only[Rps]at h;rw[h.1,h.2];exact⟨[],by simp[Rps],λ_ h=>h⟩
 | d::ds,_,_,h=>by
  simp only[Rps]at h
  obtain⟨v,ws,F1,F2,rfl,rfl,r,q⟩:=h
  obtain⟨G,h1,h2⟩:=Rps.rev q
  refine⟨G++F1,?_,λa ha=>?_⟩
  ·rw[Zay,Zay]
   refine h1.append ?_
   simp only[Rps]
   exact⟨v,[],F1,[],rfl,by simp,r,rfl,rfl⟩
  ·rcases ZJ.mp ha with z | z
   ·exact Zc _ (h2 a z)
   ·exact Zh _ z
theorem Qjx{us:List Value}{ns:List Int}(hi:IntsAre us ns):∃xs:Array (Int×Tok),us.toArray=intItems xs/\ns=xs.toList.map (·.1):=by
 obtain⟨xs,e⟩:=hi.allInts.items
 exact⟨xs,e,by rw[← hi.numsOf,← nums_intItems,← e]⟩
theorem Qm5{prog:Program}{w:World}{A:Around}{E:Value->Shared->Prop}{s:Shared}{l:Addr}{xs:Array (Int×Tok)}{Q:Value->Shared->Prop}(hh:A.handled=none)(hl:s.heap.IsTuple l (intItems xs))
  (h:∀h' tk t',(∀b o,s.heap.get? b=some o->h'.get? b=some o)->Q (.int (preSum (numAt xs) xs.size) t') {s with heap:=h',toks:=tk}):
  wpAny (model prog w) A (call (.builtin "sum") [.ref l]) Q E s:=by
 have hlt:l<s.heap.objs.size:=by obtain⟨_,e,_⟩:=hl;exact Zy e
 refine call_sum_walkG (wpAny_pyIter_tuple hl ?_)
 refine⟨_,[_,l],[_],_,_,_,numAt xs,rfl,Walks.tuple (A:=A.in1) hh _ l (ZU hlt) (intItems xs),⟨⟨_,ZN _ rfl,rfl,rfl⟩,hl.push _⟩,λb hb=>?_,(λ_ _=>intItems_at),λh' tk t' hk=>?_⟩
 ·show b<(s.heap.push _).objs.size
  rw[ZaV]
  rcases Zm.mp hb with rfl | hb
  ·exact Zbq _
  ·rcases Zm.mp hb with rfl | hb
   ·exact Zbm hlt
   ·cases hb
 ·have:=h h' tk t' λb o e=>by
   refine hk b o (λhm=>?_) (Zn _ e)
   rcases Zm.mp hm with e1 | hm
   ·exact absurd (e1▸Zy e) (ZZ _)
   ·cases hm
  simpa[intItems]using this
noncomputable def QvW(K:PySem.W.Frag):List V->Hp->VK->Prop:=λxs H Q=>∃(p:Addr) (ns:List Int),xs=[.ref p]/\(SqL K H p (ns.map V.int)∨SqT K H p (ns.map V.int))/\Q (.int ns.sum) H
theorem QqX(hc:X.calm=true):Qbv X (.builtin "sum") (QvW X.K):=by
 intro pins s σ H xs us Q I r h
 obtain⟨p,ns,rfl,hq,q⟩:=h
 obtain⟨u,rfl,rx⟩:=vals1 r
 cases rx
 rcases hq with hq | hq
 ·obtain⟨its,r',pl,hz⟩:=I.list hq
  obtain⟨ys,e,hns⟩:=Qjx (Qeu r')
  have hl:=pl.isList
  rw[e]at hl
  refine sum_intListG (I.ok.hd hc) hl λh' tk t' hk=>?_
  refine⟨.int ns.sum,H,I.kept hk,⟨t',?_⟩,q⟩
  rw[preSum_eq,ZaM (by simp),hns]
 ·obtain⟨its,r',pl,hz⟩:=I.tuple hq
  obtain⟨ys,e,hns⟩:=Qjx (Qeu r')
  have hl:=pl
  rw[e]at hl
  refine Qm5 (I.ok.hd hc) hl λh' tk t' hk=>?_
  refine⟨.int ns.sum,H,I.kept hk,⟨t',?_⟩,q⟩
  rw[preSum_eq,ZaM (by simp),hns]
noncomputable def QgC:List D->Option D
 | [.lst xs]=>(Qgo xs).map λns=> .int ns.sum
 | [.tup xs]=>(Qgo xs).map λns=> .int ns.sum
 | _=>none
theorem Qvk{K:PySem.W.Frag}:Qex K QgC (QvW K):=λds d e=>by
 unfold QgC at e
 split at e
 ·obtain⟨ns,h1,rfl⟩:=Zf.mp e
  refine⟨rfl,λH vs F Q r q=>?_⟩
  obtain⟨v,rfl,rp⟩:=r.one
  obtain⟨l,ws,L,rfl,hl,rl,zl,el⟩:=rp.lst_inv
  rw[QhI h1]at rl
  rw[rl.ints]at hl
  exact⟨l,ns,rfl,.inl (Qah hl),q _ λ_=> .int_mk⟩
 ·obtain⟨ns,h1,rfl⟩:=Zf.mp e
  refine⟨rfl,λH vs F Q r q=>?_⟩
  obtain⟨v,rfl,rp⟩:=r.one
  obtain⟨l,ws,rfl,hl,rl⟩:=rp.Qa3
  rw[QhI h1]at rl
  rw[rl.ints]at hl
  exact⟨l,ns,rfl,.inr hl,q _ λ_=> .int_mk⟩
 ·cases e
noncomputable def QnT:List D->Option D
 | [.int i]=>some (.int i)
 | [.bl k]=>some (.int (if k then 1 else 0))
 | _=>none
theorem Qw6{K:PySem.W.Frag}:Qex K QnT (λxs H Q=>(∃i,xs=[.int i]/\Q (.int i) H)∨∃k,xs=[.bl k]/\Q (.int (if k then 1 else 0)) H):=λds d e=>by
 unfold QnT at e
 split at e
 ·cases e
  refine⟨rfl,λH vs F Q r q=>?_⟩
  obtain⟨v,rfl,rp⟩:=r.one
  exact .inl ⟨_,by rw[rp.int_inv],q _ λ_=> .int_mk⟩
 ·cases e
  refine⟨rfl,λH vs F Q r q=>?_⟩
  obtain⟨v,rfl,rp⟩:=r.one
  exact .inr ⟨_,by rw[rp.Qf6],q _ λ_=> .int_mk⟩
 ·cases e
theorem Qw3{x:Str}{T:String}{g:List D->Option D}{r:List V->Hp->VK->Prop}{p:Pos}(hc:Qbv X (.type T) r)(hk:Qex X.K g r)(hg:Gl X x)(hm:X.mg x=none)(hv:bootBuiltins x=some (.type T))(ha:SA X (e::es) fs)(hn:x≠ "__name__")(hdb:(x == ("__debug__" :Str))=false)
  (he:starEach (e::es) X.env=(false,eval e X.env)::starEach es X.env) (hpl:(backTo pos (starEach es X.env)).any (·.1)=false):SE X (.Call (.Name x p) (e::es) [] pos) (dBf g fs):=λH0 A0=>
 (QfA hc hg hm hv (ha H0 A0) hn hdb he hpl).mono λσ H Q ⟨ρ,hs,F,r',rel,e,q⟩=>by
  obtain⟨ra,e1,e⟩:=bind1 e
  obtain⟨d,ed,e⟩:=Zf.mp e
  subst e
  exact⟨ρ,hs,F,ra,rel,e1,λvs H1 G p1=>(hk _ _ ed).2 H1 vs G Q p1.rp λv hv=>q v H1 [] (.flat p1.same (hv _) (hk _ _ ed).1)⟩
theorem QmI:Qbv X (.builtin "divmod") (λxs H Q=>∃i j,xs=[.int i,.int j]/\Qbx j=true/\∀p,H p=none->Q (.ref p) (upd H p (.tup [.int (Qdo i j),.int (QcN i j)]))):=by
 intro pins s σ H xs us Q I r h
 obtain⟨i,j,rfl,hc,q⟩:=h
 obtain⟨u,w',rfl,⟨t,rfl⟩,⟨t',rfl⟩⟩:=vals2 r
 unfold Qbx at hc
 simp only[Zj,decide_eq_true_eq]at hc
 have h0:j.natAbs≠0:=by omega
 refine PyProof.Rows.divmod_int hc.1 ?_ (.inl (Zbc (ZbM ((ZbU h0).mpr hc.2) (by decide))))
 rw[← QhZ,← QhJ]
 have hn:H s.heap.objs.size=none:=I.hok.fresh (Zi _)
 refine⟨.ref s.heap.objs.size,_,?_,rfl,q _ hn⟩
 refine I.laid (λb o e=>Zn _ e) (Zi _) ⟨by simp only[ZE,Zbe];rw[sizeLine_eq];decide,[.int (Qdo i j) s.toks,.int (QcN i j) (s.toks+1)],.cons ⟨_,rfl⟩ (.cons ⟨_,rfl⟩ .nil),?_⟩
 exact⟨_,ZN s.heap rfl,rfl,0,rfl⟩
noncomputable def dDm(fs:DA):DE:=λρ=>(fs ρ).bind λr=>match r.ds with
 | [.int i,.int j]=>if Qbx j=true then some ⟨.tup [.int (Qdo i j),.int (QcN i j)],true,[]⟩else none
 | _=>none
theorem QxE{x:Str}{p:Pos}(hg:Gl X "divmod")(hm:X.mg "divmod" =none)(ha:SA X (e::es) fs)(he:starEach (e::es) X.env=(false,eval e X.env)::starEach es X.env)(hpl:(backTo pos (starEach es X.env)).any (·.1)=false):
  SE X (.Call (.Name "divmod" p) (e::es) [] pos) (dDm fs):=λH0 A0=>
 (Qi3 QmI hg hm PyProof.Rows.boot_divmod (ha H0 A0) (by decide) (by decide) he hpl).mono λσ H Q ⟨ρ,hs,F,r',rel,e,q⟩=>by
  obtain⟨ra,e1,e⟩:=bind1 e
  refine⟨ρ,hs,F,ra,rel,e1,λvs H1 G p1=>?_⟩
  split at e
  ·rename_i i j hds
   split at e
   ·rename_i hc
    cases e
    have rp:=p1.rp
    rw[hds]at rp
    obtain⟨v,w,F1,F2,rfl,r1,r2⟩:=rp.two
    refine⟨i,j,by rw[r1.int_inv,r2.int_inv],hc,λp hp=>q _ _ [] (.flat (p1.same.trans (Qa8 hp)) (Rp.Qgb Qai ?_) rfl)⟩
    simp only[Rps]
    exact⟨_,_,[],[],rfl,rfl,.int_mk,_,_,[],[],rfl,rfl,.int_mk,rfl,rfl⟩
   ·cases e
  ·cases e
end
end HS
namespace HS
open PySem PySem.Spec L2 PyProof.Rows
theorem Qim:∀{vs:List V}{us:List Value},us.length=vs.length->(∀(k:Nat) (v:V),vs[k]? =some v->∃u,us[k]? =some u/\RelV v u)->QD vs us
 | [],[],_,_=> .nil
 | [],_::_,h,_=>by simp at h
 | _::_,[],h,_=>by simp at h
 | v::vs,u::us,h,g=>by
  obtain⟨u',e,r⟩:=g 0 v rfl
  cases e
  exact .cons r (Qim (by simpa using h) λk v hk=>g (k+1) v hk)
section
variable {X:Cx}{a b c e tg:Expr}{es:List Expr}{fa fb fc:DE}{fs:DA}{pos p2:Pos}
theorem Qrp{pins:List (Addr×Obj)}{σ:L2.St}{H:Hp}{s:Shared}{Q:VK}{E:Value->Shared->Prop}{j:Int}{t u v:Tok}{tk:Nat}(I:Inv X pins σ H s)(hc:X.calm=true)(h0:0<=j)(h1:j<=1000000)
  (q:∀l,H l=none->Q (.ref l) (upd H l (.lst ((List.range j.toNat).map λ(k:Nat)=>V.int (k:Int))))):
  wpAny (model X.prog X.w) X.A (call (.type "list") [.ref s.heap.objs.size]) (EP X pins σ Q) E {s with heap:=s.heap.push {cls:= .type "range",data:= .fields #[.int 0 t,.int j u,.int 1 v]},toks:=tk}:=by
 have I2:Inv X pins σ H {s with heap:=s.heap.push {cls:= .type "range",data:= .fields #[.int 0 t,.int j u,.int 1 v]},toks:=tk}:=I.kept λb o e=>Zn _ e
 refine call_list_range (n:=j.toNat) (I.ok.hd hc) (IsRange.new ..) (small_one (by omega) (by omega) (by omega) (by omega)) (by rw[rangeSize_one];split<;>omega) (by omega) λh' tk' acc' c' hk hS hacc=>?_
 have hv:QD ((List.range j.toNat).map λ(k:Nat)=>V.int (k:Int)) acc'.toList:=by
  have hl:=hacc.1
  refine Qim (by simp[hl]) λk v hk=>?_
  rw[Zl]at hk
  have hkl:k<j.toNat:=by
   by_cases z:k<j.toNat
   ·exact z
   ·rw[Zs (by simp;omega)]at hk;cases hk
  rw[ZG hkl]at hk
  cases hk
  obtain⟨w,hw⟩:∃w,acc'[k]? =some w:=⟨acc'[k]'(by omega),by rw[Array.getElem?_eq_getElem (by omega)]⟩
  obtain⟨t',rfl⟩:=hacc.2 k w hw
  exact⟨_,by rw[Array.getElem?_toList];exact hw,⟨t',by simp⟩⟩
 refine⟨.ref _,_,I2.laid hk (Zi _) (show Qcr X.prog X.w _ h' _ (.lst _)from⟨by simp[Qgf];omega,acc'.toList,c',hv,by simpa using hS⟩),rfl,q _ (I2.hok.fresh (Zi _))⟩
theorem Qrl{p p' pos':Pos}{ta:TA}(hg:Gl X "list")(hm:X.mg "list" =none)(hg':Gl X "range")(hm':X.mg "range" =none)(hc:X.calm=true)(ha:PA X [a] ta)(hs:starEach [a] X.env=[(false,eval a X.env)]):
  PE X (.Call (.Name "list" p) [.Call (.Name "range" p') [a] [] pos'] [] pos) (λσ H Q=>ta σ H λvs H1=>∃j:Int,vs=[.int j]/\0<=j/\j<=1000000/\∀l,H1 l=none->Q (.ref l) (upd H1 l (.lst ((List.range j.toNat).map λ(k:Nat)=>V.int (k:Int))))):=by
 intro pins s σ H Q I h
 refine wpAny_Call_Name_kw (Qdq I hg hm boot_list ?_ (by decide) (by decide))
 refine ZR (Calls.spliced_cons ?_) rfl rfl
 refine Call_ (Qdq I hg' hm' boot_range (ZR (thn (ha pos' pins s σ H _ I h) λus s1 ⟨vs,H1,I1,r1,q1⟩=>?_) hs rfl))
 obtain⟨j,e,q1,q2,q⟩:=q1
 subst e
 cases r1 with
 | cons r rr=>
  cases rr
  obtain⟨t,rfl⟩:=r
  exact call_range_1 (Calls.spliced_nil (Qrp I1 hc q1 q2 q))
noncomputable def QpJ(fa:DE):DE:=λρ=>(fa ρ).bind λr=>match r.d with
 | .int j=>if 0<=j/\j<=1000000 then some ⟨.lst ((List.range j.toNat).map λ(k:Nat)=> .int (k:Int)),true,[]⟩else none
 | _=>none
theorem Rps.ofInts{K:PySem.W.Frag}{H:Hp}:∀ns:List Int,Rps K H (ns.map .int) (ns.map .int) []
 | []=>by simp[Rps]
 | n::ns=>by simp only[ZL,Rps];exact⟨_,_,[],[],rfl,rfl,.int_mk,Rps.ofInts ns⟩
theorem QqC:∀ns:List Int,Qae (ns.map .int)=true
 | []=>rfl
 | n::ns=>by simp[Qae,D.flat,QqC ns]
theorem Qu7{p p' pos':Pos}(hg:Gl X "list")(hm:X.mg "list" =none)(hg':Gl X "range")(hm':X.mg "range" =none)(hc:X.calm=true)(ha:SE X a fa)(hs:starEach [a] X.env=[(false,eval a X.env)]):
  SE X (.Call (.Name "list" p) [.Call (.Name "range" p') [a] [] pos'] [] pos) (QpJ fa):=λH0 A0=>
 (Qrl hg hm hg' hm' hc (QaB (ha H0 A0) Qds hs) hs).mono λσ H Q ⟨ρ,hs,F,r',rel,e,q⟩=>by
  obtain⟨ra,e1,e⟩:=bind1 e
  refine⟨ρ,hs,F,ra,rel,e1,λv H1 G p1=>?_⟩
  cases hd:ra.d with
  | int j=>
   rw[hd]at e
   dsimp only at e
   split at e
   ·rename_i hj
    cases e
    have rp:=p1.rp
    rw[hd]at rp
    refine⟨j,by rw[rp.int_inv],hj.1,hj.2,λl hl=>?_⟩
    have e2:((List.range j.toNat).map λ(k:Nat)=>D.int (k:Int))=((List.range j.toNat).map λ(k:Nat)=>(k:Int)).map D.int:=by rw[ZaN];rfl
    have e3:((List.range j.toNat).map λ(k:Nat)=>V.int (k:Int))=((List.range j.toNat).map λ(k:Nat)=>(k:Int)).map V.int:=by rw[ZaN];rfl
    have:=Qab.Qbs (ρ:=ρ) (F:=F) p1.same hl (Rps.ofInts (K:=X.K) ((List.range j.toNat).map λ(k:Nat)=>(k:Int))) (by simp[Qgf];omega) Src.nil Qbb.nil
    rw[← e2,← e3]at this
    unfold Qbs at this
    rw[if_pos (by rw[e2];exact QqC _)]at this
    exact q _ _ _ this
   ·cases e
  | _=>rw[hd]at e;cases e
noncomputable def Itd(hi:Int)(n:Nat):It:=⟨λi _=>i<n,λi H x H'=>H'=H/\x= .int (hi-i),λi _=>n<=i⟩
theorem Qos{P:Program}{w:World}{K:PySem.W.Frag}{tg:Expr}(it:Addr)(lo:Int)(n:Nat):Turn P w K tg (Itd lo n) [it] it (λi h=>IsRangeIter h it (lo+(i:Nat)*(-1)) ((n:Int)-(i:Nat)) (-1)) where
 mem:=by simp
 obj:=λi h st b hb=>by
  have e:b=it:=by simpa using hb
  subst e
  exact⟨_,st,λv z=>by
   have z':Data.fields _=Data.cell v:=z
   cases z'⟩
 keep:=λi h h' st k=>k it (by simp) _ st
 item:=by
  intro X hP hw hK hc i pins s σ H E I hf st hg
  subst hP hw hK
  obtain⟨f0,f1,f2,f3,f4,f5⟩:=hf it (by simp)
  have W:=Walks.range (prog:=X.prog) (w:=X.w) (I.ok.hd hc) it lo (-1) n
  refine W.item i s _ _ hg st λv h' tk hv st' kk=>?_
  obtain⟨t,rfl⟩:=hv
  have I1:Inv X pins σ H {s with heap:=h',toks:=tk}:=I.turned (λb o hb e=>kk b o (by simpa using hb) e) f0 f1 f3 f4 f5
  refine⟨_,rfl,Qmb st' rfl rfl (by decide) ⟨.int (lo-i),H,I1,⟨t,?_⟩,⟨rfl,rfl⟩,st',λb hb=>(hf b hb).1⟩⟩
  rw[show lo+(i:Int)* -1=lo-i by omega]
 done:=by
  intro X hP hw hK hc i pins s σ H E I hf st hg
  subst hP hw hK
  obtain⟨f0,f1,f2,f3,f4,f5⟩:=hf it (by simp)
  exact wpAny_pyNext_range_end (I.ok.hd hc) st (by have:n<=i:=hg;omega) λh' eb=>⟨rfl,I.turned (t':=s.toks) (λb o hb e=>eb b o hb e) f0 f1 f3 f4 f5⟩
 self:=λ_ _ _ _ _ st h=>wpAny_pyIter_rangeiter st h
theorem Qlp(lo hi:Int):Builtin.Range.rangeSize lo hi (-1)=if lo>hi then lo-hi else 0:=by
 unfold Builtin.Range.rangeSize
 rw[if_neg (by decide)]
 split
 ·rw[show(- -1:Int)=1 by decide,Int.ediv_one];omega
 ·rfl
theorem small_down{lo hi:Int}(h1: -(2^62)<=lo)(h2:lo<2^62)(h3: -(2^62)<=hi)(h4:hi<2^62):Builtin.Range.small lo hi (-1)=true:=by
 unfold Builtin.Range.small
 rw[Qlp]
 simp only[Builtin.Range.rangeFitsLong,Zj,ZbR,decide_eq_true_eq,beq_iff_eq,show ¬((-1:Int)>0) by decide,if_false]
 split<;>omega
theorem QqK{pins:List (Addr×Obj)}{σ:L2.St}{H:Hp}{s:Shared}{R:It->Hp->Prop}{E:Value->Shared->Prop}{lo hi:Int}{t u v:Tok}{tk:Nat}(I:Inv X pins σ H s)(h1: -(2^62)<=lo)(h2:lo<2^62)(h3: -(2^62)<=hi)(h4:hi<2^62)
  (q:R (Itd lo (lo-hi).toNat) H):wpAny (model X.prog X.w) X.A (pyIter (.ref s.heap.objs.size)) (PIE X pins σ tg R) E {s with heap:=s.heap.push {cls:= .type "range",data:= .fields #[.int lo t,.int hi u,.int (-1) v]},toks:=tk}:=by
 refine wpAny_pyIter_range (IsRange.new ..) (small_down h1 h2 h3 h4) ?_
 have I1:Inv X pins σ H {s with heap:=s.heap.push {cls:= .type "range",data:= .fields #[.int lo t,.int hi u,.int (-1) v]},toks:=tk}:=I.kept λb o e=>Zn _ e
 refine⟨(s.heap.push {cls:= .type "range",data:= .fields #[.int lo t,.int hi u,.int (-1) v]}).objs.size,[(s.heap.push {cls:= .type "range",data:= .fields #[.int lo t,.int hi u,.int (-1) v]}).objs.size],_,_,H,rfl,
  I1.kept (t':=tk) λb o e=>Zn _ e,Qos _ lo (lo-hi).toNat,?_,λb hb=>?_,q⟩
 ·have e1:lo+((0:Nat):Int)*(-1)=lo:=by simp
  have e2:(((lo-hi).toNat:Nat):Int)-((0:Nat):Int)=Builtin.Range.rangeSize lo hi (-1):=by rw[Qlp];split<;>omega
  show IsRangeIter _ _ (lo+((0:Nat):Int)*(-1)) ((((lo-hi).toNat:Nat):Int)-((0:Nat):Int)) (-1)
  rw[e1,e2]
  exact ZN _ rfl
 ·have e:b=(s.heap.push {cls:= .type "range",data:= .fields #[.int lo t,.int hi u,.int (-1) v]}).objs.size:=by simpa using hb
  subst e
  exact I1.Qku (Zi _) (I1.hok.fresh (Zi _))
noncomputable def QxV(ta:TA):TI:=λσ H R=>ta σ H λvs H1=>∃i j:Int,vs=[.int i,.int j,.int (-1)]/\(-(2^62)<=i/\i<2^62/\ -(2^62)<=j/\j<2^62)/\R (Itd i (i-j).toNat) H1
theorem QqH{ta:TA}{p pos:Pos}(hg:Gl X "range")(hm:X.mg "range" =none)(ha:PA X [a,b,c] ta)(hs:starEach [a,b,c] X.env=(false,eval a X.env)::starEach [b,c] X.env)(hs2:(backTo pos (starEach [b,c] X.env)).any (·.1)=false):
  PI X tg (.Call (.Name "range" p) [a,b,c] [] pos) (QxV ta):=by
 intro pins s σ H R I h
 refine Call_ (Qdq I hg hm boot_range (ZR (thn (ha pos pins s σ H _ I h) λus s1 ⟨vs,H1,I1,r1,q1⟩=>?_) hs hs2))
 obtain⟨i,j,e,⟨q1,q2,q3,q4⟩,q⟩:=q1
 subst e
 cases r1 with
 | cons r rr=>
  cases rr with
  | cons r' rr=>
   cases rr with
   | cons r'' rr=>
    cases rr
    obtain⟨t,rfl⟩:=r
    obtain⟨t',rfl⟩:=r'
    obtain⟨t'',rfl⟩:=r''
    exact call_range_3 (by decide) (QqK I1 q1 q2 q3 q4 q) (.inl (Zbc (by decide+kernel)))
noncomputable def QkJ(hi:Int)(n:Nat):List D:=(List.range n).map λ(k:Nat)=> .int (hi-(k:Int))
theorem QsM{lo:Int}{n i:Nat}{d:D}(h:(QkJ lo n)[i]? =some d):i<n/\d= .int (lo-i):=by
 unfold QkJ at h
 rw[Zl]at h
 by_cases hi:i<n
 ·rw[ZG hi]at h;cases h;exact⟨hi,rfl⟩
 ·rw[Zs (by simp;omega)]at h;cases h
noncomputable def Qf8(fa fb fc:DE):DI:=λρ=>(fa ρ).bind λr=>(fb ρ).bind λr'=>(fc ρ).bind λr''=>match r.d,r'.d,r''.d with
 | .int i,.int j,.int (-1)=>if i-j<=16777216/\ -(2^62)<=i/\i<2^62/\ -(2^62)<=j/\j<2^62 then some ⟨QkJ i (i-j).toNat,[]⟩else none
 | _,_,_=>none
theorem Qjd{lo:Int}{n:Nat}:(QkJ lo n).length=n:=by simp[QkJ]
theorem Qoa{K:PySem.W.Frag}{lo:Int}{n:Nat}:Walk K (Itd lo n) [] (QkJ lo n) where
 stop:=λH _=>by rw[Qjd];exact Zi _
 go:=λi H hi _=>by rw[Qjd]at hi;exact hi
 yld:=λi d H x H' e _ y=>by
  obtain⟨h1,rfl⟩:=QsM e
  obtain⟨rfl,rfl⟩:=y
  exact⟨QN.refl _,[],.int_mk,λz hz=>by simp at hz⟩
theorem QqL{p:Pos}(hg:Gl X "range")(hm:X.mg "range" =none)(ha:SE X a fa)(hb:SE X b fb)(hc:SE X c fc)(h1:starEach [a,b,c] X.env=(false,eval a X.env)::starEach [b,c] X.env)(h2:starEach [b,c] X.env=(false,eval b X.env)::starEach [c] X.env)(h3:starEach [c] X.env=(false,eval c X.env)::starEach [] X.env):
  SI X tg (.Call (.Name "range" p) [a,b,c] [] pos) (Qf8 fa fb fc):=λH0 A0=>
 (QqH hg hm (QaB (ha H0 A0) (QaB (hb H0 A0) (QaB (hc H0 A0) Qds h3) h2) h1) h1 (by rw[h2,h3];rfl)).mono λσ H Rr ⟨ρ,hs,F,ir,rel,e,q⟩=>by
  obtain⟨r,e1,e⟩:=bind1 e
  obtain⟨r',e2,e⟩:=bind1 e
  obtain⟨r'',e3,e⟩:=bind1 e
  refine⟨ρ,hs,F,r,rel,e1,λv H1 G pp=>⟨ρ,hs,F,r',rel.ext pp.same,e2,λv' H2 G' pp'=>⟨ρ,hs,F,r'',(rel.ext pp.same).ext pp'.same,e3,λv'' H3 G'' pp''=>?_⟩⟩⟩
  split at e
  ·rename_i i j hr hr' hr''
   split at e
   ·rename_i hz
    cases e
    have rp:=(pp.rp.same pp'.same).same pp''.same
    have rp':=pp'.rp.same pp''.same
    have rp'':=pp''.rp
    rw[hr]at rp
    rw[hr']at rp'
    rw[hr'']at rp''
    rw[rp.int_inv,rp'.int_inv,rp''.int_inv]
    refine⟨i,j,rfl,hz.2,q _ H3 [] ((pp.same.trans pp'.same).trans pp''.same) Qoa (λt ht=>by simp at ht) Qbb.nil ?_⟩
    rw[Qjd,Qgf];omega
   ·cases e
  ·cases e
noncomputable def QpK(fs:DA):DE:=λρ=>(fs ρ).bind λr=>match r.ds with
 | [.lst xs]=>if Qae xs=true then some ⟨.tup xs,true,[]⟩else none
 | _=>none
theorem Qvc{p:Pos}(hg:Gl X "tuple")(hm:X.mg "tuple" =none)(ha:SA X (e::es) fs)(he:starEach (e::es) X.env=(false,eval e X.env)::starEach es X.env)(hpl:(backTo pos (starEach es X.env)).any (·.1)=false):
  SE X (.Call (.Name "tuple" p) (e::es) [] pos) (QpK fs):=λH0 A0=>
 (QfA QlY hg hm ZbH (ha H0 A0) (by decide) (by decide) he hpl).mono λσ H Q ⟨ρ,hs,F,r',rel,e,q⟩=>by
  obtain⟨ra,e1,e⟩:=bind1 e
  refine⟨ρ,hs,F,ra,rel,e1,λvs H1 G p1=>?_⟩
  split at e
  ·rename_i xs hds
   split at e
   ·rename_i hf
    cases e
    have rp:=p1.rp
    rw[hds]at rp
    obtain⟨v,rfl,rq⟩:=rp.one
    obtain⟨l,ws,L,rfl,hl,rl,zl,el⟩:=rq.lst_inv
    have:=rl.QbY hf
    subst this
    refine⟨l,ws,rfl,.inl ⟨Qah hl,λc hc=>q _ _ [] (.flat (p1.same.trans (Qa8 hc)) (Rp.Qgb Qai (rl.same (Qa8 hc))) (by simp only[D.flat];exact hf))⟩⟩
   ·cases e
  ·cases e
end
end HS
namespace HS
open PySem PySem.Spec PyProof.Rows L2
section
variable {X:Cx}{a b c:Expr}{fa fb fc:DE}{pos:Pos}
end
end HS
namespace HS
open PySem PySem.Spec L2
structure FnR where
 n:Nat
 dfl:List D
 den:Den
structure Th where
 N:List Str
 sc:List (Str×NameKind)
 Γ:List (Str×FnR)
 cs:List (Str×Int)
 tr:Stmt->Option DS:=λ_=>none
noncomputable def posOf(x:Str):List Str->Option Nat
 | []=>none
 | y::ys=>if x=y then some 0 else(posOf x ys).map (· +1)
theorem QfE:∀{x:Str}{ys:List Str}{i:Nat},posOf x ys=some i->ys[i]? =some x
 | x,[],i,h=>by cases h
 | x,y::ys,i,h=>by
  unfold posOf at h
  split at h
  ·rename_i e;cases h;subst e;rfl
  ·obtain⟨j,hj,rfl⟩:=Zf.mp h
   simpa using QfE hj
noncomputable def look{α:Type}(x:Str):List (Str×α)->Option α
 | []=>none
 | (y,a)::r=>if x=y then some a else look x r
theorem QbC{α:Type}:∀{x:Str}{l:List (Str×α)},look x l=l.lookup x
 | x,[]=>rfl
 | x,(y,a)::r=>by
  unfold look
  rw[Zv]
  by_cases h:x=y
  ·subst h;simp
  ·rw[if_neg h,QbC]
   have:(x == y)=false:=by simpa using h
   rw[this]
noncomputable def QtO:NameKind->Bool
 | .local =>true | .cell=>true | .free=>true | _=>false
noncomputable def QtT:NameKind->Bool
 | .local =>true | .cell=>true | _=>false
noncomputable def QyB:NameKind->Bool
 | .globalImplicit=>true | _=>false
noncomputable def isFree:NameKind->Bool
 | .free=>true | _=>false
noncomputable def odd(x:Str):Bool:=decide (x= "__debug__") || decide (x= "__classdict__") || decide (x= "__name__")
noncomputable def Th.slot(Θ:Th)(x:Str):Option Nat:=if((look x Θ.sc).map QtO).getD false && !odd x then posOf x Θ.N else none
noncomputable def Th.QaR(Θ:Th)(x:Str):Option Nat:=if((look x Θ.sc).map QtT).getD false && !odd x then posOf x Θ.N else none
noncomputable def Th.gl(Θ:Th)(x:Str):Bool:=((look x Θ.sc).map QyB).getD false && !odd x
def Quk(X:Cx)(x:Str)(r:FnR):Prop:=∃k f fd ps,Qby X.prog X.w X.K X.mg X.base CX0 k f fd ps (spV X.K r.n r.den)/\QaE k X.A/\X.mg x=some (.ref f)/\PySem.W.keepIn X.K (.ref f)=true∧
 ∀m,m<=r.dfl.length->∃ds dvs,Binds X.K fd ps ds/\QD dvs ds/\∀H,Rps X.K H (r.dfl.drop (r.dfl.length-m)) dvs []
noncomputable def Qm8:List Str:=["range","enumerate","zip","len","list","min","max","sum","abs","isinstance","int","bool","tuple","str","divmod","sorted","any","all"]
structure CtxB (X:Cx) (Θ:Th):Prop where
 N:X.N=Θ.N
 nd:Θ.N.Nodup
 lc:∀x,look x Θ.sc=some .local ->X.env.scope.names.lookup x=some .local
 ce:∀x,look x Θ.sc=some .cell->X.env.scope.names.lookup x=some .cell/\X.fn x=true
 fe:∀x,look x Θ.sc=some .free->X.env.scope.names.lookup x=some .cell∨X.env.scope.names.lookup x=some .free
 gl:∀x,look x Θ.sc=some .globalImplicit->X.env.scope.names.lookup x=some .globalImplicit
 units:X.A.units+64<cLine
 mg:∀x∈Qm8,X.mg x=none
 cs:∀x i,look x Θ.cs=some i->∃t,X.mg x=some (.int i t)
structure Qas (X:Cx) (Θ:Th):Prop extends CtxB X Θ where
 calm:X.calm=true
 pass:PassesOwn (model X.prog X.w) X.A X.env X.xe
 fns:∀x r,look x Θ.Γ=some r->Quk X x r
 tr:∀st f,Θ.tr st=some f->S1 X st f
section
variable {X:Cx}{Θ:Th}
theorem QoK{x:Str}(h:odd x=false):(x == ("__debug__" :Str))=false/\(x == ("__classdict__" :Str))=false/\x≠ "__name__" :=by
 unfold odd at h
 simp only[Bool.or_eq_false_iff,decide_eq_false_iff_not]at h
 exact⟨by simpa using h.1.1,by simpa using h.1.2,h.2⟩
theorem Q6(ok:CtxB X Θ){x:Str}{i:Nat}{pos:Pos}(h:Θ.slot x=some i):PE X (.Name x pos) (Qdn i):=by
 unfold Th.slot at h
 split at h
 ·rename_i hc
  simp only[Zj,ZaJ]at hc
  obtain⟨h1,h2,_⟩:=QoK hc.2
  refine QqB (by rw[ok.N];exact QfE h) ?_ h1 h2
  cases q:look x Θ.sc with
  | none=>rw[q]at hc;cases hc.1
  | some k=>
   rw[q]at hc
   cases k with
   | «local» =>exact .inl (ok.lc x q)
   | cell=>exact .inr (.inl (ok.ce x q).1)
   | free=>exact .inr (ok.fe x q)
   | _=>cases hc.1
 ·cases h
theorem QbT(ok:CtxB X Θ){x:Str}{i:Nat}(h:Θ.QaR x=some i):X.N[i]? =some x/\Loc X.env.scope x/\(X.fn x=true∨X.env.scope.names.lookup x=some .local):=by
 unfold Th.QaR at h
 split at h
 ·rename_i hc
  simp only[Zj,ZaJ]at hc
  refine⟨by rw[ok.N];exact QfE h,?_⟩
  cases q:look x Θ.sc with
  | none=>rw[q]at hc;cases hc.1
  | some k=>
   rw[q]at hc
   cases k with
   | «local» =>exact⟨.inl (ok.lc x q),.inr (ok.lc x q)⟩
   | cell=>exact⟨.inr (ok.ce x q).1,.inl (ok.ce x q).2⟩
   | _=>cases hc.1
 ·cases h
theorem QgB(ok:CtxB X Θ){x:Str}(h:Θ.gl x=true):Gl X x/\(x == ("__debug__" :Str))=false/\x≠ "__name__" :=by
 unfold Th.gl at h
 simp only[Zj,ZaJ]at h
 obtain⟨h1,h2,h3⟩:=QoK h.2
 refine⟨?_,h1,h3⟩
 cases q:look x Θ.sc with
 | none=>rw[q]at h;cases h.1
 | some k=>
  rw[q]at h
  cases k with
  | globalImplicit=>exact ok.gl x q
  | _=>cases h.1
end
noncomputable def isTup:Expr->Bool
 | .Tuple .. =>true
 | _=>false
noncomputable def Qnu:Expr->Option Str
 | .Name x _=>some x
 | _=>none
noncomputable def QfV(Θ:Th):Expr->Option Tg
 | .Name x _=>(Θ.QaR x).map .nm
 | .Tuple es _ _=>((es.mapM Qnu).bind λxs=>xs.mapM Θ.QaR).map .tp
 | _=>none
noncomputable def QpO:CmpOp->Option (D->D->Option D)
 | .Eq=>some gEq | .NotEq=>some gNe | .Lt=>some gLt | .LtE=>some gLe | .Gt=>some gGt | .GtE=>some gGe
 | .Is=>none | .IsNot=>none
 | .In=>some (gIn false) | .NotIn=>some (gIn true)
noncomputable def Qsr(x:Str):Option String:=
 if x= "int" then some "int" else if x= "bool" then some "bool" else if x= "list" then some "list" else if x= "tuple" then some "tuple" else if x= "str" then some "str" else none
noncomputable def inner(Θ:Th)(scope:Scope):Th:={N:=(scope.names.filter λy=>QtO y.2).map (·.1),sc:=scope.names,Γ:=Θ.Γ,cs:=Θ.cs}
noncomputable def QhM(Θ:Th)(scope:Scope):List (Option Nat):=(inner Θ scope).N.map λx=>if((look x scope.names).map isFree).getD false then posOf x Θ.N else none
noncomputable def QjS(Θ:Th)(scope:Scope)(t:Tg):Bool:=(scope.kind == .function) && decide (inner Θ scope).N.Nodup &&
 (scope.names.all λy=>match y.2 with
  | .cell=>decide (look y.1 scope.names=some .cell)
  | .local =>decide (look y.1 scope.names=some .local)
  | .free=>match look y.1 Θ.sc with
   | some .cell=>true
   | some .free=>true
   | _=>false
  | _=>true) &&
 t.slots.all λj=>match (QhM Θ scope)[j]? with
  | some (some _)=>false
  | _=>true
noncomputable def QiD(Θ:Th)(x:Str)(a:Expr):Option Expr:=match a with
 | .Call (.Name y _) [b] [] _=>if x= "list" /\y= "range" /\Θ.gl y=true/\(look y Θ.Γ).isNone=true then some b else none
 | _=>none
noncomputable def QxN:List Expr->Bool
 | []=>true | [_]=>true | _=>false
noncomputable def bf1(x:Str)(fa:DE):Option DE:=
 if x= "len" then some (dBf Qat (Qd fa Qg))else
 if x= "list" then some (dList (Qd fa Qg))else
 if x= "abs" then some (dBf Qho (Qd fa Qg))else
 if x= "sum" then some (dBf QgC (Qd fa Qg))else
 if x= "int" then some (dBf QnT (Qd fa Qg))else
 if x= "tuple" then some (QpK (Qd fa Qg))else
 none
noncomputable def bf2(x:Str)(fa fb:DE):Option DE:=
 if x= "min" then some (dBf QhY (Qd fa (Qd fb Qg)))else
 if x= "max" then some (dBf Qh1 (Qd fa (Qd fb Qg)))else
 if x= "divmod" then some (dDm (Qd fa (Qd fb Qg)))else
 none
mutual
noncomputable def Qo(n:Nat)(Θ:Th)(e:Expr):Option DE:=match n with
 | 0=>none
 | n+1=>match e with
  | .Name x _=>match Θ.slot x with
   | some i=>some (Qa i)
   | none=>if Θ.gl x then(look x Θ.cs).map λi=>dC (.int i)else none
  | .Constant (.int i) _ _=>some (dC (.int i))
  | .Constant (.bool b) _ _=>some (dC (.bl b))
  | .Constant .none _ _=>some (dC .non)
  | .Constant (.str x) _ _=>some (dC (.str x))
  | .BinOp a op b _=>(Qo n Θ a).bind λfa=>(Qo n Θ b).bind λfb=>match op with
   | .Add=>some (Q8 fa fb)
   | .Mult=>some (Qaq fa fb)
   | .Sub=>some (dOp QaP fa fb)
   | .FloorDiv=>some (dOp Qcq fa fb)
   | .Mod=>some (dOp QaJ fa fb)
   | .Pow=>some (dOp QgO fa fb)
   | _=>none
  | .UnaryOp .USub a _=>(Qo n Θ a).map QpE
  | .UnaryOp .Not a _=>(Qo n Θ a).map Qp2
  | .BoolOp .And [a] _=>Qo n Θ a
  | .BoolOp .And (a::b::r) p=>(Qo n Θ a).bind λfa=>(Qo n Θ (.BoolOp .And (b::r) p)).map λfb=>Qi0 fa fb
  | .BoolOp .Or [a] _=>Qo n Θ a
  | .BoolOp .Or (a::b::r) p=>(Qo n Θ a).bind λfa=>(Qo n Θ (.BoolOp .Or (b::r) p)).map λfb=>dOr fa fb
  | .Compare a [op] [b] _=>(Qo n Θ a).bind λfa=>(Qo n Θ b).bind λfb=>(QpO op).map λg=>dOp g fa fb
  | .IfExp c a b _=>(QaQ n Θ c).bind λg=>(Qo n Θ a).bind λfa=>(Qo n Θ b).map λfb=>dIf g fa fb
  | .Tuple es _ _=>(Qba n Θ es).map Qe3
  | .List es _=>(Qba n Θ es).map Qav
  | .Subscript a (.Slice lo hi none _) _=>(Qo n Θ a).bind λfa=>(Qia n Θ lo).bind λfl=>(Qia n Θ hi).map λfh=>QcV fa fl fh
  | .Subscript a b _=>(Qo n Θ a).bind λfa=>(Qo n Θ b).map λfb=>Ql fa fb
  | .Call (.Name x _) args [] _=>if Θ.gl x then(match look x Θ.Γ with
    | some r=>if r.n<=args.length+r.dfl.length/\args.length<=r.n then(Qba n Θ args).map λfs=>Qk r.n r.den (r.dfl.drop (r.dfl.length-(r.n-args.length))) fs else none
    | none=>Qjv n Θ x args)else none
  | .ListComp elt [⟨tg,iter,ifs,0⟩] scope _=>(QfV (inner Θ scope) tg).bind λt=>if QjS Θ scope t && QxN ifs then
    (Qfv n Θ tg iter).bind λfi=>(Qfq n (inner Θ scope) ifs).bind λft=>(Qo n (inner Θ scope) elt).map λfe=>QO fi t (QhM Θ scope) ft fe else none
  | _=>none
noncomputable def Qjv(n:Nat)(Θ:Th)(x:Str)(args:List Expr):Option DE:=match n with
  | 0=>none
  | n+1=>match args with
    | [a]=>match QiD Θ x a with
     | some b=>(Qo n Θ b).map QpJ
     | none=>(Qo n Θ a).bind λfa=>bf1 x fa
    | [a,b]=>if x= "isinstance" then(Qo n Θ a).bind λfa=>match b with
        | .Name y _=>if Θ.gl y then(Qsr y).map λT=>Qhv T fa else none
        | _=>none
      else(Qo n Θ a).bind λfa=>(Qo n Θ b).bind λfb=>bf2 x fa fb
    | _=>none
noncomputable def QaQ(n:Nat)(Θ:Th)(e:Expr):Option DT:=match n with
 | 0=>none
 | n+1=>match e with
  | .UnaryOp .Not a _=>(QaQ n Θ a).map QdW
  | .BoolOp .And [a] _=>QaQ n Θ a
  | .BoolOp .And (a::b::r) p=>(QaQ n Θ a).bind λfa=>(QaQ n Θ (.BoolOp .And (b::r) p)).map λfb=>QfT fa fb
  | .BoolOp .Or [a] _=>QaQ n Θ a
  | .BoolOp .Or (a::b::r) p=>(QaQ n Θ a).bind λfa=>(QaQ n Θ (.BoolOp .Or (b::r) p)).map λfb=>bOr fa fb
  | .Compare a [op] [b] _=>(Qo n Θ a).bind λfa=>(Qo n Θ b).bind λfb=>(QpO op).map λg=>QM (dOp g fa fb)
  | .BoolOp _ _ _=>none
  | .IfExp _ _ _ _=>none
  | .Compare _ _ _ _=>none
  | e=>(Qo n Θ e).map QM
noncomputable def Qfq(n:Nat)(Θ:Th)(es:List Expr):Option DT:=match n with
 | 0=>none
 | n+1=>match es with
  | []=>some QR
  | [c]=>QaQ n Θ c
  | _=>none
noncomputable def Qba(n:Nat)(Θ:Th)(es:List Expr):Option DA:=match n with
 | 0=>none
 | n+1=>match es with
  | []=>some Qg
  | e::es=>(Qo n Θ e).bind λfa=>(Qba n Θ es).map λfs=>Qd fa fs
noncomputable def Qia(n:Nat)(Θ:Th)(e:Option Expr):Option DO:=match n with
 | 0=>none
 | n+1=>match e with
  | none=>some QcS
  | some e=>(Qo n Θ e).map Qbd
noncomputable def Qfv(n:Nat)(Θ:Th)(tg e:Expr):Option DI:=match n with
 | 0=>none
 | n+1=>match e with
  | .Call (.Name x _) args [] _=>if Θ.gl x && (look x Θ.Γ).isNone then(match args with
    | [a]=>if x= "range" then(Qo n Θ a).map Q5 else
     if x= "enumerate" then(if isTup tg then(Qo n Θ a).map Qhl else none)else
     (Qo n Θ e).map Q4
    | [a,b,c]=>
     if x= "range" then(Qo n Θ a).bind λfa=>(Qo n Θ b).bind λfb=>(Qo n Θ c).map λfc=>Qf8 fa fb fc else
     (Qo n Θ e).map Q4
    | [a,b]=>
     if x= "range" then(Qo n Θ a).bind λfa=>(Qo n Θ b).map λfb=>Qea fa fb else
     if x= "zip" then(if isTup tg then(Qo n Θ a).bind λfa=>(Qo n Θ b).map λfb=>QdU fa fb else none)else
     (Qo n Θ e).map Q4
    | _=>(Qo n Θ e).map Q4)else(Qo n Θ e).map Q4
  | e=>(Qo n Θ e).map Q4
end
end HS
namespace HS
open PySem PySem.Spec L2
theorem Qak{α β γ:Type}{x:Option α}{y:α->Option β}{k:α->β->γ}{r:γ}(e:(x.bind λa=>(y a).map λb=>k a b)=some r):∃a b,x=some a/\y a=some b/\k a b=r:=by
 obtain⟨a,h1,e⟩:=bind1 e
 obtain⟨b,h2,e⟩:=Zf.mp e
 exact⟨a,b,h1,h2,e⟩
theorem QaI{n:Nat}{Θ:Th}{e:Expr}{f:DE}(h:Qo n Θ e=some f)(es:List Expr)(env:Env):starEach (e::es) env=(false,eval e env)::starEach es env:=by
 cases n with
 | zero=>exact nomatch (show(none:Option DE)=some _ from h)
 | succ n=>cases e<;>first | rfl | (exact nomatch (show(none:Option DE)=some _ from h))
theorem QoD:∀{n:Nat}{Θ:Th}{es:List Expr}{f:DA},Qba n Θ es=some f->∀(pos:Pos) (env:Env),(backTo pos (starEach es env)).any (·.1)=false
 | 0,_,_,_,h,_,_=>by simp[Qba]at h
 | n+1,_,[],_,h,_,_=>rfl
 | n+1,_,e::es,_,h,pos,env=>by
  simp only[Qba]at h
  obtain⟨fa,fs,h1,h2,_⟩:=Qak h
  rw[QaI h1]
  have:=QoD h2 pos env
  simpa[backTo]using this
theorem QoE{n:Nat}{Θ:Th}{b:Expr}{f:DE}(h:Qo n Θ b=some f):QhL b:=by
 cases n with
 | zero=>exact nomatch (show(none:Option DE)=some _ from h)
 | succ n=>cases b<;>first | (intro o i;rfl) | (exact nomatch (show(none:Option DE)=some _ from h))
theorem QwW{n:Nat}{Θ:Th}{e:Expr}{f:DE}(h:Qo n Θ e=some f)(env:Env):∀x,foldedSetIterable e env x=pure x:=by
 cases n with
 | zero=>exact nomatch (show(none:Option DE)=some _ from h)
 | succ n=>cases e<;>first | (intro x;rfl) | (exact nomatch (show(none:Option DE)=some _ from h))
theorem Qrt{n:Nat}{Θ:Th}{e:Expr}{f:DE}(h:Qo n Θ e=some f)(op:CmpOp):behindInMarks op e=false:=by
 cases n with
 | zero=>exact nomatch (show(none:Option DE)=some _ from h)
 | succ n=>cases e<;>first | rfl | (exact nomatch (show(none:Option DE)=some _ from h))
theorem Qd5{env:Env}:∀{names:List (Str×NameKind)}{x:Str},names.lookup x=some .cell→
  (names.map λ(n,k)=>if(k == NameKind.free && env.scope.kind == .function && env.kindOf n == some .cell)then(n,NameKind.cell)else(n,k)).lookup x=some .cell
 | [],_,h=>by simp at h
 | (n,k)::r,x,h=>by
  have ih:= @Qd5 env r x
  rw[ZL]
  cases hx:x == n with
  | true=>
   simp only[Zv,hx]at h
   cases h
   dsimp only
   split<;>simp[Zv,hx]
  | false=>
   simp only[Zv,hx]at h
   dsimp only
   split<;>(simp only[Zv,hx];exact ih h)
theorem Qnk{X:Cx}{Θ:Th}{scope:Scope}{t:Tg}(ok:Qas X Θ)(h:QjS Θ scope t=true):Qez X (inner Θ scope).N scope/\Qmd X (inner Θ scope).N scope (QhM Θ scope) t.slots/\∀cl C fp s3 H3,Qas (cxc X (inner Θ scope).N scope cl C fp s3 H3) (inner Θ scope):=by
 unfold QjS at h
 simp only[Zj,decide_eq_true_eq]at h
 obtain⟨⟨⟨h1,h2⟩,h3⟩,h4⟩:=h
 have hk:scope.kind= .function:=by simpa using h1
 have each:∀y∈scope.names,(y.2= .cell->scope.names.lookup y.1=some .cell)/\(y.2= .local ->scope.names.lookup y.1=some .local)/\(y.2= .free->X.env.kindOf y.1=some .cell∨X.env.kindOf y.1=some .free):=λy hy=>by
  have:=Zai.mp h3 y hy
  obtain⟨y,k⟩:=y
  cases k with
  | cell=>exact⟨λ_=>(by rw[← QbC];simpa using this),λz=>(by cases z),λz=>(by cases z)⟩
  | «local» =>exact⟨λz=>(by cases z),λ_=>by rw[← QbC];simpa using this,λz=>by cases z⟩
  | free=>
   refine⟨λz=>(by cases z),λz=>(by cases z),λ_=>?_⟩
   dsimp only at this
   split at this
   ·rename_i q;exact .inl (ok.ce _ q).1
   ·rename_i q;exact ok.fe _ q
   ·cases this
  | _=>exact⟨λz=>(by cases z),λz=>(by cases z),λz=>(by cases z)⟩
 have S:Qez X (inner Θ scope).N scope:=⟨hk,λy hy=>(each y hy).1,λy hy=>(each y hy).2.1,λy hy=>(each y hy).2.2⟩
 refine⟨S,⟨by unfold QhM;simp,λj i e=>?_,λj i e hj=>?_⟩,λcl C fp s3 H3=>⟨⟨rfl,h2,λx e=>?_,λx e=>?_,λx e=>?_,λx e=>?_,ok.units,ok.mg,ok.cs⟩,ok.calm,PassesOwn.never,ok.fns,λ_ _ e=>nomatch e⟩⟩
 ·unfold QhM at e
  rw[Zl]at e
  cases q:(inner Θ scope).N[j]? with
  | none=>rw[q]at e;cases e
  | some x=>
   rw[q]at e
   simp only[ZY,Option.some.injEq]at e
   split at e
   ·rename_i hf
    cases hl:look x scope.names with
    | none=>rw[hl]at hf;cases hf
    | some k=>
     rw[hl]at hf
     cases k with
     | free=>
      rw[QbC]at hl
      exact⟨x,rfl,hl,by rw[ok.N];exact QfE e,(each (x,.free) (Zad hl)).2.2 rfl⟩
     | _=>cases hf
   ·cases e
 ·have:=Zai.mp h4 j hj
  rw[e]at this
  cases this
 ·have e':scope.names.lookup x=some .local :=by rw[← QbC];exact e
  exact lookup_relabel_local e'
 ·have e':scope.names.lookup x=some .cell:=by rw[← QbC];exact e
  exact⟨Qd5 e',decide_eq_true e'⟩
 ·have e':scope.names.lookup x=some .free:=by rw[← QbC];exact e
  exact QcQ e'
 ·have e':scope.names.lookup x=some .globalImplicit:=by rw[← QbC];exact e
  show(relabel scope X.env).names.lookup x=some .globalImplicit
  unfold relabel
  have gen:∀{names:List (Str×NameKind)},names.lookup x=some .globalImplicit→
    (names.map λ(n,k)=>if(k == NameKind.free && X.env.scope.kind == .function && X.env.kindOf n == some .cell)then(n,NameKind.cell)else(n,k)).lookup x=some .globalImplicit:=by
   intro names
   induction names with
   | nil=>intro z;simp at z
   | cons y r ih=>
    intro z
    obtain⟨n,k⟩:=y
    rw[ZL]
    cases hx:x == n with
    | true=>
     simp only[Zv,hx]at z
     cases z
     simp[Zv,hx]
    | false=>
     simp only[Zv,hx]at z
     dsimp only
     split<;>(simp only[Zv,hx];exact ih z)
  exact gen e'
theorem Qme{X:Cx}{Θ:Th}(ok:Qas X Θ){tg:Expr}{t:Tg}(h:QfV Θ tg=some t):SG X tg t:=by
 have hN:X.N.Nodup:=by rw[ok.N];exact ok.nd
 cases tg with
 | Name x pos=>
  simp only[QfV]at h
  obtain⟨i,hi,rfl⟩:=Zf.mp h
  obtain⟨h1,h2,h3⟩:=QbT ok.toCtxB hi
  exact Qvy (QkQ hN h1 h2 h3)
 | Tuple es k pos=>
  simp only[QfV]at h
  obtain⟨is,hi,rfl⟩:=Zf.mp h
  obtain⟨xs,h1,h2⟩:=bind1 hi
  have key:∀(es:List Expr) (xs:List Str) (is:List Nat),es.mapM Qnu=some xs->xs.mapM Θ.QaR=some is->PGs X es (QjL is)/\(assignEach es X.env).length=is.length/\(assignEach es X.env).findIdx? (·.1)=none:=by
   intro es
   induction es with
   | nil=>
    intro xs is h1 h2
    cases h1
    cases h2
    exact⟨Qvq,rfl,rfl⟩
   | cons e es ih=>
    intro xs is h1 h2
    rw[List.mapM_cons]at h1
    obtain⟨x,hx,h1⟩:=bind1 h1
    obtain⟨ys,hy,h1⟩:=bind1 h1
    cases h1
    rw[List.mapM_cons]at h2
    obtain⟨i,hi,h2⟩:=bind1 h2
    obtain⟨js,hj,h2⟩:=bind1 h2
    cases h2
    obtain⟨a1,a2,a3⟩:=ih ys js hy hj
    cases e with
    | Name y p=>
     cases hx
     obtain⟨g1,g2,g3⟩:=QbT ok.toCtxB hi
     refine⟨Qr8 (QkQ hN g1 g2 g3) a1 rfl,?_,?_⟩
     ·show(assignEach es X.env).length+1=_
      rw[a2];rfl
     ·show List.findIdx? (·.1) ((false,assign (.Name x p) X.env)::assignEach es X.env)=none
      rw[List.findIdx?_cons]
      simp only[a3];rfl
    | _=>cases hx
  obtain⟨a1,a2,a3⟩:=key es xs is h1 h2
  exact QwO ok.calm a1 a2 a3
 | _=>simp only[QfV]at h;cases h
theorem Qpe{f:Int->Int->Bool}:∀a b d,gI (λi j=>some (.bl (f i j))) a b=some d->∃k,d= .bl k:=λa b d h=>by
 obtain⟨i,j,_,_,e⟩:=QqR h
 cases e
 exact⟨_,rfl⟩
theorem QrD{X:Cx}{Θ:Th}(ok:Qas X Θ){op:CmpOp}{g:D->D->Option D}(h:QpO op=some g):∃r,OpR X (compareOp op) r/\Qdm X.K g r/\∀a b d,g a b=some d->∃k,d= .bl k:=by
 cases op<;>cases h
 ·exact⟨_,QwQ ok.units,Qyg,λa b d h=>by unfold gEq at h;split at h<;>cases h;exact⟨_,rfl⟩⟩
 ·exact⟨_,Qwg ok.units,Qyh,λa b d h=>by unfold gNe at h;split at h<;>cases h;exact⟨_,rfl⟩⟩
 ·exact⟨_,Qym,QxD,Qpe⟩
 ·exact⟨_,Qxz,Qyd,Qpe⟩
 ·exact⟨_,QxX,QxJ,Qpe⟩
 ·exact⟨_,QxT,QxL,Qpe⟩
 ·exact⟨_,QvX ok.units,QtX,λa b d h=>by unfold gIn at h;split at h<;>first | (split at h<;>cases h;exact⟨_,rfl⟩) | cases h⟩
 ·exact⟨_,Qrg ok.units,QtX,λa b d h=>by unfold gIn at h;split at h<;>first | (split at h<;>cases h;exact⟨_,rfl⟩) | cases h⟩
structure Qjo (n:Nat):Prop where
 E:∀X Θ e f,Qas X Θ->Qo n Θ e=some f->SE X e f
 B:∀X Θ x args f p pos,Qas X Θ->Θ.gl x=true->Qjv n Θ x args=some f->SE X (.Call (.Name x p) args [] pos) f
 T:∀X Θ e f,Qas X Θ->QaQ n Θ e=some f->ST X e f
 Ts:∀X Θ e f,Qas X Θ->Qfq n Θ e=some f->Qns X e f
 A:∀X Θ e f,Qas X Θ->Qba n Θ e=some f->SA X e f
 O:∀X Θ e f,Qas X Θ->Qia n Θ e=some f->SO X e f
 I:∀X Θ tg e f,Qas X Θ->Qfv n Θ tg e=some f->SI X tg e f/\∀x,foldedSetIterable e X.env x=pure x
theorem callArgs{X:Cx}{n:Nat}{Θ:Th}{es:List Expr}{fs:DA}(h:Qba n Θ es=some fs){e:Expr}{es':List Expr}(he:es=e::es')(pos:Pos):starEach (e::es') X.env=(false,eval e X.env)::starEach es' X.env/\(backTo pos (starEach es' X.env)).any (·.1)=false:=by
 subst he
 cases n with
 | zero=>simp[Qba]at h
 | succ n=>
  simp only[Qba]at h
  obtain⟨fa,fs',h1,h2,_⟩:=Qak h
  exact⟨QaI h1 es' X.env,QoD h2 pos X.env⟩
theorem QxR{n:Nat}(ih:Qjo n):∀X Θ e f,Qas X Θ->Qo (n+1) Θ e=some f->SE X e f:=by
  intro X Θ e f ok h
  cases e with
  | Name x pos=>
    (conv at h=>lhs;whnf)
    cases q:Θ.slot x with
    | some i=>rw[q]at h;cases h;exact QdV (Q6 ok.toCtxB q)
    | none=>
      rw[q]at h
      dsimp only at h
      split at h
      · rename_i hg
        obtain⟨i,hi,rfl⟩:=Zf.mp h
        obtain⟨g1,g2,g3⟩:=QgB ok.toCtxB hg
        obtain⟨t,hm⟩:=ok.cs x i hi
        exact QmG (v:= .int i) (QuO g1 hm ⟨t,rfl⟩ g2) (λ_ _=> .int_mk) rfl
      · cases h
  | Constant c k pos=>
    cases c with
    | int i=>(conv at h=>lhs;whnf);cases h;exact QmG QjY (λ_ _=> .int_mk) rfl
    | bool b=>(conv at h=>lhs;whnf);cases h;exact QmG Qxu (λ_ _=> .Qd3) rfl
    | none=>(conv at h=>lhs;whnf);cases h;exact QmG QvG (λ_ _=> .QjG) rfl
    | str x=>(conv at h=>lhs;whnf);cases h;exact QmG QwS (λ_ _=> .str_mk) rfl
    | _=>exact nomatch (show(none:Option DE)=some _ from h)
  | BinOp a op b pos=>
    (conv at h=>lhs;whnf)
    obtain⟨fa,h1,h⟩:=bind1 h
    obtain⟨fb,h2,h⟩:=bind1 h
    have ha:=ih.E X Θ a fa ok h1
    have hb:=ih.E X Θ b fb ok h2
    cases op with
    | Add=>cases h;exact QvS ha hb
    | Mult=>cases h;exact Qwh ha hb
    | Sub=>cases h;exact Ql9 Qxp QvH ha hb
    | FloorDiv=>cases h;exact Ql9 QuJ Qxm ha hb
    | Mod=>cases h;exact Ql9 Qvv QwC ha hb
    | Pow=>cases h;exact Ql9 Qvl Qxo ha hb
    | _=>cases h
  | UnaryOp op a pos=>
    cases op with
    | USub=>
      (conv at h=>lhs;whnf)
      obtain⟨fa,h1,rfl⟩:=Zf.mp h
      exact Qxd (ih.E X Θ a fa ok h1)
    | Not=>
      (conv at h=>lhs;whnf)
      obtain⟨fa,h1,rfl⟩:=Zf.mp h
      exact QwL (ih.E X Θ a fa ok h1)
    | _=>exact nomatch (show(none:Option DE)=some _ from h)
  | BoolOp op es pos=>
    cases op with
    | And=>
      match es,h with
      | [],h=>exact nomatch (show(none:Option DE)=some _ from h)
      | [a],h=>(conv at h=>lhs;whnf);exact Qrd (ih.E X Θ a f ok h)
      | a::b::r,h=>
        (conv at h=>lhs;whnf)
        obtain⟨fa,fb,h1,h2,rfl⟩:=Qak h
        exact Qwa (ih.E X Θ a fa ok h1) (ih.E X Θ _ fb ok h2)
    | Or=>
      match es,h with
      | [],h=>exact nomatch (show(none:Option DE)=some _ from h)
      | [a],h=>(conv at h=>lhs;whnf);exact Qrd (ih.E X Θ a f ok h)
      | a::b::r,h=>
        (conv at h=>lhs;whnf)
        obtain⟨fa,fb,h1,h2,rfl⟩:=Qak h
        exact QxS (ih.E X Θ a fa ok h1) (ih.E X Θ _ fb ok h2)
  | Compare a ops bs pos=>
    match ops,bs,h with
    | [op],[b],h=>
      (conv at h=>lhs;whnf)
      obtain⟨fa,h1,h⟩:=bind1 h
      obtain⟨fb,g,h2,h3,rfl⟩:=Qak h
      obtain⟨r,o1,o2,_⟩:=QrD ok h3
      exact QvT o1 o2 (ih.E X Θ a fa ok h1) (ih.E X Θ b fb ok h2) (Qrt h2 op)
    | [],_,h=>exact nomatch (show(none:Option DE)=some _ from h)
    | [_],[],h=>exact nomatch (show(none:Option DE)=some _ from h)
    | [_],_::_::_,h=>exact nomatch (show(none:Option DE)=some _ from h)
    | _::_::_,_,h=>exact nomatch (show(none:Option DE)=some _ from h)
  | IfExp c a b pos=>
    (conv at h=>lhs;whnf)
    obtain⟨g,h1,h⟩:=bind1 h
    obtain⟨fa,fb,h2,h3,rfl⟩:=Qak h
    exact Qyl (ih.T X Θ c g ok h1) (ih.E X Θ a fa ok h2) (ih.E X Θ b fb ok h3)
  | Tuple es k pos=>
    (conv at h=>lhs;whnf)
    obtain⟨fs,h1,rfl⟩:=Zf.mp h
    exact QwI (ih.A X Θ es fs ok h1)
  | List es pos=>
    (conv at h=>lhs;whnf)
    obtain⟨fs,h1,rfl⟩:=Zf.mp h
    exact Qxb (ih.A X Θ es fs ok h1)
  | Subscript a b pos=>
    by_cases hb:∃lo hi p2,b= .Slice lo hi none p2
    · obtain⟨lo,hi,p2,rfl⟩:=hb
      (conv at h=>lhs;whnf)
      obtain⟨fa,h1,h⟩:=bind1 h
      obtain⟨fl,fh,h2,h3,rfl⟩:=Qak h
      exact QvD (ih.E X Θ a fa ok h1) (ih.O X Θ lo fl ok h2) (ih.O X Θ hi fh ok h3)
    · have h':((Qo n Θ a).bind λfa=>(Qo n Θ b).map λfb=>Ql fa fb)=some f:=by
        cases b<;>first
          | (exact h)
          | (rename_i lo hi st p2;cases lo<;>cases hi<;>cases st<;>first | (exact absurd ⟨_,_,_,rfl⟩ hb) | (exact h))
      obtain⟨fa,fb,h1,h2,rfl⟩:=Qak h'
      exact Qv5 (ih.E X Θ a fa ok h1) (ih.E X Θ b fb ok h2) (QoE h2)
  | Call fn args kws pos=>
    cases fn with
    | Name x p=>
     cases kws with
     | cons k ks=>exact nomatch (show(none:Option DE)=some _ from h)
     | nil=>
      have h:(if Θ.gl x then(match look x Θ.Γ with | some r=>if r.n<=args.length+r.dfl.length/\args.length<=r.n then(Qba n Θ args).map λfs=>Qk r.n r.den (r.dfl.drop (r.dfl.length-(r.n-args.length))) fs else none | none=>Qjv n Θ x args)else none)=some f:=h
      split at h
      · rename_i hg
        obtain⟨g1,g2,g3⟩:=QgB ok.toCtxB hg
        split at h
        · rename_i r hr
          split at h
          · rename_i hn
            obtain⟨fs,h1,rfl⟩:=Zf.mp h
            obtain⟨k,fa,fd,ps,F1,F2,F3,F4,F5⟩:=ok.fns x r hr
            obtain⟨ds,dvs,b1,b2,b3⟩:=F5 (r.n-args.length) (by omega)
            cases args with
            | nil=>
              cases n with
              | zero=>simp[Qba]at h1
              | succ n=>
                simp only[Qba]at h1
                cases h1
                exact QrV F1 F2 g1 F3 F4 b1 b2 b3 g2
            | cons e es=>
              obtain⟨s1,s2⟩:=callArgs (X:=X) h1 rfl pos
              exact Qt7 F1 F2 g1 F3 F4 b1 b2 b3 (ih.A X Θ _ fs ok h1) g2 s1 s2
          · cases h
        · exact ih.B X Θ x args f p pos ok hg h
      · cases h
    | _=>exact nomatch (show(none:Option DE)=some _ from h)
  | ListComp elt gens scope pos=>
    match gens,h with
    | [⟨tg,iter,ifs,k⟩],h=>
      by_cases hk:k=0
      · subst hk
        (conv at h=>lhs;whnf)
        obtain⟨t,ht,h⟩:=bind1 h
        split at h
        · rename_i hc
          simp only[Zj]at hc
          obtain⟨fi,h1,h⟩:=bind1 h
          obtain⟨ft,fe,h2,h3,rfl⟩:=Qak h
          obtain⟨S,cap,inn⟩:=Qnk ok hc.1
          obtain⟨i1,i2⟩:=ih.I X Θ tg iter fi ok h1
          exact Qu1 ok.calm S i1 cap (λcl C fp s3 H3=>⟨Qme (inn cl C fp s3 H3) ht,ih.Ts _ _ ifs ft (inn cl C fp s3 H3) h2,ih.E _ _ elt fe (inn cl C fp s3 H3) h3⟩) i2
        · cases h
      · exfalso
        cases k with
        | ofNat k=>
          cases k with
          | zero=>exact hk rfl
          | succ k=>exact nomatch (show(none:Option DE)=some _ from h)
        | negSucc k=>exact nomatch (show(none:Option DE)=some _ from h)
    | [],h=>exact nomatch (show(none:Option DE)=some _ from h)
    | ⟨_,_,_,.ofNat 0⟩::_::_,h=>exact nomatch (show(none:Option DE)=some _ from h)
    | ⟨_,_,_,.ofNat (k+1)⟩::_::_,h=>exact nomatch (show(none:Option DE)=some _ from h)
    | ⟨_,_,_,.negSucc k⟩::_::_,h=>exact nomatch (show(none:Option DE)=some _ from h)
  | _=>exact nomatch (show(none:Option DE)=some _ from h)
theorem QwN{X:Cx}{Θ:Th}{x:Str}{a:Expr}{fa f:DE}{p pos:Pos}(ok:Qas X Θ)(g1:Gl X x)(sa:SA X [a] (Qd fa Qg))(st:starEach [a] X.env=(false,eval a X.env)::starEach [] X.env)(h:bf1 x fa=some f):SE X (.Call (.Name x p) [a] [] pos) f:=by
 unfold bf1 at h
 by_cases e:x= "len"
 ·rw[if_pos e]at h;cases h;subst e;have hm:=ok.mg "len" (by decide+kernel)
  exact QjV Qni Qwe g1 hm PySem.boot_len sa (by decide) (by decide) st rfl
 rw[if_neg e]at h;clear e
 by_cases e:x= "list"
 ·rw[if_pos e]at h;cases h;subst e;have hm:=ok.mg "list" (by decide+kernel)
  exact Quq g1 hm sa st rfl
 rw[if_neg e]at h;clear e
 by_cases e:x= "abs"
 ·rw[if_pos e]at h;cases h;subst e;have hm:=ok.mg "abs" (by decide+kernel)
  exact QjV Qsc Qv4 g1 hm PyProof.Rows.boot_abs sa (by decide) (by decide) st rfl
 rw[if_neg e]at h;clear e
 by_cases e:x= "sum"
 ·rw[if_pos e]at h;cases h;subst e;have hm:=ok.mg "sum" (by decide+kernel)
  exact QjV (QqX ok.calm) Qvk g1 hm PyProof.Rows.boot_sum sa (by decide) (by decide) st rfl
 rw[if_neg e]at h;clear e
 by_cases e:x= "int"
 ·rw[if_pos e]at h;cases h;subst e;have hm:=ok.mg "int" (by decide+kernel)
  exact Qw3 Qra Qw6 g1 hm PyProof.Rows.boot_int sa (by decide) (by decide) st rfl
 rw[if_neg e]at h;clear e
 by_cases e:x= "tuple"
 ·rw[if_pos e]at h;cases h;subst e;have hm:=ok.mg "tuple" (by decide+kernel)
  exact Qvc g1 hm sa st rfl
 rw[if_neg e]at h;clear e
 cases h
theorem Qxi{X:Cx}{Θ:Th}{x:Str}{a b:Expr}{fa fb f:DE}{p pos:Pos}(ok:Qas X Θ)(g1:Gl X x)(sa:SA X [a,b] (Qd fa (Qd fb Qg)))(st:starEach [a,b] X.env=(false,eval a X.env)::starEach [b] X.env)(pl:(backTo pos (starEach [b] X.env)).any (·.1)=false)(h:bf2 x fa fb=some f):SE X (.Call (.Name x p) [a,b] [] pos) f:=by
 unfold bf2 at h
 by_cases e:x= "min"
 ·rw[if_pos e]at h;cases h;subst e;have hm:=ok.mg "min" (by decide+kernel)
  exact QjV (Qrq ok.calm) Quu g1 hm PyProof.Rows.boot_min sa (by decide) (by decide) st pl
 rw[if_neg e]at h;clear e
 by_cases e:x= "max"
 ·rw[if_pos e]at h;cases h;subst e;have hm:=ok.mg "max" (by decide+kernel)
  exact QjV (Qq6 ok.calm) QuB g1 hm PyProof.Rows.boot_max sa (by decide) (by decide) st pl
 rw[if_neg e]at h;clear e
 by_cases e:x= "divmod"
 ·rw[if_pos e]at h;cases h;subst e;have hm:=ok.mg "divmod" (by decide+kernel)
  exact QxE (x:= "divmod") g1 hm sa st pl
 rw[if_neg e]at h;clear e
 cases h
theorem Qxv{n:Nat}(ih:Qjo n):∀X Θ x args f p pos,Qas X Θ->Θ.gl x=true->Qjv (n+1) Θ x args=some f->SE X (.Call (.Name x p) args [] pos) f:=by
 intro X Θ x args f p pos ok hg h
 obtain⟨g1,g2,g3⟩:=QgB ok.toCtxB hg
 match args,h with
 | [],h=>exact nomatch (show(none:Option DE)=some _ from h)
 | [a],h=>
  change(match QiD Θ x a with | some b=>(Qo n Θ b).map QpJ | none=>(Qo n Θ a).bind λfa=>bf1 x fa)=some f at h
  split at h
  ·rename_i b hr
   obtain⟨fb,h1,rfl⟩:=Zf.mp h
   unfold QiD at hr
   split at hr
   ·rename_i y p' b' pos'
    split at hr
    ·rename_i hc
     cases hr
     obtain⟨c1,c2,c3,_⟩:=hc
     subst c1
     subst c2
     obtain⟨y1,y2,y3⟩:=QgB ok.toCtxB c3
     exact Qu7 g1 (ok.mg _ (by decide+kernel)) y1 (ok.mg _ (by decide+kernel)) ok.calm (ih.E X Θ b fb ok h1) (QaI h1 [] X.env)
    ·cases hr
   ·cases hr
  obtain⟨fa,h1,h⟩:=bind1 h
  have ha:=ih.E X Θ a fa ok h1
  have st:=QaI h1 [] X.env
  exact QwN ok g1 (Qgi ha Qjq st) st h
 | [a,b],h=>
  change(if x= "isinstance" then(Qo n Θ a).bind λfa=>(match b with | .Name y _=>if Θ.gl y then(Qsr y).map λT=>Qhv T fa else none | _=>none)else(Qo n Θ a).bind λfa=>(Qo n Θ b).bind λfb=>bf2 x fa fb)=some f at h
  split at h
  ·rename_i e
   obtain⟨fa,h1,h⟩:=bind1 h
   have ha:=ih.E X Θ a fa ok h1
   split at h
   ·rename_i y p2
    split at h
    ·rename_i hy
     obtain⟨T,hT,rfl⟩:=Zf.mp h
     obtain⟨y1,y2,y3⟩:=QgB ok.toCtxB hy
     clear h
     subst e
     refine QvO g1 (ok.mg _ (by decide+kernel)) ha ?_ (QaI h1 _ X.env)
     unfold Qsr at hT
     split at hT
     ·rename_i e;cases hT;subst e
      exact Qga y1 (ok.mg _ (by decide+kernel)) PyProof.Rows.boot_int rfl
     ·split at hT
      ·rename_i e;cases hT;subst e
       exact Qga y1 (ok.mg _ (by decide+kernel)) PyProof.Rows.boot_bool rfl
      ·split at hT
       ·rename_i e;cases hT;subst e
        exact Qga y1 (ok.mg _ (by decide+kernel)) Zbn rfl
       ·split at hT
        ·rename_i e;cases hT;subst e
         exact Qga y1 (ok.mg _ (by decide+kernel)) ZbH rfl
        ·split at hT
         ·rename_i e;cases hT;subst e
          exact Qga y1 (ok.mg _ (by decide+kernel)) PyProof.Rows.boot_str rfl
         ·cases hT
    ·cases h
   ·cases h
  ·obtain⟨fa,h1,h⟩:=bind1 h
   obtain⟨fb,h2,h⟩:=bind1 h
   have ha:=ih.E X Θ a fa ok h1
   have hb:=ih.E X Θ b fb ok h2
   have sb:SA X [b] (Qd fb Qg):=Qgi hb Qjq (QaI h2 [] X.env)
   have sa:SA X [a,b] (Qd fa (Qd fb Qg)):=Qgi ha sb (QaI h1 [b] X.env)
   have pl:(backTo pos (starEach [b] X.env)).any (·.1)=false:=by rw[QaI h2 [] X.env];rfl
   exact Qxi ok g1 sa (QaI h1 [b] X.env) pl h
 | _::_::_::_,h=>exact nomatch (show(none:Option DE)=some _ from h)
theorem Qxw{n:Nat}(ih:Qjo n):∀X Θ e f,Qas X Θ->QaQ (n+1) Θ e=some f->ST X e f:=by
 intro X Θ e f ok h
 have dflt:(Qo n Θ e).map QM=some f->(∀whole,isTrue e X.env whole=(do let v ← whole;standAt e.pos;holding [v] (truthy v)))->ST X e f:=λh he=>by
  obtain⟨fa,h1,rfl⟩:=Zf.mp h
  exact Qxl (ih.E X Θ e fa ok h1) he
 cases e with
 | UnaryOp op a pos=>
  cases op with
  | Not=>
   change(QaQ n Θ a).map QdW=some f at h
   obtain⟨fa,h1,rfl⟩:=Zf.mp h
   exact Qwz (ih.T X Θ a fa ok h1)
  | _=>exact dflt h λ_=>rfl
 | BoolOp op es pos=>
  cases op with
  | And=>
   match es,h with
   | [],h=>exact nomatch (show(none:Option DT)=some _ from h)
   | [a],h=>exact(Qt6 (ih.T X Θ a f ok h)).st
   | a::b::r,h=>
    change((QaQ n Θ a).bind λfa=>(QaQ n Θ (.BoolOp .And (b::r) pos)).map λfb=>QfT fa fb)=some f at h
    obtain⟨fa,fb,h1,h2,rfl⟩:=Qak h
    have hb:=ih.T X Θ _ fb ok h2
    exact(Qxn (ih.T X Θ a fa ok h1) (λH0 A0 wh pins s σ H Q I q=>by have:=hb H0 A0 pins s σ H Q I q;exact this)).st
  | Or=>
   match es,h with
   | [],h=>exact nomatch (show(none:Option DT)=some _ from h)
   | [a],h=>exact(QwK (ih.T X Θ a f ok h)).st
   | a::b::r,h=>
    change((QaQ n Θ a).bind λfa=>(QaQ n Θ (.BoolOp .Or (b::r) pos)).map λfb=>bOr fa fb)=some f at h
    obtain⟨fa,fb,h1,h2,rfl⟩:=Qak h
    have hb:=ih.T X Θ _ fb ok h2
    exact(Qyi (ih.T X Θ a fa ok h1) (λH0 A0 wh pins s σ H Q I q=>by have:=hb H0 A0 pins s σ H Q I q;exact this)).st
 | Compare a ops bs pos=>
  match ops,bs,h with
  | [op],[b],h=>
   change((Qo n Θ a).bind λfa=>(Qo n Θ b).bind λfb=>(QpO op).map λg=>QM (dOp g fa fb))=some f at h
   obtain⟨fa,h1,h⟩:=bind1 h
   obtain⟨fb,g,h2,h3,rfl⟩:=Qak h
   obtain⟨r,o1,o2,o3⟩:=QrD ok h3
   exact QwZ o1 o2 o3 (ih.E X Θ a fa ok h1) (ih.E X Θ b fb ok h2) (Qrt h2 op)
  | [],_,h=>exact nomatch (show(none:Option DT)=some _ from h)
  | [_],[],h=>exact nomatch (show(none:Option DT)=some _ from h)
  | [_],_::_::_,h=>exact nomatch (show(none:Option DT)=some _ from h)
  | _::_::_,_,h=>exact nomatch (show(none:Option DT)=some _ from h)
 | IfExp c a b pos=>exact nomatch (show(none:Option DT)=some _ from h)
 | _=>exact dflt h λ_=>rfl
theorem Qx2{n:Nat}(ih:Qjo n):∀X Θ tg e f,Qas X Θ->Qfv (n+1) Θ tg e=some f->SI X tg e f/\∀x,foldedSetIterable e X.env x=pure x:=by
 intro X Θ tg e f ok h
 have dflt:(Qo n Θ e).map Q4=some f->SI X tg e f/\∀x,foldedSetIterable e X.env x=pure x:=λh=>by
  obtain⟨fa,h1,rfl⟩:=Zf.mp h
  exact⟨Qxk (ih.E X Θ e fa ok h1),QwW h1 X.env⟩
 cases e with
 | Call fn args kws pos=>
  cases fn with
  | Name x p=>
   cases kws with
   | cons k ks=>exact dflt h
   | nil=>
    simp only[Qfv]at h
    split at h
    ·rename_i hg
     simp only[Zj]at hg
     obtain⟨g1,g2,g3⟩:=QgB ok.toCtxB hg.1
     match args,h with
     | [],h=>exact dflt h
     | [a],h=>
      dsimp only at h
      by_cases er:x= "range"
      ·rw[if_pos er]at h
       obtain⟨fa,h1,rfl⟩:=Zf.mp h
       subst er
       exact⟨Qql g1 (ok.mg _ (by decide+kernel)) (ih.E X Θ a fa ok h1) (QaI h1 [] X.env),λ_=>rfl⟩
      rw[if_neg er]at h
      by_cases ez:x= "enumerate"
      ·rw[if_pos ez]at h
       split at h
       ·rename_i ht
        obtain⟨fa,h1,rfl⟩:=Zf.mp h
        subst ez
        cases tg with
        | Tuple es k tp=>exact⟨QuU g1 (ok.mg _ (by decide+kernel)) (ih.E X Θ a fa ok h1) (QaI h1 [] X.env),λ_=>rfl⟩
        | _=>exact nomatch (show false=true from ht)
       ·cases h
      rw[if_neg ez]at h
      exact dflt h
     | [a,b],h=>
      dsimp only at h
      by_cases er:x= "range"
      ·rw[if_pos er]at h
       obtain⟨fa,fb,h1,h2,rfl⟩:=Qak h
       subst er
       exact⟨QqI g1 (ok.mg _ (by decide+kernel)) (ih.E X Θ a fa ok h1) (ih.E X Θ b fb ok h2) (by rw[QaI h1 [b] X.env,QaI h2 [] X.env];rfl) (QaI h2 [] X.env),λ_=>rfl⟩
      rw[if_neg er]at h
      by_cases ez:x= "zip"
      ·rw[if_pos ez]at h
       split at h
       ·rename_i ht
        obtain⟨fa,fb,h1,h2,rfl⟩:=Qak h
        subst ez
        cases tg with
        | Tuple es k tp=>exact⟨QvJ g1 (ok.mg _ (by decide+kernel)) (ih.E X Θ a fa ok h1) (ih.E X Θ b fb ok h2) (by rw[QaI h1 [b] X.env,QaI h2 [] X.env];rfl) (QaI h2 [] X.env),λ_=>rfl⟩
        | _=>exact nomatch (show false=true from ht)
       ·cases h
      rw[if_neg ez]at h
      exact dflt h
     | [a,b,c],h=>
      dsimp only at h
      by_cases er:x= "range"
      ·rw[if_pos er]at h
       obtain⟨fa,h1,h⟩:=bind1 h
       obtain⟨fb,fc,h2,h3,rfl⟩:=Qak h
       subst er
       exact⟨QqL g1 (ok.mg _ (by decide+kernel)) (ih.E X Θ a fa ok h1) (ih.E X Θ b fb ok h2) (ih.E X Θ c fc ok h3) (QaI h1 [b,c] X.env) (QaI h2 [c] X.env) (QaI h3 [] X.env),λ_=>rfl⟩
      rw[if_neg er]at h
      exact dflt h
     | _::_::_::_::_,h=>exact dflt h
    ·exact dflt h
  | _=>exact dflt h
 | _=>exact dflt h
theorem QcX:∀n,Qjo n
 | 0=>⟨λ_ _ _ _ _ h=>(nomatch (show(none:Option DE)=some _ from h)),λ_ _ _ _ _ _ _ _ _ h=>by simp[Qjv]at h,λ_ _ _ _ _ h=>by simp[QaQ]at h,λ_ _ _ _ _ h=>by simp[Qfq]at h,λ_ _ _ _ _ h=>by simp[Qba]at h,λ_ _ _ _ _ h=>by simp[Qia]at h,λ_ _ _ _ _ _ h=>by simp[Qfv]at h⟩
 | n+1=>by
  have ih:=QcX n
  refine⟨QxR ih,Qxv ih,Qxw ih,λX Θ e f ok h=>?_,λX Θ e f ok h=>?_,λX Θ e f ok h=>?_,Qx2 ih⟩
  ·match e,h with
   | [],h=>simp only[Qfq]at h;cases h;exact QtN
   | [c],h=>simp only[Qfq]at h;exact QtA (ih.T X Θ c f ok h)
   | _::_::_,h=>simp only[Qfq]at h;cases h
  ·match e,h with
   | [],h=>simp only[Qba]at h;cases h;exact Qjq
   | e::es,h=>
    simp only[Qba]at h
    obtain⟨fa,fs,h1,h2,rfl⟩:=Qak h
    exact Qgi (ih.E X Θ e fa ok h1) (ih.A X Θ es fs ok h2) (QaI h1 es X.env)
  ·match e,h with
   | none,h=>simp only[Qia]at h;cases h;exact Quj
   | some e,h=>
    simp only[Qia]at h
    obtain⟨fa,h1,rfl⟩:=Zf.mp h
    exact Qvo (ih.E X Θ e fa ok h1)
section
variable {X:Cx}{st:Stmt}{sts:List Stmt}{e:Expr}{fa:DE}{f g:DS}{gc:DT}{pos:Pos}
noncomputable def QF:DS:=λ_=>none
theorem QtC:S1 X st QF:=λH0 A0=>QsY.mono λE σ H ⟨ρ,hs,F,o,rel,e,q⟩=>by cases e
theorem QgM{g:DT}{fb:DS}:∀{n:Nat}{ρ:En}{o:Out},Qa1 g fb n ρ=some o->Qa1 g fb (n+1) ρ=some o
 | 0,_,_,h=>by cases h
 | n+1,ρ,o,h=>by
  unfold Qa1 at h ⊢
  obtain⟨b,hb,h⟩:=bind1 h
  rw[hb]
  cases b with
  | false=>exact h
  | true=>
   rw[if_pos rfl]at h
   obtain⟨o1,ho,h⟩:=bind1 h
   rw[Za,if_pos rfl,ho]
   cases o1 with
   | nx ρ2=>exact QgM h
   | ct ρ2=>exact QgM h
   | bk ρ2=>exact h
   | rt d fr=>exact h
theorem Qmw{g:DT}{fb:DS}{ρ:En}{o:Out}{n m:Nat}(h:Qa1 g fb n ρ=some o)(hm:n<=m):Qa1 g fb m ρ=some o:=by
 induction hm with
 | refl=>exact h
 | step _ ih=>exact QgM ih
open Classical in
noncomputable def Qck(g:DT)(fb:DS):DS:=λρ=>if h:∃n,(Qa1 g fb n ρ).isSome=true then Qa1 g fb h.choose ρ else none
theorem Qc5{g:DT}{fb:DS}{ρ:En}{o:Out}:Qck g fb ρ=some o↔∃n,Qa1 g fb n ρ=some o:=by
 unfold Qck
 constructor
 ·intro h
  split at h
  ·exact⟨_,h⟩
  ·cases h
 ·rintro⟨n,h⟩
  have hx:∃n,(Qa1 g fb n ρ).isSome=true:=⟨n,by rw[h];rfl⟩
  rw[dif_pos hx]
  obtain⟨o',ho'⟩:=ZbD.mp hx.choose_spec
  have h1:=Qmw h (Nat.le_max_left n hx.choose)
  have h2:=Qmw ho' (Nat.le_max_right n hx.choose)
  rw[h1]at h2
  rw[ho',← h2]
theorem QrF{c:Expr}{body:List Stmt}(hp:PassesOwn (model X.prog X.w) X.A X.env X.xe)(hc:ST X c gc)(hb:SS X body f):S1 X (.While c body [] pos) (Qck gc f):=λH0 A0 pins s σ H D I h=>by
 obtain⟨ρ,hs,F,o,rel,e,q⟩:=h
 obtain⟨n,hn⟩:=Qc5.mp e
 exact Qty (n:=n) hp hc hb H0 A0 pins s σ H D I ⟨ρ,hs,F,o,rel,hn,q⟩
theorem QqF(g:DT)(fb:DS)(ρ:En):Qck g fb ρ=(g ρ).bind λb=>if b=true then(fb ρ).bind λo=>match o with
  | .nx ρ2=>Qck g fb ρ2
  | .ct ρ2=>Qck g fb ρ2
  | .bk ρ2=>some (.nx ρ2)
  | .rt d fr=>some (.rt d fr)
  else some (.nx ρ):=by
 apply Option.ext
 intro o
 rw[Qc5]
 constructor
 ·rintro⟨n,h⟩
  cases n with
  | zero=>cases h
  | succ n=>
   unfold Qa1 at h
   obtain⟨b,hb,h⟩:=bind1 h
   rw[hb]
   cases b with
   | false=>exact h
   | true=>
    rw[if_pos rfl]at h
    obtain⟨o1,ho,h⟩:=bind1 h
    rw[Za,if_pos rfl,ho]
    cases o1 with
    | nx ρ2=>exact Qc5.mpr ⟨n,h⟩
    | ct ρ2=>exact Qc5.mpr ⟨n,h⟩
    | bk ρ2=>exact h
    | rt d fr=>exact h
 ·intro h
  obtain⟨b,hb,h⟩:=bind1 h
  cases b with
  | false=>exact⟨1,by unfold Qa1;rw[hb];exact h⟩
  | true=>
   rw[if_pos rfl]at h
   obtain⟨o1,ho,h⟩:=bind1 h
   cases o1 with
   | nx ρ2=>
    obtain⟨n,hn⟩:=Qc5.mp h
    exact⟨n+1,by unfold Qa1;rw[hb];rw[Za,if_pos rfl,ho];exact hn⟩
   | ct ρ2=>
    obtain⟨n,hn⟩:=Qc5.mp h
    exact⟨n+1,by unfold Qa1;rw[hb];rw[Za,if_pos rfl,ho];exact hn⟩
   | bk ρ2=>exact⟨1,by unfold Qa1;rw[hb];rw[Za,if_pos rfl,ho];exact h⟩
   | rt d fr=>exact⟨1,by unfold Qa1;rw[hb];rw[Za,if_pos rfl,ho];exact h⟩
noncomputable def QeS(t:Tg)(fa:DE):DS:=λρ=>(fa ρ).bind λr=>(QbO t r.d (Qau r.norm.M ρ)).map .nx
theorem Qua{tg:Expr}{t:Tg}(he:SE X e fa)(hg:SG X tg t)(hs:swapsWithSole [tg] e pos.line X.env=pure false)(hw:swappedStores [tg] e X.env=pure none)(h1:(assignEach [tg] X.env).map (·.2)=[assign tg X.env]):
  S1 X (.Assign [tg] e pos) (QeS t fa):=λH0 A0=>(QdX (he H0 A0) (hg H0 A0) hs hw h1).mono λE σ H ⟨ρ,hs,F,o,rel,e,q⟩=>by
 obtain⟨r,e1,e⟩:=bind1 e
 obtain⟨ρ',e2,rfl⟩:=Zf.mp e
 refine⟨ρ,hs,F,r,rel,e1,λv H' G p=>?_⟩
 have p':=p.norm
 have rp:=p'.rp
 rw[r.QcB]at rp
 exact⟨Qau r.norm.M ρ,hs,F,r.d,G,ρ',(rel.ext p'.same).weak (QaK _ _),rp,Shr.of rel p'.src,e2,λσ' F' rel' _ _=>q _ _ F' rel'⟩
theorem Qu5{tg iter elt:Expr}{ifs:List Expr}{scope:Scope}{N':List Str}{fi:DI}{t:Tg}{cap:List (Option Nat)}{ft:DT}{fe:DE}{i:Nat}{x:Str}{pos' spos:Pos}(hN:X.N.Nodup)(hx1:X.N[i]? =some x)(hx:Loc X.env.scope x)(hf:X.fn x=true∨X.env.scope.names.lookup x=some .local)
  (hcalm:X.calm=true) (S:Qez X N' scope) (hi:SI X tg iter fi) (hcap:Qmd X N' scope cap t.slots)
  (hin:∀cl C fp s3 H3,SG (cxc X N' scope cl C fp s3 H3) tg t/\Qns (cxc X N' scope cl C fp s3 H3) ifs ft/\SE (cxc X N' scope cl C fp s3 H3) elt fe) (hs:∀x,foldedSetIterable iter X.env x=pure x):
  S1 X (.Assign [.Name x pos'] (.ListComp elt [⟨tg,iter,ifs,0⟩] scope pos) spos) (Qu i (QO fi t cap ft fe)):=
 Qmt λH0 A0=>(Qvh hN hx1 hx hf hcalm S (hi H0 A0) (λcl C fp s3 H3=>⟨(hin cl C fp s3 H3).1 _ _,(hin cl C fp s3 H3).2.1 _ _,(hin cl C fp s3 H3).2.2 _ _⟩) hs).mono λE σ H h=>Qlj hcap h
end
end HS
namespace HS
open PySem PySem.Spec L2 PyProof.Rows
section
variable {X:Cx}{a b e:Expr}{fa fb:DE}{pf:DP}{x:Nat}{pos apos:Pos}
theorem Qoy{X:Cx}{H:Hp}{ds:List D}{w:V}{Gm:List Addr}(h:Rp X.K H (.lst ds) w Gm):tyV X.K "list" w H:=by
 obtain⟨l,ws,L,rfl,hl,_⟩:=h.lst_inv
 exact .inl ⟨rfl,ws,Qah hl⟩
theorem Qab.unit{K:PySem.W.Frag}{ρ:En}{F:Nat->List Addr}{H:Hp}:Qab K ρ F H H ⟨.non,true,[]⟩ .non []:= .flat (QN.refl _) .QjG
noncomputable def Qk3(x:Nat)(pf:DP):DS:=λρ=>match ρ[x]? with
 | some (some (d,true))=>(pf ρ).bind λis=>match Qax d is with
  | some (.lst _)=>some (.nx (ρ.set x (some (Qay is d (.lst []),true))))
  | _=>none
 | _=>none
theorem QtD{H0:Hp}{A0:List Addr}{E:Ends}{σ:L2.St}{H:Hp}:tS X.K H0 A0 (Qk3 x pf) E σ H->QjR (Qse X.K "list" Qqe (tP X.K H0 A0 x pf)) E σ H:=λ⟨ρ,hs,F,o,rel,e,q⟩=>by
 unfold Qk3 at e
 split at e
 ·rename_i d hx
  obtain⟨is,e2,e⟩:=bind1 e
  split at e
  ·rename_i ds hp
   cases e
   refine⟨ρ,hs,F,d,true,is,.lst ds,rel,hx,e2,hp,λv0 w H2 Gm s2 hv0 fo=>⟨Qoy fo.rp,?_⟩⟩
   obtain⟨l,vsm,Gp,rfl,g1,g2,g3,g4,g5,g6,g7⟩:=(rel.ext s2).write .unit rfl Zaq hx (by simp) hv0 fo
   refine⟨l,vsm,rfl,rfl,g1,?_⟩
   obtain⟨F',rel'⟩:=g7 [] [] [] (by simp[Rps]) (ZS _) rfl (λa=>by simp)
   exact q _ _ F' rel'
  ·cases e
 ·cases e
theorem Rps.Qxg{K:PySem.W.Frag}{H:Hp}:∀{ds:List D}{vs:List V}{F:List Addr},Rps K H ds vs F->∃G,Rps K H ds.reverse vs.reverse G/\G.length=F.length/\∀a,G.count a=F.count a
 | [],_,_,h=>by simp only[Rps]at h;rw[h.1,h.2];exact⟨[],by simp[Rps],rfl,λ_=>rfl⟩
 | d::ds,_,_,h=>by
  simp only[Rps]at h
  obtain⟨v,ws,F1,F2,rfl,rfl,r,q⟩:=h
  obtain⟨G,h1,h2,h3⟩:=Rps.Qxg q
  refine⟨G++F1,?_,by simp only[Zt];omega,λa=>by have:=h3 a;simp only[Zag];omega⟩
  rw[Zay,Zay]
  refine h1.append ?_
  simp only[Rps]
  exact⟨v,[],F1,[],rfl,by simp,r,rfl,rfl⟩
theorem Qou:∀(ds:List D),nls ds.reverse=nls ds
 | []=>rfl
 | d::ds=>by rw[Zay,Qde,Qou ds];simp only[nls];omega
noncomputable def Qk1(x:Nat)(pf:DP):DS:=λρ=>match ρ[x]? with
 | some (some (d,true))=>(pf ρ).bind λis=>match Qax d is with
  | some (.lst ds)=>some (.nx (ρ.set x (some (Qay is d (.lst ds.reverse),true))))
  | _=>none
 | _=>none
theorem Qs1{H0:Hp}{A0:List Addr}{E:Ends}{σ:L2.St}{H:Hp}:tS X.K H0 A0 (Qk1 x pf) E σ H->QjR (Qse X.K "list" QnV (tP X.K H0 A0 x pf)) E σ H:=λ⟨ρ,hs,F,o,rel,e,q⟩=>by
 unfold Qk1 at e
 split at e
 ·rename_i d hx
  obtain⟨is,e2,e⟩:=bind1 e
  split at e
  ·rename_i ds hp
   cases e
   refine⟨ρ,hs,F,d,true,is,.lst ds,rel,hx,e2,hp,λv0 w H2 Gm s2 hv0 fo=>⟨Qoy fo.rp,?_⟩⟩
   obtain⟨l,vsm,Gp,rfl,g1,g2,g3,g4,g5,g6,g7⟩:=(rel.ext s2).write .unit rfl Zaq hx (by simp) hv0 fo
   refine⟨l,vsm,rfl,rfl,g1,?_⟩
   obtain⟨G,h1,h2,h3⟩:=(g2.upd g1 g4).Qxg
   obtain⟨F',rel'⟩:=g7 ds.reverse vsm.reverse G h1 (by rw[List.length_reverse];exact g6) (by rw[Qou,h2,g3]) (λa=>by rw[h3 a];omega)
   exact q _ _ F' rel'
  ·cases e
 ·cases e
end
noncomputable def Qgg:Expr->Bool
 | .ListComp .. =>false
 | .SetComp .. =>false
 | .DictComp .. =>false
 | _=>true
theorem Qcm{e:Expr}{t:Option Expr}{l:Nat}{env:Env}(h:Qgg e=true):swapsWith e t l env=pure false:=by
 cases e<;>first | rfl | cases h
noncomputable def Qru:Expr->Bool
 | .Tuple .. =>true
 | _=>false
noncomputable def Qdx(n:Nat)(Θ:Th)(e:Expr):Option (Nat×DP):=match n with
 | 0=>none
 | n+1=>match e with
  | .Name x _=>(Θ.slot x).map λi=>(i,Q2)
  | .Subscript a b _=>(Qdx n Θ a).bind λq=>(Qo n Θ b).map λfb=>(q.1,Qar q.2 fb)
  | _=>none
theorem Qi1:∀(n:Nat) (X:Cx) (Θ:Th) (e:Expr) (q:Nat×DP),Qas X Θ->Qdx n Θ e=some q->SPa X e q.1 q.2/\attributeBase e=λ_ env w=>w
 | 0,_,_,_,_,_,h=>by simp[Qdx]at h
 | n+1,X,Θ,e,q,ok,h=>by
  cases e with
  | Name x pos=>
   simp only[Qdx]at h
   obtain⟨i,hi,rfl⟩:=Zf.mp h
   exact⟨Qfc (Q6 ok.toCtxB hi),by funext a b c;rfl⟩
  | Subscript a b pos=>
   simp only[Qdx]at h
   obtain⟨q',fb,h1,h2,rfl⟩:=Qak h
   exact⟨Qgk (Qi1 n X Θ a q' ok h1).1 ((QcX n).E X Θ b fb ok h2) (QoE h2),by funext a b c;rfl⟩
  | _=>simp[Qdx]at h
noncomputable def Qk9:Expr->Bool
 | .Name .. =>true
 | .Subscript _ (.Slice ..) _=>false
 | .Subscript (.Call ..) _ _=>false
 | .Subscript .. =>true
 | _=>false
noncomputable def Quv:Expr->Bool
 | .Slice .. =>true
 | _=>false
noncomputable def QjQ(n:Nat)(Θ:Th)(o:Expr)(m:Str)(args:List Expr):Option DS:=match args with
  | []=>(Qdx n Θ o).bind λq=>if m= "clear" then some (Qk3 q.1 q.2)else
    if m= "reverse" then some (Qk1 q.1 q.2)else
    none
  | [e]=>if m= "append" then
     ((Qdx n Θ o).bind λq=>(Qo n Θ e).map λfa=>QcP q.1 q.2 fa)
    else
    none
  | _=>none
theorem Qr3{n:Nat}{X:Cx}{Θ:Th}{o:Expr}{m:Str}{args:List Expr}{f:DS}{apos cpos pos:Pos}(ok:Qas X Θ)(h:QjQ n Θ o m args=some f)(hl:(apos.endLine == cpos.line)=true):
  S1 X (.Expr (.Call (.Attribute o m apos) args [] cpos) pos) f:=by
 have base:∀{q:Nat×DP},Qdx n Θ o=some q->SPa X o q.1 q.2/\attributeBase o m X.env (eval o X.env)=eval o X.env:=λ{q} h1=>by
  obtain⟨sp,ab⟩:=Qi1 n X Θ o _ ok h1
  exact⟨sp,by rw[ab]⟩
 have app:∀{e:Expr}{f:DS},m= "append" ->((Qdx n Θ o).bind λq=>(Qo n Θ e).map λfa=>QcP q.1 q.2 fa)=some f->S1 X (.Expr (.Call (.Attribute o m apos) [e] [] cpos) pos) f:=λ{e f} em h=>by
  obtain⟨q,fa,h1,h2,rfl⟩:=Qak h
  obtain⟨sp,hb⟩:=base h1
  subst em
  have he:=(QcX n).E X Θ e fa ok h2
  have st:=QaI h2 [] X.env
  have sa:∀H0 A0,PA X [e] (Qgx (tV X.K H0 A0 fa) Qnq):=λH0 A0=>QaB (he H0 A0) Qds st
  exact λH0 A0=>(Qh0 (QxU Zbi PySem.F.slot_list_append PySem.F.type_list_append Qlo (sp H0 A0) (sa H0 A0) hb (by rw[st];rfl) hl st rfl) rfl).mono λE σ H q=>Qsl q
 match args,h with
 | [],h=>
  unfold QjQ at h
  dsimp only at h
  obtain⟨⟨x,pf⟩,h1,h⟩:=bind1 h
  obtain⟨sp,hb⟩:=base h1
  by_cases e:m= "clear"
  ·rw[if_pos e]at h;cases h;subst e
   exact λH0 A0=>(Qh0 (QrI Zbi PySem.F.slot_list_clear PySem.F.type_list_clear Qto (sp H0 A0) hb hl) rfl).mono λE σ H q=>QtD q
  rw[if_neg e]at h
  clear e
  by_cases e:m= "reverse"
  ·rw[if_pos e]at h;cases h;subst e
   exact λH0 A0=>(Qh0 (QrI Zbi PySem.F.slot_list_reverse PySem.F.type_list_reverse Qpv (sp H0 A0) hb hl) rfl).mono λE σ H q=>Qs1 q
  rw[if_neg e]at h
  cases h
 | [e],h=>
  unfold QjQ at h
  dsimp only at h
  by_cases em:m= "append"
  ·rw[if_pos em]at h
   exact app em h
  rw[if_neg em]at h
  clear em
  clear app
  cases h
 | _::_::_,h=>exact nomatch (show(none:Option DS)=some _ from h)
end HS
namespace HS
open PySem PySem.Spec L2 PyProof.Rows
noncomputable def QpB(x:Nat)(fy f1 g1 f2 g2:DE)(ρ:En):Option Out:=if x<ρ.length then(fy ρ).bind λry=>match ry.d with
 | .lst ds=>(g1 ρ).bind λr1=>(f1 ρ).bind λk1=>(g2 ρ).bind λr2=>(f2 ρ).bind λk2=>match k1.d,k2.d with
  | .int i1,.int i2=>(ixN ds.length i1).bind λj1=>(ixN ds.length i2).bind λj2=>some (.nx ((Qau (ry.M++(r1.M++r2.M)) ρ).set x (some (.lst ((ds.set j1 r1.d).set j2 r2.d),false))))
  | _,_=>none
 | _=>none else none
noncomputable def QiE(x:Nat)(fy f1 g1 f2 g2:DE):DS:=λρ=>QpB x fy f1 g1 f2 g2 (ρ.set x none)
section
variable {K:PySem.W.Frag}{H0 H H':Hp}{A0:List Addr}{hs:List (V×D×List Addr)}{ρ:En}{F:Nat->List Addr}{σ:L2.St}
theorem Rel.Qh5(rel:Rel K H0 A0 hs ρ F σ H){a:Addr}{zs ys:List V}(ha:H a=some (.lst zs))(h0:H0 a=none)(hn:∀(i:Nat) d b,ρ[i]? =some (some (d,b))->a∉F i)(hh:∀t∈hs,a∉t.2.2):Rel K H0 A0 hs ρ F σ (upd H a (.lst ys)) where
 len:=rel.len
 val:=λi d b e=>by
  obtain⟨v,h1,h2⟩:=rel.val i d b e
  exact⟨v,h1,h2.upd ha (hn i d b e)⟩
 own:=rel.own
 src:=rel.src
 held:=λt ht=>⟨(rel.held t ht).1.upd ha (hh t ht),(rel.held t ht).2⟩
 same:=λb o hb=>by
  have:b≠a:=λz=>by rw[z,h0]at hb;cases hb
  rw[QQ this]
  exact rel.same b o hb
theorem Rel.put(rel:Rel K H0 A0 hs ρ F σ H){i:Nat}{v:V}(hi:∀d b,ρ[i]? ≠some (some (d,b))):Rel K H0 A0 hs ρ F (σ.set i (some v)) H:=
 ⟨by simpa using rel.len,λj d b e=>by
  obtain⟨w,h1,h2⟩:=rel.val j d b e
  have hj:i≠j:=λz=>hi d b (z▸e)
  exact⟨w,by rw[Zb hj];exact h1,h2⟩,rel.own,rel.src,rel.held,rel.same⟩
theorem Src.more{M M':List Nat}{G:List Addr}(s:Src ρ F H M G)(h:∀i∈M,i∈M'):Src ρ F H M' G:=λa ha=>by
 rcases s a ha with z | ⟨i,d,b,e,m,w⟩
 ·exact .inl z
 ·exact .inr ⟨i,d,b,e,m,λhb=>h i (w hb)⟩
end
section
variable {X:Cx}{st1 st2 st3:Stmt}{sts:List Stmt}{x:Nat}{fy f1 g1 f2 g2:DE}{g:DS}
theorem QwE(p1:∀H0 A0,PS X st1 (QcW (λσ H Q=>tVA X.K H0 A0 (Qd fy Qg) σ H λxs H1=>∃p ys,xs=[.ref p]/\(SqL X.K H1 p ys∨SqT X.K H1 p ys)/\∀l,H1 l=none->Q (.ref l) (upd H1 l (.lst ys))) (Qdu x)))
  (p2:∀H0 A0,PS X st2 (QcW (tV X.K H0 A0 g1) (L2.QaP (Qdn x) (tV X.K H0 A0 f1) QeO))) (p3:∀H0 A0,PS X st3 (QcW (tV X.K H0 A0 g2) (L2.QaP (Qdn x) (tV X.K H0 A0 f2) QeO))) (h:SS X sts g):
  SS X (st1::st2::st3::sts) (Qf (QiE x fy f1 g1 f2 g2) g):=λH0 A0=>
 (QaX (p1 H0 A0) (QaX (p2 H0 A0) (QaX (p3 H0 A0) (h H0 A0)))).mono λE σ H ⟨ρ,hs,F,o,rel,e,q⟩=>by
 obtain⟨o1,e1,e⟩:=bind1 e
 unfold QiE QpB at e1
 split at e1
 case isFalse=>cases e1
 rename_i hx
 have hr0:∀d b,(ρ.set x none)[x]? ≠some (some (d,b)):=λd b z=>by
  rw[Ze (by simpa using hx)]at z
  cases z
 have rel0:=rel.weak (QcZ (ρ:=ρ) x)
 generalize ρ.set x none=ρ0 at *
 obtain⟨ry,ey,e1⟩:=bind1 e1
 split at e1
 case h_2=>cases e1
 rename_i ds hds
 obtain⟨r1,eg1,e1⟩:=bind1 e1
 obtain⟨k1,ef1,e1⟩:=bind1 e1
 obtain⟨r2,eg2,e1⟩:=bind1 e1
 obtain⟨k2,ef2,e1⟩:=bind1 e1
 split at e1
 case h_2=>cases e1
 rename_i i1 i2 hk1 hk2
 obtain⟨j1,ej1,e1⟩:=bind1 e1
 obtain⟨j2,ej2,e1⟩:=bind1 e1
 cases e1
 refine⟨ρ0,hs,F,⟨[ry.d],ry.fr && true,ry.M++[]⟩,rel0,by simp[Qd,Qg,ey],λvs H1 G q1=>?_⟩
 have rp:=q1.rp
 dsimp only at rp
 rw[hds]at rp
 obtain⟨v,rfl,rq⟩:=rp.one
 obtain⟨l,ws,L,rfl,hl,rl,zl,el⟩:=rq.lst_inv
 have memL:∀a∈L,a∈G:=λa ha=>by
  rcases el with rfl | rfl
  ·exact Zg _ ha
  ·exact ha
 refine⟨l,ws,rfl,.inl (Qah hl),λc hc=>?_⟩
 have relx:=rel0.ext q1.same
 have nfr:∀(i:Nat) d b,ρ0[i]? =some (some (d,b))->c∉F i:=λi d b ei hci=>by
  obtain⟨zs,z⟩:=relx.mem ei hci
  rw[hc]at z;cases z
 have nhs:∀t∈hs,c∉t.2.2:=λt ht hct=>by
  obtain⟨zs,z⟩:=(relx.held t ht).1.mem c hct
  rw[hc]at z;cases z
 have h0c:H0 c=none:=relx.same.free hc
 have nL:c∉L:=λz=>by
  obtain⟨zs,y⟩:=rl.mem c z
  rw[hc]at y;cases y
 have sU:QN H1 (upd H1 c (.lst ws)):=λb o eb=>by
  have:b≠c:=λz=>by rw[z,hc]at eb;cases eb
  rw[QQ this];exact eb
 have relA:=(relx.ext sU).put (i:=x) (v:= .ref c) hr0
 have hσ:(σ.set x (some (.ref c)))[x]? =some (some (.ref c)):=Ze (by rw[← rel0.len];exact hx)
 generalize hσ':σ.set x (some (V.ref c))=σ1 at relA hσ
 show QpL _ _ E (σ.set x (some (.ref c))) _
 rw[hσ']
 have hc2:upd H1 c (.lst ws) c=some (.lst ws):=Qai
 have rl2:=rl.same sU
 generalize upd H1 c (.lst ws)=H2 at relA hc2 rl2
 refine⟨ρ0,hs,F,r1,relA,eg1,λv1 H3 G1 q2=>⟨.ref c,hσ,ρ0,hs,F,k1,relA.ext q2.same,ef1,λu1 H4 Gi q3=>?_⟩⟩
 have hc4:=q3.same _ _ (q2.same _ _ hc2)
 have ru:=q3.rp
 rw[hk1]at ru
 refine⟨c,ws,i1,j1,rfl,ru.int_inv,hc4,by rw[← rl.length];exact ej1,?_⟩
 have nG1:c∉G1:=λz=>by
  rcases q2.src c z with y | ⟨i,d,b,ei,m,_⟩
  ·rw[hc2]at y;cases y
  ·exact nfr i d b ei m
 have hj1:=(Qb6 ej1).2.1
 obtain⟨G',m1,m2⟩:=Qkc hc4 ((rl2.same q2.same).same q3.same) nL nG1 (q2.rp.same q3.same) hj1
 have relB:=((relA.ext q2.same).ext q3.same).Qh5 (ys:=ws.set j1 v1) hc4 h0c nfr nhs
 have hc5:upd H4 c (.lst (ws.set j1 v1)) c=some (.lst (ws.set j1 v1)):=Qai
 generalize upd H4 c (.lst (ws.set j1 v1))=H5 at relB hc5 m1
 refine⟨ρ0,hs,F,r2,relB,eg2,λv2 H6 G2 q4=>⟨.ref c,hσ,ρ0,hs,F,k2,relB.ext q4.same,ef2,λu2 H7 Gj q5=>?_⟩⟩
 have hc7:=q5.same _ _ (q4.same _ _ hc5)
 have rw2:=q5.rp
 rw[hk2]at rw2
 refine⟨c,ws.set j1 v1,i2,j2,rfl,rw2.int_inv,hc7,by rw[Zz,← rl.length];exact ej2,?_⟩
 have nG2:c∉G2:=λz=>by
  rcases q4.src c z with y | ⟨i,d,b,ei,m,_⟩
  ·rw[hc5]at y;cases y
  ·exact nfr i d b ei m
 have nG':c∉G':=λz=>(m2 c z).elim nL nG1
 have hj2:=(Qb6 ej2).2.1
 obtain⟨G'',n1,n2⟩:=Qkc hc7 ((m1.same q4.same).same q5.same) nG' nG2 (q4.rp.same q5.same) (by rw[Zz];exact hj2)
 have relC:=((relB.ext q4.same).ext q5.same).Qh5 (ys:=(ws.set j1 v1).set j2 v2) hc7 h0c nfr nhs
 have hc8:upd H7 c (.lst ((ws.set j1 v1).set j2 v2)) c=some (.lst ((ws.set j1 v1).set j2 v2)):=Qai
 generalize upd H7 c (.lst ((ws.set j1 v1).set j2 v2))=H8 at relC hc8 n1
 have sh0:=Shr.of rel0 (q1.src.more (M':=ry.M++(r1.M++r2.M)) λi hi=>by
  have hi:i∈ry.M++[]:=hi
  rw[Zbv]at hi
  exact Zh _ hi)
 have sh1:=Shr.of relA (q2.src.more (M':=ry.M++(r1.M++r2.M)) λi hi=>Zc _ (Zh _ hi))
 have sh2:=Shr.of relB (q4.src.more (M':=ry.M++(r1.M++r2.M)) λi hi=>Zc _ (Zc _ hi))
 have sh:Shr H0 A0 (Qau (ry.M++(r1.M++r2.M)) ρ0) F (c::G''):=λa ha=>by
  rcases Zm.mp ha with rfl | ha
  ·refine⟨.inl h0c,λi d ei hm=>?_⟩
   obtain⟨b',e',_⟩:=(QaK _ ρ0).2 i d true ei
   exact nfr i d b' e' hm
  ·rcases n2 a ha with z | z
   ·rcases m2 a z with y | y
    ·exact sh0 a (memL a y)
    ·exact sh1 a y
   ·exact sh2 a z
 have relD:=(relC.weak (QaK (ry.M++(r1.M++r2.M)) ρ0)).QkV (i:=x) (d:= .lst ((ds.set j1 r1.d).set j2 r2.d)) (v:= .ref c) (Rp.QdZ hc8 n1 (by rw[Zz,Zz];exact zl)) sh
 have hs1:σ1.set x (some (.ref c))=σ1:=by rw[← hσ',List.set_set]
 rw[hs1]at relD
 exact⟨_,hs,_,o,relD,e,q⟩
end
structure Swp where
 x:Str
 y:Expr
 i1:Expr
 e1:Expr
 i2:Expr
 e2:Expr
 r:List Stmt
noncomputable def aName:Stmt->Option (Str×Expr)
 | .Assign [.Name x _] e _=>some (x,e)
 | _=>none
noncomputable def QmQ:Stmt->Option (Str×Expr×Expr)
 | .Assign [.Subscript (.Name x _) i _] e _=>some (x,i,e)
 | _=>none
noncomputable def Qpx:Expr->Option (Str×Expr)
 | .Call (.Name f _) [y] [] _=>some (f,y)
 | _=>none
theorem Qlb{st:Stmt}{x:Str}{e:Expr}(h:aName st=some (x,e)):∃p q,st= .Assign [.Name x p] e q:=by
 unfold aName at h
 split at h
 ·cases h;exact⟨_,_,rfl⟩
 ·cases h
theorem QiF{st:Stmt}{x:Str}{i e:Expr}(h:QmQ st=some (x,i,e)):∃a b c,st= .Assign [.Subscript (.Name x a) i b] e c:=by
 unfold QmQ at h
 split at h
 ·cases h;exact⟨_,_,_,rfl⟩
 ·cases h
theorem QqQ{e:Expr}{f:Str}{y:Expr}(h:Qpx e=some (f,y)):∃p q,e= .Call (.Name f p) [y] [] q:=by
 unfold Qpx at h
 split at h
 ·cases h;exact⟨_,_,rfl⟩
 ·cases h
noncomputable def QpY:List Stmt->Option Swp
 | a::b::c::r=>(aName a).bind λz=>(Qpx z.2).bind λy=>(QmQ b).bind λu=>(QmQ c).bind λv=>if y.1= "list" /\u.1=z.1/\v.1=z.1 then some ⟨z.1,y.2,u.2.1,u.2.2,v.2.1,v.2.2,r⟩else none
 | _=>none
theorem Qsp{sts:List Stmt}{q:Swp}(h:QpY sts=some q):∃p1 p2 p3 p4 a1 a2 a3 b1 b2 b3,sts= .Assign [.Name q.x p1] (.Call (.Name "list" p2) [q.y] [] p3) p4:: .Assign [.Subscript (.Name q.x a1) q.i1 a2] q.e1 a3:: .Assign [.Subscript (.Name q.x b1) q.i2 b2] q.e2 b3::q.r:=by
 refine(λh:∀G:Prop,(_->G)->G=>h _ id) λGG kk=>?_
 unfold QpY at h
 split at h
 ·rename_i a b c r
  obtain⟨z,h1,h⟩:=bind1 h
  obtain⟨y,h2,h⟩:=bind1 h
  obtain⟨u,h3,h⟩:=bind1 h
  obtain⟨v,h4,h⟩:=bind1 h
  split at h
  ·rename_i hc
   obtain⟨g1,g2,g3⟩:=hc
   obtain⟨p1,p4,e1⟩:=Qlb h1
   obtain⟨p2,p3,e2⟩:=QqQ h2
   obtain⟨a1,a2,a3,e3⟩:=QiF h3
   obtain⟨b1,b2,b3,e4⟩:=QiF h4
   have h:=Option.some.inj h
   subst h
   exact kk ⟨p1,p2,p3,p4,a1,a2,a3,b1,b2,b3,by rw[e1,e2,e3,e4,g1,g2,g3]⟩
  ·cases h
 ·cases h
end HS
namespace HS
open PySem PySem.Spec L2 PyProof.Rows
noncomputable def QhA(r:R):Bool:=r.norm.fr && r.norm.M.isEmpty
noncomputable def Qnc(t b ln:Nat)(ts bs:List D)(i k:Int)(j1 j2 l1 l2:Nat)(fi fk g1 g2 g3 g4:DE)(ρ ρ1:En):Option Out:=
 (fi ρ1).bind λri=>(fk ρ1).bind λrk=>(g1 ρ1).bind λr1=>(g2 ρ1).bind λr2=>(g3 ρ1).bind λr3=>(g4 ρ1).bind λr4=>match ri.d,rk.d with
  | .int i',.int k'=>if i'=i/\k'=k/\QhA r1=true/\QhA r2=true/\QhA r3=true/\QhA r4=true then
    some (.nx ((((ρ.set t none).set b none).set ln none).set t (some (.lst ((ts.set j1 r1.d).set j2 r2.d),true)) |>.set b (some (.lst ((bs.set l1 r3.d).set l2 r4.d),true))))else none
  | _,_=>none
noncomputable def Qjc(t b ln:Nat)(fi fk g1 g2 g3 g4:DE):DS:=λρ=>match ρ[t]?,ρ[b]? with
 | some (some (.lst ts,true)),some (some (.lst bs,true))=>if t≠b/\ln≠t/\ln≠b/\ln<ρ.length then
   (fi ρ).bind λri=>(fk ρ).bind λrk=>match ri.d,rk.d with
    | .int i,.int k=>(ixN ts.length i).bind λj1=>(ixN ts.length k).bind λj2=>(ixN bs.length i).bind λl1=>(ixN bs.length k).bind λl2=>
      (ts[j1]?).bind λt1=>(ts[j2]?).bind λt2=>(bs[l1]?).bind λb1=>(bs[l2]?).bind λb2=>
       Qnc t b ln ts bs i k j1 j2 l1 l2 fi fk g1 g2 g3 g4 ρ ((((ρ.set t none).set b none).set ln none).set ln (some (.tup [t1,t2,b1,b2],(D.tup [t1,t2,b1,b2]).flat)))
    | _,_=>none
   else none
 | _,_=>none
theorem QsR{r:R}(h:QhA r=true):r.norm.fr=true/\r.norm.M=[]:=by
 unfold QhA at h
 simp only[Zj,List.isEmpty_iff]at h
 exact h
structure Spn (K:PySem.W.Frag) (H0 H:Hp) (hs:List (V×D×List Addr)) (ρ:En) (F:Nat->List Addr) (a:Addr) (ds:List D) (ws:List V) (G:List Addr):Prop where
 at':H a=some (.lst ws)
 rp:Rps K H ds ws G
 len:G.length=nls ds
 na:a∉G
 nd:G.Nodup
 h0:∀c,c=a∨c∈G->H0 c=none
 out:∀(i:Nat) d b,ρ[i]? =some (some (d,b))->∀c,c=a∨c∈G->c∉F i
 hld:∀t∈hs,∀c,c=a∨c∈G->c∉t.2.2
 sz:ds.length<=sizeLine
section
variable {K:PySem.W.Frag}{H0 H H':Hp}{A0:List Addr}{hs:List (V×D×List Addr)}{ρ:En}{F:Nat->List Addr}{σ:L2.St}{a:Addr}{ds:List D}{ws:List V}{G:List Addr}
theorem Spn.mem(s:Spn K H0 H hs ρ F a ds ws G){c:Addr}(h:c=a∨c∈G):∃vs,H c=some (.lst vs):=by
 rcases h with rfl | h
 ·exact⟨ws,s.at'⟩
 ·exact s.rp.mem c h
theorem Spn.same(s:Spn K H0 H hs ρ F a ds ws G)(e:QN H H'):Spn K H0 H' hs ρ F a ds ws G:=⟨e _ _ s.at',s.rp.same e,s.len,s.na,s.nd,s.h0,s.out,s.hld,s.sz⟩
theorem Spn.Qo3(s:Spn K H0 H hs ρ F a ds ws G){p:Addr}{zs ys:List V}(hp:H p=some (.lst zs))(hn:¬(p=a∨p∈G)):Spn K H0 (upd H p (.lst ys)) hs ρ F a ds ws G:=
 ⟨by rw[QQ λz=>hn (.inl z.symm)];exact s.at',s.rp.upd hp λz=>hn (.inr z),s.len,s.na,s.nd,s.h0,s.out,s.hld,s.sz⟩
theorem Spn.put(s:Spn K H0 H hs ρ F a ds ws G){ρ1:En}{F1:Nat->List Addr}(rel0:Rel K H0 A0 hs ρ F σ H)(rel:Rel K H0 A0 hs ρ1 F1 σ H){r:R}{v:V}{Gn:List Addr}(p:Qab K ρ1 F1 H H' r v Gn)(ho:QhA r=true){j:Nat}(hj:j<ds.length)(h1:∀(i:Nat) d b,ρ1[i]? =some (some (d,b))->a∉F1 i):
  ∃G',Spn K H0 (upd H' a (.lst (ws.set j v))) hs ρ F a (ds.set j r.d) (ws.set j v) G'/\Rel K H0 A0 hs ρ1 F1 σ (upd H' a (.lst (ws.set j v)))/\Rel K H0 A0 hs ρ F σ (upd H' a (.lst (ws.set j v)))/\∀c∈G',c∈G∨H c=none:=by
 have p':=p.norm
 obtain⟨f1,f2⟩:=QsR ho
 have cn:=p'.cnt f1
 rw[f2]at cn
 have hnl:=cn.2
 rw[r.QcB]at hnl
 have hrp:=p'.rp
 rw[r.QcB]at hrp
 have hcn:∀c,Gn.count c<=nw H c:=λc=>by have:=cn.1 c;simpa using this
 have gN:∀c∈Gn,H c=none:=λc hc=>by
  have h2:=hcn c
  have h3:0<Gn.count c:=Zaa.mpr hc
  cases q:H c with
  | none=>rfl
  | some o=>rw[Qdd q]at h2;omega
 have aN:a∉Gn:=λz=>by have:=gN a z;rw[s.at']at this;cases this
 obtain⟨G',m1,m2,m3⟩:=set_mk (p'.same _ _ s.at') (s.rp.same p'.same) s.len s.na aN hrp hnl hj
 have mem:∀c∈G',c∈G∨c∈Gn:=λc hc=>by
  have h2:=m3 c
  have h3:0<G'.count c:=Zaa.mpr hc
  by_cases z:c∈G
  ·exact .inl z
  ·rw[ZP.mpr z]at h2
   exact .inr (Zaa.mp (by omega))
 have relE:=rel.ext p'.same
 have relE0:=rel0.ext p'.same
 have a0:=s.h0 a (.inl rfl)
 have nfr:∀(i:Nat) d b,ρ[i]? =some (some (d,b))->a∉F i:=λi d b e=>s.out i d b e a (.inl rfl)
 refine⟨G',⟨Qai,m1,m2,λz=>(mem a z).elim s.na aN,Zah.mpr λc=>?_,λc hc=>?_,λi d b e c hc=>?_,λt ht c hc=>?_,by rw[Zz];exact s.sz⟩,?_,?_,λc hc=>(mem c hc).imp_right (gN c)⟩
 ·have h2:=m3 c
  have h3:=Zah.mp s.nd c
  have h4:=hcn c
  by_cases z:c∈G
  ·obtain⟨vs,q⟩:=s.mem (.inr z)
   rw[Qdd q]at h4;omega
  ·rw[ZP.mpr z]at h2
   have:nw H c<=1:=by unfold nw;split<;>decide
   omega
 ·rcases hc with rfl | hc
  ·exact a0
  ·rcases mem c hc with z | z
   ·exact s.h0 c (.inr z)
   ·exact rel.same.free (gN c z)
 ·rcases hc with rfl | hc
  ·exact nfr i d b e
  ·rcases mem c hc with z | z
   ·exact s.out i d b e c (.inr z)
   ·intro hm
    obtain⟨vs,q⟩:=rel0.mem e hm
    rw[gN c z]at q;cases q
 ·rcases hc with rfl | hc
  ·exact s.hld t ht _ (.inl rfl)
  ·rcases mem c hc with z | z
   ·exact s.hld t ht c (.inr z)
   ·intro hm
    obtain⟨vs,q⟩:=(rel.held t ht).1.mem c hm
    rw[gN c z]at q;cases q
 ·exact relE.Qh5 (p'.same _ _ s.at') a0 h1 λt ht=>s.hld t ht a (.inl rfl)
 ·exact relE0.Qh5 (p'.same _ _ s.at') a0 nfr λt ht=>s.hld t ht a (.inl rfl)
theorem Spn.back(s:Spn K H0 H hs ρ F a ds ws G)(rel:Rel K H0 A0 hs ρ F σ H){x:Nat}(hx:σ[x]? =some (some (.ref a)))(hn:∀d b,ρ[x]? ≠some (some (d,b))):Rel K H0 A0 hs (ρ.set x (some (.lst ds,true))) (λj=>if j=x then a::G else F j) σ H:=by
 have lt:∀{z:Option (D×Bool)}{y:D×Bool},(ρ.set x z)[x]? =some (some y)->x<ρ.length:=λ{z y} e=>by
  by_cases hl:x<ρ.length
  ·exact hl
  ·rw[Zs (by simp;omega)]at e;cases e
 refine⟨by simp[rel.len],λj d b e=>?_,λj d e=>?_,λj d b e c hc=>?_,rel.held,rel.same⟩
 ·by_cases hj:j=x
  ·subst hj
   rw[Ze (lt e)]at e
   cases e
   exact⟨_,hx,by rw[if_pos rfl];exact Rp.QdZ s.at' s.rp s.sz⟩
  ·rw[Zb (Ne.symm hj)]at e
   obtain⟨w,h1,h2⟩:=rel.val j d b e
   exact⟨w,h1,by rw[if_neg hj];exact h2⟩
 ·by_cases hj:j=x
  ·subst hj
   rw[Ze (lt e)]at e
   cases e
   rw[if_pos rfl]
   refine⟨by simp only[ZE,D.nl,s.len],Zan.mpr ⟨s.na,s.nd⟩,λc hc=>s.h0 c (Zm.mp hc),λk d' b hk ek c hc=>?_,λt ht c hc=>s.hld t ht c (Zm.mp hc)⟩
   rw[Zb (Ne.symm hk)]at ek
   rw[if_neg hk]
   exact s.out k d' b ek c (Zm.mp hc)
  ·rw[Zb (Ne.symm hj)]at e
   obtain⟨h1,h2,h3,h4,h5⟩:=rel.own j d e
   rw[if_neg hj]
   refine⟨h1,h2,h3,λk d' b hk ek c hc=>?_,h5⟩
   by_cases hkx:k=x
   ·subst hkx
    rw[if_pos rfl]
    exact λhm=>s.out j d true e c (Zm.mp hm) hc
   ·rw[Zb (Ne.symm hkx)]at ek
    rw[if_neg hkx]
    exact h4 k d' b hk ek c hc
 ·by_cases hj:j=x
  ·subst hj
   rw[if_pos rfl]at hc
   exact .inl (s.h0 c (Zm.mp hc))
  ·rw[Zb (Ne.symm hj)]at e
   rw[if_neg hj]at hc
   exact rel.src j d b e c hc
theorem Spn.weak(s:Spn K H0 H hs ρ F a ds ws G){ρ':En}{F':Nat->List Addr}(h:∀(i:Nat) d b,ρ'[i]? =some (some (d,b))->∀c,c=a∨c∈G->c∉F' i):Spn K H0 H hs ρ' F' a ds ws G:=⟨s.at',s.rp,s.len,s.na,s.nd,s.h0,h,s.hld,s.sz⟩
theorem Spn.of(rel:Rel K H0 A0 hs ρ F σ H){x:Nat}(hx:ρ[x]? =some (some (.lst ds,true))):∃a ws G,σ[x]? =some (some (.ref a))/\F x=a::G/\Spn K H0 H hs (ρ.set x none) F a ds ws G:=by
 obtain⟨v,h1,h2⟩:=rel.val x _ _ hx
 obtain⟨ol,on,o0,oap,oh⟩:=rel.own x _ hx
 simp only[Rp]at h2
 obtain⟨hz,a,vs,rfl,⟨G,eF,q,r⟩ | ⟨q,r⟩⟩:=h2
 ·rw[eF]at ol on o0 oap oh
  obtain⟨n1,n2⟩:=Zan.mp on
  refine⟨a,vs,G,h1,eF,q,r,by simp only[ZE,D.nl]at ol;omega,n1,n2,λc hc=>o0 c (Zm.mpr hc),λi d b e c hc=>?_,λt ht c hc=>oh t ht c (Zm.mpr hc),hz⟩
  obtain⟨b',e',_⟩:=(QcZ (ρ:=ρ) x).2 i d b e
  have hi:i≠x:=λz=>by
   subst z
   by_cases hl:i<ρ.length
   ·rw[Ze hl]at e;cases e
   ·rw[Zs (by simp;omega)]at e;cases e
  exact oap i d b' hi e' c (Zm.mpr hc)
 ·have:=r.Qal
  simp only[D.nl]at ol
  omega
theorem QeM{i:Int}{d':D}{v':V}{Gm:List Addr}(f:Focus K H [i] (.lst ds) (.ref a) (a::G) d' v' Gm)(hl:G.length=nls ds):(∀c∈Gm,c∈G)/\Rp K H d' v' Gm:=by
 obtain⟨es,a',vs,j',F1,G',F2,d2,v2,e1,h2,h3,h4,h5,h6,h7,h8,h9⟩:=f
 cases e1
 obtain⟨rfl,rfl,rfl,h9⟩:=h9
 refine⟨λc hc=>?_,h9⟩
 rcases h3 with⟨e,z,⟨eF,q⟩ | ⟨eF,q⟩⟩ | ⟨e,_⟩
 ·obtain⟨_,rfl⟩:=List.cons.inj eF
  exact Zc _ (Zh _ hc)
 ·exfalso
  have l1:=h4.Qal
  have l2:=h9.Qal
  have l3:=h5.Qal
  have ex:=congrArg List.length eF
  have e2:=congrArg nls (ZaS j' es)
  have hj:j'<es.length:=(Zd.mp h6).1
  have hd:es[j']=d':=(Zd.mp h6).2
  rw[Qde,Zaj hj,hd]at e2
  simp only[nls]at e2
  cases e
  simp only[ZE,Zt]at ex
  omega
 ·cases e
end
theorem get_none{ρ:En}{x:Nat}{p:D×Bool}(h:(ρ.set x none)[x]? =some (some p)):False:=by
 by_cases hl:x<ρ.length
 ·rw[Ze hl]at h;cases h
 ·rw[Zs (by rw[Zz];exact Nat.le_of_not_lt hl)]at h;cases h
theorem QfH{K:PySem.W.Frag}{H0 H:Hp}{A0:List Addr}{f:DE}{σ:L2.St}{Q:V->Hp->Prop}{ρ:En}{hs:List (V×D×List Addr)}{F:Nat->List Addr}{r:R}(rel:Rel K H0 A0 hs ρ F σ H)(e:f ρ=some r)(q:∀v H' G,Qab K ρ F H H' r v G->Q v H'):tV K H0 A0 f σ H Q:=⟨ρ,hs,F,r,rel,e,q⟩
theorem Qmg{K:PySem.W.Frag}{H0 H:Hp}{A0:List Addr}{x:Nat}{pf:DP}{σ:L2.St}{Q:V->Hp->Prop}{ρ:En}{hs:List (V×D×List Addr)}{F:Nat->List Addr}{d:D}{b:Bool}{is:List Int}{dm:D}(rel:Rel K H0 A0 hs ρ F σ H)(hx:ρ[x]? =some (some (d,b)))(hp:pf ρ=some is)(hd:Qax d is=some dm)(q:∀v0 v H' Gm,QN H H'->σ[x]? =some (some v0)->Focus K H' is d v0 (F x) dm v Gm->Q v H'):tP K H0 A0 x pf σ H Q:=⟨ρ,hs,F,d,b,is,dm,rel,hx,hp,hd,q⟩
section
variable {X:Cx}{st0 st1 st2 st3 st4:Stmt}{sts:List Stmt}{t b ln:Nat}{fi fk g1 g2 g3 g4:DE}{g:DS}
theorem Qwp(p0:∀H0 A0,PS X st0 (QcW (Qv3 (Qgx (tP X.K H0 A0 t (Qar Q2 fi)) (Qgx (tP X.K H0 A0 t (Qar Q2 fk)) (Qgx (tP X.K H0 A0 b (Qar Q2 fi)) (Qgx (tP X.K H0 A0 b (Qar Q2 fk)) Qnq))))) (Qdu ln)))
  (p1:∀H0 A0,PS X st1 (QcW (tV X.K H0 A0 g1) (L2.QaP (Qdn t) (tV X.K H0 A0 fi) QeO))) (p2:∀H0 A0,PS X st2 (QcW (tV X.K H0 A0 g2) (L2.QaP (Qdn t) (tV X.K H0 A0 fk) QeO)))
  (p3:∀H0 A0,PS X st3 (QcW (tV X.K H0 A0 g3) (L2.QaP (Qdn b) (tV X.K H0 A0 fi) QeO))) (p4:∀H0 A0,PS X st4 (QcW (tV X.K H0 A0 g4) (L2.QaP (Qdn b) (tV X.K H0 A0 fk) QeO))) (h:SS X sts g):
  SS X (st0::st1::st2::st3::st4::sts) (Qf (Qjc t b ln fi fk g1 g2 g3 g4) g):=λH0 A0=>
 (QaX (p0 H0 A0) (QaX (p1 H0 A0) (QaX (p2 H0 A0) (QaX (p3 H0 A0) (QaX (p4 H0 A0) (h H0 A0)))))).mono λE σ H ⟨ρ,hs,F,o,rel,e,q⟩=>by
 refine(λh:∀G:Prop,(_->G)->G=>h _ id) λGG kk=>?_
 obtain⟨o1,e1,e⟩:=bind1 e
 unfold Qjc at e1
 split at e1
 case h_2=>cases e1
 rename_i ts bs ht hb
 split at e1
 case isFalse=>cases e1
 rename_i hc
 obtain⟨htb,hlt,hlb,hll⟩:=hc
 obtain⟨ri,ei,e1⟩:=bind1 e1
 obtain⟨rk,ek,e1⟩:=bind1 e1
 split at e1
 case h_2=>cases e1
 rename_i i k hi hk
 obtain⟨j1,x1,e1⟩:=bind1 e1
 obtain⟨j2,x2,e1⟩:=bind1 e1
 obtain⟨l1,x3,e1⟩:=bind1 e1
 obtain⟨l2,x4,e1⟩:=bind1 e1
 obtain⟨t1,y1,e1⟩:=bind1 e1
 obtain⟨t2,y2,e1⟩:=bind1 e1
 obtain⟨b1,y3,e1⟩:=bind1 e1
 obtain⟨b2,y4,e1⟩:=bind1 e1
 unfold Qnc at e1
 obtain⟨ri',ei',e1⟩:=bind1 e1
 obtain⟨rk',ek',e1⟩:=bind1 e1
 obtain⟨q1,c1,e1⟩:=bind1 e1
 obtain⟨q2,c2,e1⟩:=bind1 e1
 obtain⟨q3,c3,e1⟩:=bind1 e1
 obtain⟨q4,c4,eE⟩:=bind1 e1
 clear e1
 split at eE
 case h_2=>cases eE
 rename_i i' k' hi' hk'
 split at eE
 case isFalse=>cases eE
 rename_i hcc
 obtain⟨rfl,rfl,w1',w2',w3',w4'⟩:=hcc
 have eE:=Option.some.inj eE
 subst eE
 obtain⟨a,ws,Gt,st,Ft,sp⟩:=Spn.of rel ht
 obtain⟨a',ws',Gb,sb,Fb,sp'⟩:=Spn.of rel hb
 have pf:∀{f:DE}{r:HS.R}{z:Int},f ρ=some r->r.d= .int z->Qar Q2 f ρ=some [z]:=λ{f r z} h1 h2=>by
  unfold Qar Q2
  rw[Za,h1,Za,h2];rfl
 have dp:∀{zs:List D}{z:Int}{j:Nat}{d:D},ixN zs.length z=some j->zs[j]? =some d->Qax (.lst zs) [z]=some d:=λ{zs z j d} h1 h2=>by
  unfold Qax
  simp only[D.items,Za]
  unfold atI
  rw[h1,Za,h2];rfl
 refine kk ?_
 refine Qmg (rel) ht (pf ei hi) (dp x1 y1) λv0 v1 H1 M1 s1 hv0 f1=>?_
 rw[Option.some.inj (Option.some.inj (hv0.symm.trans st))]at f1
 refine Qmg (rel.ext s1) ht (pf ek hk) (dp x2 y2) λv0 v2 H2 M2 s2 hv0 f2=>?_
 rw[Option.some.inj (Option.some.inj (hv0.symm.trans st))]at f2
 refine Qmg ((rel.ext s1).ext s2) hb (pf ei hi) (dp x3 y3) λv0 v3 H3 M3 s3 hv0 f3=>?_
 rw[Option.some.inj (Option.some.inj (hv0.symm.trans sb))]at f3
 refine Qmg (((rel.ext s1).ext s2).ext s3) hb (pf ek hk) (dp x4 y4) λv0 v4 H4 M4 s4 hv0 f4=>?_
 rw[Option.some.inj (Option.some.inj (hv0.symm.trans sb))]at f4
 refine⟨Qd2 (by simp),λc hcn=>?_⟩
 have sU:QN H4 (upd H4 c (.tup [v1,v2,v3,v4])):=Qa8 hcn
 have hct:upd H4 c (.tup [v1,v2,v3,v4]) c=some (.tup [v1,v2,v3,v4]):=Qai
 have s14:QN H H4:=((s1.trans s2).trans s3).trans s4
 have f1':=f1.same (((s2.trans s3).trans s4).trans sU)
 have f2':=f2.same ((s3.trans s4).trans sU)
 have f3':=f3.same (s4.trans sU)
 have f4':=f4.same sU
 have relx:=rel.ext (s14.trans sU)
 have sp:=sp.same (s14.trans sU)
 have sp':=sp'.same (s14.trans sU)
 generalize upd H4 c (.tup [v1,v2,v3,v4])=H5 at f1' f2' f3' f4' relx sp sp' hct
 rw[Ft]at f1' f2'
 rw[Fb]at f3' f4'
 refine(λh:∀G:Prop,(_->G)->G=>h _ id) λGG kk=>?_
 obtain⟨m1,r1⟩:=QeM f1' sp.len
 obtain⟨m2,r2⟩:=QeM f2' sp.len
 obtain⟨m3,r3⟩:=QeM f3' sp'.len
 obtain⟨m4,r4⟩:=QeM f4' sp'.len
 refine kk ?_
 have rT:Rp X.K H5 (.tup [t1,t2,b1,b2]) (.ref c) (M1++(M2++(M3++(M4++[])))):=by
  refine Rp.Qgb hct ?_
  simp only[Rps]
  exact⟨v1,_,M1,_,rfl,rfl,r1,v2,_,M2,_,rfl,rfl,r2,v3,_,M3,_,rfl,rfl,r3,v4,_,M4,_,rfl,rfl,r4,rfl,rfl⟩
 have hM:∀z∈M1++(M2++(M3++(M4++[]))),z∈Gt∨z∈Gb:=λz hz=>by
  simp only[ZJ,ZbF,or_false]at hz
  rcases hz with h | h | h | h
  ·exact .inl (m1 z h)
  ·exact .inl (m2 z h)
  ·exact .inr (m3 z h)
  ·exact .inr (m4 z h)
 generalize M1++(M2++(M3++(M4++[])))=M at rT hM
 have w1:=QcZ (ρ:=ρ) t
 have w2:=QcZ (ρ:=ρ.set t none) b
 have w3:=QcZ (ρ:=(ρ.set t none).set b none) ln
 have wA:=(w1.trans w2).trans w3
 have rel0:=relx.weak wA
 have apart:∀z,z=a∨z∈Gt->¬(z=a'∨z∈Gb):=λz hz hz'=>by
  have h1:=(rel.own t _ ht).2.2.2.1 b _ _ (λe=>htb e.symm) hb
  rw[Ft,Fb]at h1
  exact h1 z (Zm.mpr hz) (Zm.mpr hz')
 have not_in:∀{x:Nat}{d:D}{bb:Bool},(((ρ.set t none).set b none).set ln none)[x]? =some (some (d,bb))->x≠t/\x≠b/\x≠ln:=λ{x d bb} ex=>by
  refine⟨λz=>?_,λz=>?_,λz=>?_⟩
  ·subst z
   obtain⟨_,h1,_⟩:=(w2.trans w3).2 x d bb ex
   exact get_none h1
  ·subst z
   obtain⟨_,h1,_⟩:=w3.2 x d bb ex
   exact get_none h1
  ·subst z
   exact get_none ex
 have sh:Shr H0 A0 (((ρ.set t none).set b none).set ln none) F M:=λz hz=>by
  rcases hM z hz with h | h
  ·refine⟨.inl (sp.h0 z (.inr h)),λx d ex=>?_⟩
   obtain⟨bb,h1,_⟩:=(w2.trans w3).2 x d true ex
   exact sp.out x d bb h1 z (.inr h)
  ·refine⟨.inl (sp'.h0 z (.inr h)),λx d ex=>?_⟩
   obtain⟨bb,h1,_⟩:=wA.2 x d true ex
   refine sp'.out x d bb ?_ z (.inr h)
   rw[Zb (Ne.symm (not_in ex).2.1)];exact h1
 have relL:=rel0.QkV (i:=ln) rT sh
 have sp0:Spn X.K H0 H5 hs (((ρ.set t none).set b none).set ln none) F a ts ws Gt:=sp.weak λx d bb ex=>by
  obtain⟨b',h1,_⟩:=(w2.trans w3).2 x d bb ex
  exact sp.out x d b' h1
 have sp0':Spn X.K H0 H5 hs (((ρ.set t none).set b none).set ln none) F a' bs ws' Gb:=sp'.weak λx d bb ex=>by
  obtain⟨b',h1,_⟩:=wA.2 x d bb ex
  exact sp'.out x d b' (by rw[Zb (Ne.symm (not_in ex).2.1)];exact h1)
 have rel0:=rel0.put (i:=ln) (v:= .ref c) λd bb ex=>(not_in ex).2.2 rfl
 have st1':(σ.set ln (some (.ref c)))[t]? =some (some (.ref a)):=by rw[Zb hlt];exact st
 have sb1':(σ.set ln (some (.ref c)))[b]? =some (some (.ref a')):=by rw[Zb hlb];exact sb
 show QpL _ _ E (σ.set ln (some (.ref c))) _
 generalize hσ:σ.set ln (some (V.ref c))=σ1 at relL rel0 st1' sb1'
 generalize hρ0:((ρ.set t none).set b none).set ln none=ρ0 at *
 generalize hρ1:ρ0.set ln (some (D.tup [t1,t2,b1,b2],(D.tup [t1,t2,b1,b2]).flat))=ρ1 at relL ei' ek' c1 c2 c3 c4
 generalize hF1:(λj=>if j=ln then M else F j)=F1 at relL
 have out1:∀z,(z=a∨z=a')->∀(x:Nat) d bb,ρ1[x]? =some (some (d,bb))->z∉F1 x:=λz hz x d bb ex=>by
  subst hF1
  dsimp only
  by_cases hx:x=ln
  ·rw[if_pos hx]
   intro hm
   rcases hz with rfl | rfl
   ·rcases hM z hm with h | h
    ·exact sp.na h
    ·exact apart z (.inl rfl) (.inr h)
   ·rcases hM z hm with h | h
    ·exact apart z (.inr h) (.inl rfl)
    ·exact sp'.na h
  ·rw[if_neg hx]
   subst hρ1
   rw[Zb (Ne.symm hx)]at ex
   rcases hz with rfl | rfl
   ·exact sp0.out x d bb ex z (.inl rfl)
   ·exact sp0'.out x d bb ex z (.inl rfl)
 have jl1:=(Qb6 x1).2.1
 have jl2:=(Qb6 x2).2.1
 have ll1:=(Qb6 x3).2.1
 have ll2:=(Qb6 x4).2.1
 refine QfH relL c1 λu1 H6 N1 z1=>⟨.ref a,st1',QfH (relL.ext z1.same) ei' λy1' H7 N1' z1'=>?_⟩
 have ru:=z1'.rp
 rw[hi']at ru
 refine⟨a,ws,i',j1,rfl,ru.int_inv,z1'.same _ _ (z1.same _ _ sp0.at'),by rw[← sp0.rp.length];exact x1,?_⟩
 refine(λh:∀G:Prop,(_->G)->G=>h _ id) λGG kk=>?_
 obtain⟨G1,spA,relA,rel0A,mA⟩:=sp0.put rel0 relL (z1.QfC z1'.same) w1' jl1 λx d bb ex=>out1 a (.inl rfl) x d bb ex
 refine kk ?_
 have apA:¬(a=a'∨a∈Gb):=apart a (.inl rfl)
 have spA':Spn X.K H0 (upd H7 a (.lst (ws.set j1 u1))) hs ρ0 F a' bs ws' Gb:=(sp0'.same (z1.same.trans z1'.same)).Qo3 (z1'.same _ _ (z1.same _ _ sp0.at')) apA
 generalize upd H7 a (.lst (ws.set j1 u1))=H8 at spA relA rel0A spA'
 have apartA:∀z,z∈G1->¬(z=a'∨z∈Gb):=λz hz hz'=>by
  rcases mA z hz with h | h
  ·exact apart z (.inr h) hz'
  ·obtain⟨vs,w⟩:=sp0'.mem hz'
   rw[h]at w;cases w
 refine QfH relA c2 λu2 H9 N2 z2=>⟨.ref a,st1',QfH (relA.ext z2.same) ek' λy2' H10 N2' z2'=>?_⟩
 have ru2:=z2'.rp
 rw[hk']at ru2
 refine⟨a,ws.set j1 u1,k',j2,rfl,ru2.int_inv,z2'.same _ _ (z2.same _ _ spA.at'),by rw[← spA.rp.length,Zz];exact x2,?_⟩
 refine(λh:∀G:Prop,(_->G)->G=>h _ id) λGG kk=>?_
 obtain⟨G2,spB,relB,rel0B,mB⟩:=spA.put rel0A relA (z2.QfC z2'.same) w2' (by rw[Zz];exact jl2) λx d bb ex=>out1 a (.inl rfl) x d bb ex
 refine kk ?_
 have spB':Spn X.K H0 (upd H10 a (.lst ((ws.set j1 u1).set j2 u2))) hs ρ0 F a' bs ws' Gb:=(spA'.same (z2.same.trans z2'.same)).Qo3 (z2'.same _ _ (z2.same _ _ spA.at')) apA
 generalize upd H10 a (.lst ((ws.set j1 u1).set j2 u2))=H11 at spB relB rel0B spB'
 have apartB:∀z,z=a∨z∈G2->¬(z=a'∨z∈Gb):=λz hz hz'=>by
  rcases hz with rfl | hz
  ·exact apA hz'
  ·rcases mB z hz with h | h
   ·exact apartA z h hz'
   ·obtain⟨vs,w⟩:=spA'.mem hz'
    rw[h]at w;cases w
 refine QfH relB c3 λu3 H12 N3 z3=>⟨.ref a',sb1',QfH (relB.ext z3.same) ei' λy3' H13 N3' z3'=>?_⟩
 have ru3:=z3'.rp
 rw[hi']at ru3
 refine⟨a',ws',i',l1,rfl,ru3.int_inv,z3'.same _ _ (z3.same _ _ spB'.at'),by rw[← spB'.rp.length];exact x3,?_⟩
 refine(λh:∀G:Prop,(_->G)->G=>h _ id) λGG kk=>?_
 obtain⟨G3,spC',relC,rel0C,mC⟩:=spB'.put rel0B relB (z3.QfC z3'.same) w3' ll1 λx d bb ex=>out1 a' (.inr rfl) x d bb ex
 refine kk ?_
 have apB:¬(a'=a∨a'∈G2):=λh=>apartB a' h (.inl rfl)
 have spC:Spn X.K H0 (upd H13 a' (.lst (ws'.set l1 u3))) hs ρ0 F a _ _ G2:=(spB.same (z3.same.trans z3'.same)).Qo3 (z3'.same _ _ (z3.same _ _ spB'.at')) apB
 generalize upd H13 a' (.lst (ws'.set l1 u3))=H14 at spC relC rel0C spC'
 have apartC:∀z,z∈G3->¬(z=a∨z∈G2):=λz hz hz'=>by
  rcases mC z hz with h | h
  ·exact apartB z hz' (.inr h)
  ·obtain⟨vs,w⟩:=spB.mem hz'
   rw[h]at w;cases w
 refine QfH relC c4 λu4 H15 N4 z4=>⟨.ref a',sb1',QfH (relC.ext z4.same) ek' λy4' H16 N4' z4'=>?_⟩
 have ru4:=z4'.rp
 rw[hk']at ru4
 refine⟨a',ws'.set l1 u3,k',l2,rfl,ru4.int_inv,z4'.same _ _ (z4.same _ _ spC'.at'),by rw[← spC'.rp.length,Zz];exact x4,?_⟩
 refine(λh:∀G:Prop,(_->G)->G=>h _ id) λGG kk=>?_
 obtain⟨G4,spD',relD,rel0D,mD⟩:=spC'.put rel0C relC (z4.QfC z4'.same) w4' (by rw[Zz];exact ll2) λx d bb ex=>out1 a' (.inr rfl) x d bb ex
 refine kk ?_
 have spD:Spn X.K H0 (upd H16 a' (.lst ((ws'.set l1 u3).set l2 u4))) hs ρ0 F a _ _ G2:=(spC.same (z4.same.trans z4'.same)).Qo3 (z4'.same _ _ (z4.same _ _ spC'.at')) apB
 generalize upd H16 a' (.lst ((ws'.set l1 u3).set l2 u4))=H17 at spD relD rel0D spD'
 have apartD:∀z,z=a'∨z∈G4->¬(z=a∨z∈G2):=λz hz hz'=>by
  rcases hz with rfl | hz
  ·exact apB hz'
  ·rcases mD z hz with h | h
   ·exact apartC z h hz'
   ·obtain⟨vs,w⟩:=spC.mem hz'
    rw[h]at w;cases w
 have nt:∀d bb,ρ0[t]? ≠some (some (d,bb)):=λd bb ex=>(not_in ex).1 rfl
 have nb:∀d bb,ρ0[b]? ≠some (some (d,bb)):=λd bb ex=>(not_in ex).2.1 rfl
 have relE:=spD.back rel0D st1' nt
 have spE:=spD'.weak (ρ':=ρ0.set t (some (.lst ((ts.set j1 q1.d).set j2 q2.d),true))) (F':=λj=>if j=t then a::G2 else F j) λx d bb ex z hz=>by
  by_cases hx:x=t
  ·rw[if_pos hx]
   exact λhm=>apartD z hz (Zm.mp hm)
  ·rw[if_neg hx]
   rw[Zb (Ne.symm hx)]at ex
   exact spD'.out x d bb ex z hz
 have relF:=spE.back relE sb1' (by rw[Zb htb];exact nb)
 subst hρ0
 exact⟨_,hs,_,o,relF,e,q⟩
end
noncomputable def Qbe:Expr->Option (Str×Str)
 | .Subscript (.Name x _) (.Name y _) _=>some (x,y)
 | _=>none
theorem QcY{e:Expr}{x y:Str}(h:Qbe e=some (x,y)):∃p1 p2 p3,e= .Subscript (.Name x p1) (.Name y p2) p3:=by
 unfold Qbe at h
 split at h
 ·cases h;exact⟨_,_,_,rfl⟩
 ·cases h
noncomputable def Qtu:Expr->Option (List Expr)
 | .Tuple l _ _=>some l
 | _=>none
theorem Qsi{e:Expr}{l:List Expr}(h:Qtu e=some l):∃k p,e= .Tuple l k p:=by
 unfold Qtu at h
 split at h
 ·cases h;exact⟨_,_,rfl⟩
 ·cases h
noncomputable def four(l:List Expr):Option ((Str×Str)×(Str×Str)×(Str×Str)×(Str×Str)):=match l with
 | [a,b,c,d]=>(Qbe a).bind λa=>(Qbe b).bind λb=>(Qbe c).bind λc=>(Qbe d).map λd=>(a,b,c,d)
 | _=>none
theorem Qtm{l:List Expr}{a b c d:Str×Str}(h:four l=some (a,b,c,d)):∃ea eb ec ed,l=[ea,eb,ec,ed]/\Qbe ea=some a/\Qbe eb=some b/\Qbe ec=some c/\Qbe ed=some d:=by
 unfold four at h
 split at h
 ·obtain⟨a',h1,h⟩:=bind1 h
  obtain⟨b',h2,h⟩:=bind1 h
  obtain⟨c',d',h3,h4,h5⟩:=Qak h
  cases h5
  exact⟨_,_,_,_,rfl,h1,h2,h3,h4⟩
 ·cases h
noncomputable def QpZ(st:Stmt):Option (Str×(Str×Str)×(Str×Str)×(Str×Str)×(Str×Str)):=(aName st).bind λz=>(Qtu z.2).bind λl=>(four l).map λq=>(z.1,q)
theorem Qq9{st:Stmt}{x:Str}{a b c d:Str×Str}(h:QpZ st=some (x,a,b,c,d)):∃p ea eb ec ed k p1 p2,st= .Assign [.Name x p] (.Tuple [ea,eb,ec,ed] k p1) p2/\Qbe ea=some a/\Qbe eb=some b/\Qbe ec=some c/\Qbe ed=some d:=by
 unfold QpZ at h
 obtain⟨⟨x',e⟩,h1,h⟩:=bind1 h
 obtain⟨l,q,h2,h3,h⟩:=Qak h
 cases h
 obtain⟨p,p2,e1⟩:=Qlb h1
 obtain⟨k,p1,e2⟩:=Qsi h2
 have e2:e= .Tuple l k p1:=e2
 obtain⟨ea,eb,ec,ed,e3,n⟩:=Qtm h3
 exact⟨p,ea,eb,ec,ed,k,p1,p2,by rw[e1,e2,e3],n⟩
noncomputable def Qgj:Stmt->Option ((Str×Str)×Expr)
 | .Assign [t] e _=>(Qbe t).map λs=>(s,e)
 | _=>none
theorem QeQ{st:Stmt}{s:Str×Str}{e:Expr}(h:Qgj st=some (s,e)):∃t p,st= .Assign [t] e p/\Qbe t=some s:=by
 unfold Qgj at h
 split at h
 ·obtain⟨s',h1,h2⟩:=Zf.mp h
  cases h2
  exact⟨_,_,rfl,h1⟩
 ·cases h
structure Col where
 ln:Str
 t:Str
 b:Str
 i:Str
 k:Str
 e1:Expr
 e2:Expr
 e3:Expr
 e4:Expr
 r:List Stmt
noncomputable def Qp3:List Stmt->Option Col
 | s0::s1::s2::s3::s4::r=>(QpZ s0).bind λz=>(Qgj s1).bind λz1=>(Qgj s2).bind λz2=>(Qgj s3).bind λz3=>(Qgj s4).bind λz4=>
  if z.2.2.1=(z.2.1.1,z.2.2.1.2)/\z.2.2.2.1=(z.2.2.2.1.1,z.2.1.2)/\z.2.2.2.2=(z.2.2.2.1.1,z.2.2.1.2)/\z1.1=z.2.1/\z2.1=z.2.2.1/\z3.1=z.2.2.2.1/\z4.1=z.2.2.2.2 then some ⟨z.1,z.2.1.1,z.2.2.2.1.1,z.2.1.2,z.2.2.1.2,z1.2,z2.2,z3.2,z4.2,r⟩else none
 | _=>none
theorem QtG{sts:List Stmt}{q:Col}(h:Qp3 sts=some q):∃p ea eb ec ed k p1 p2 t1 t2 t3 t4 p3 p4 p5 p6,sts= .Assign [.Name q.ln p] (.Tuple [ea,eb,ec,ed] k p1) p2:: .Assign [t1] q.e1 p3:: .Assign [t2] q.e2 p4:: .Assign [t3] q.e3 p5:: .Assign [t4] q.e4 p6::q.r∧
  Qbe ea=some (q.t,q.i)/\Qbe eb=some (q.t,q.k)/\Qbe ec=some (q.b,q.i)/\Qbe ed=some (q.b,q.k)/\Qbe t1=some (q.t,q.i)/\Qbe t2=some (q.t,q.k)/\Qbe t3=some (q.b,q.i)/\Qbe t4=some (q.b,q.k):=by
 refine(λh:∀G:Prop,(_->G)->G=>h _ id) λGG kk=>?_
 unfold Qp3 at h
 split at h
 ·rename_i s0 s1 s2 s3 s4 r
  obtain⟨z,h0,h⟩:=bind1 h
  obtain⟨z1,h1,h⟩:=bind1 h
  obtain⟨z2,h2,h⟩:=bind1 h
  obtain⟨z3,h3,h⟩:=bind1 h
  obtain⟨z4,h4,h⟩:=bind1 h
  split at h
  ·rename_i hc
   obtain⟨g1,g2,g3,g4,g5,g6,g7⟩:=hc
   obtain⟨p,ea,eb,ec,ed,k,p1,p2,e0,n1,n2,n3,n4⟩:=Qq9 h0
   obtain⟨t1,p3,e1,m1⟩:=QeQ h1
   obtain⟨t2,p4,e2,m2⟩:=QeQ h2
   obtain⟨t3,p5,e3,m3⟩:=QeQ h3
   obtain⟨t4,p6,e4,m4⟩:=QeQ h4
   have h:=Option.some.inj h
   subst h
   exact kk ⟨p,ea,eb,ec,ed,k,p1,p2,t1,t2,t3,t4,p3,p4,p5,p6,by rw[e0,e1,e2,e3,e4],n1,n2.trans (congrArg some g1),n3.trans (congrArg some g2),n4.trans (congrArg some g3),m1.trans (congrArg some g4),m2.trans (congrArg some (g5.trans g1)),m3.trans (congrArg some (g6.trans g2)),m4.trans (congrArg some (g7.trans g3))⟩
  ·cases h
 ·cases h
end HS
namespace HS
open PySem PySem.Spec L2 PyProof.Rows
section
variable {K:PySem.W.Frag}{H0 H H':Hp}{A0:List Addr}{hs:List (V×D×List Addr)}{ρ:En}{F:Nat->List Addr}{σ:L2.St}{x i j:Nat}{ds es:List D}{a:Addr}{vs:List V}{v vn:V}{dn:D}
theorem Rel.Qtx(rel:Rel K H0 A0 hs ρ F σ H)(hx:ρ[x]? =some (some (.lst ds,true))):∃a vs L,σ[x]? =some (some (.ref a))/\H a=some (.lst vs)/\F x=a::L/\Rps K H ds vs L/\ds.length<=sizeLine:=by
 obtain⟨w,h1,h2⟩:=rel.val x _ _ hx
 have ol:=(rel.own x _ hx).1
 simp only[Rp]at h2
 obtain⟨hz,b,vs,rfl,⟨L,eF,q,rl⟩ | ⟨q,rl⟩⟩:=h2
 ·exact⟨b,vs,L,h1,q,eF,rl,hz⟩
 ·have:=rl.Qal
  simp only[D.nl]at ol
  omega
end
noncomputable def QhP(x y:Nat)(fi fa:DE)(ds:List D)(i:Nat)(ρ:En):Option (List D):=match ds[i]? with
 | some (.lst es)=>(fa ((Qau [x] ρ).set y (some (.lst es,(D.lst es).flat)))).bind λr=>(fi ((Qau [x] ρ).set y (some (.lst es,(D.lst es).flat)))).bind λk=>match k.d with
  | .int z=>(ixN es.length z).bind λj=>if r.d.flat=true then some (ds.set i (.lst (es.set j r.d)))else none
  | _=>none
 | _=>none
noncomputable def Qgv(x y:Nat)(fi fa:DE):Nat->Nat->En->List D->Option (List D)
 | 0,_,_,ds=>some ds
 | n+1,i,ρ,ds=>(QhP x y fi fa ds i (ρ.set x (some (.lst ds,true)))).bind λd2=>Qgv x y fi fa n (i+1) ρ d2
noncomputable def Qjf(x y:Nat)(fi fa:DE):DS:=λρ=>if x≠y/\y<ρ.length then match ρ[x]? with
 | some (some (.lst ds,true))=>(Qgv x y fi fa ds.length 0 (ρ.set y none) ds).map λdz=> .nx ((ρ.set y none).set x (some (.lst dz,true)))
 | _=>none else none
section
variable {K:PySem.W.Frag}{H0 H H':Hp}{A0:List Addr}{hs:List (V×D×List Addr)}{ρ:En}{F:Nat->List Addr}{σ:L2.St}{x i j:Nat}{ds es:List D}{a:Addr}{vs:List V}{v vn:V}{dn:D}
theorem Rel.Qwo(rel:Rel K H0 A0 hs ρ F σ H)(hx:ρ[x]? =some (some (.lst ds,true)))(hσ:σ[x]? =some (some (.ref a)))(ha:H a=some (.lst vs))(hv:vs[i]? =some v)(hi:ds[i]? =some (.lst es))(hj:j<es.length)(hf:dn.flat=true)(hn:Rp K H dn vn []):
  ∃p ws,v= .ref p/\H p=some (.lst ws)/\es.length=ws.length/\∃F',Rel K H0 A0 hs (ρ.set x (some (.lst (ds.set i (.lst (es.set j dn))),true))) F' σ (upd H p (.lst (ws.set j vn))):=by
 have hil:i<ds.length:=(Zd.mp hi).1
 have hix:ixN ds.length (i:Int)=some i:=by unfold ixN;rw[if_pos (Int.natCast_nonneg i),if_pos (Int.ofNat_lt.mpr hil),ZC]
 obtain⟨a',vs',L,h1,h2,eF,rl,hz⟩:=rel.Qtx hx
 rw[hσ]at h1;cases h1
 rw[ha]at h2;cases h2
 obtain⟨F1,G,F2,v',s1,s2,s3,s4,s5⟩:=rl.split hi
 rw[hv]at s2;cases s2
 have fo:Focus K H [(i:Int)] (.lst ds) (.ref a) (F x) (.lst es) v G:=⟨ds,a,vs,i,F1,G,F2,.lst es,v,rfl,hix,.inl ⟨rfl,hz,.inl ⟨by rw[eF,s1],ha⟩⟩,s3,s5,hi,hv,rl.length,rfl,rfl,rfl,s4⟩
 clear s1 s3 s5
 obtain⟨p,_,_,rfl,_,_,zl,_⟩:=s4.lst_inv
 obtain⟨ol,on,_⟩:=rel.own x _ hx
 obtain⟨ws,Gp,g1,g2,g3,g4,g5,g6,g7,_⟩:=fo.mut (vs':=[]) (ds':=[]) (G':=[]) on ol
 refine⟨p,ws,rfl,g1,g3.length,?_⟩
 obtain⟨G',m1,m2,m3⟩:=set_mk g1 g3 g4 g7 (Gn:=[]) (by simp) hn (by rw[Qeh _ hf];rfl) hj
 obtain⟨vs2,Gp2,k1,k2,_,_,_,_,_,k8⟩:=fo.mut (vs':=ws.set j vn) (ds':=es.set j dn) (G':=G') on ol
 have eG:Gp2=Gp:=by rw[g2]at k2;exact(List.cons.inj k2).2.symm
 subst eG
 obtain⟨F',n1,n2,n3⟩:=k8 m1 (by rw[Zz];exact zl) m2
 have eU:Qay [(i:Int)] (.lst ds) (.lst (es.set j dn))= .lst (ds.set i (.lst (es.set j dn))):=by simp only[Qay,hix]
 rw[eU]at n1 n2
 have P:Qab K ρ F H H ⟨dn,true,[]⟩ vn []:= .flat (QN.refl _) hn hf
 exact rel.mut P rfl Zaq (QN.refl _) hx (by simp) hσ g1 g5 n1 n2 (λb=>by have:=n3 b;have:=m3 b;simp only[List.count_nil]at this ⊢;omega)
end
section
variable {X:Cx}{st:Stmt}{x y:Nat}{fi fa:DE}
theorem Qwy(pf:∀H0 A0,PS X st (QwH (Qxe X.K (Qdn x)) (Qdu y) (QpL (QcW (tV X.K H0 A0 fa) (L2.QaP (Qdn y) (tV X.K H0 A0 fi) QeO)) Qmf))):S1 X st (Qjf x y fi fa):=λH0 A0=>(pf H0 A0).mono λE σ H ⟨ρ,hs,F,o,rel,e,q⟩=>by
 unfold Qjf at e
 split at e
 case isFalse=>cases e
 rename_i hxy
 obtain⟨hxy,hy⟩:=hxy
 split at e
 case h_2=>cases e
 rename_i ds hx
 obtain⟨dz,ez,rfl⟩:=Zf.mp e
 have rel0:=rel.weak (QcZ (ρ:=ρ) y)
 have hx0:(ρ.set y none)[x]? =some (some (.lst ds,true)):=by rw[Zb (Ne.symm hxy)];exact hx
 have hy0:∀d b,(ρ.set y none)[y]? ≠some (some (d,b)):=λd b z=>by rw[Ze hy]at z;cases z
 have hyl:y<(ρ.set y none).length:=by rw[Zz];exact hy
 clear e rel hx hy
 generalize ρ.set y none=ρ0 at *
 have hxl:x<ρ0.length:=(Zd.mp hx0).1
 have e0:ρ0.set x (some (.lst ds,true))=ρ0:=by
  obtain⟨w,hw⟩:=Zd.mp hx0
  rw[← hw]
  exact List.set_getElem_self w
 obtain⟨a,vs,L,h1,hl,_⟩:=rel0.Qtx hx0
 refine⟨.ref a,h1,.inl ⟨a,rfl,⟨vs,SqL.of hl⟩,λi m σ' H'=>m=ds.length-i/\i<=ds.length/\∃d1 F1,d1.length=ds.length/\Rel X.K H0 A0 hs (ρ0.set x (some (.lst d1,true))) F1 σ' H'/\σ'[x]? =some (some (.ref a))/\Qgv x y fi fa (ds.length-i) i ρ0 d1=some dz,⟨_,rfl,ZS _,ds,F,rfl,by rw[e0];exact rel0,h1,ez⟩,?_⟩⟩
 clear rel0 h1 hl ez e0 hx0
 rintro i m σ' H' ⟨rfl,hi,d1,F1,hl1,rel1,hσ,e1⟩
 have hx1:(ρ0.set x (some (D.lst d1,true)))[x]? =some (some (.lst d1,true)):=Ze hxl
 obtain⟨a',vs',L',k1,hl',eF',rl',zl'⟩:=rel1.Qtx hx1
 rw[hσ]at k1;cases k1
 by_cases hlt:i<ds.length
 ·rw[show ds.length-i=(ds.length-(i+1))+1 by omega]at e1
  unfold Qgv at e1
  obtain⟨d2,e2,e1⟩:=bind1 e1
  unfold QhP at e2
  split at e2
  case h_2=>cases e2
  rename_i es hes
  obtain⟨r,er,e2⟩:=bind1 e2
  obtain⟨k,ek,e2⟩:=bind1 e2
  split at e2
  case h_2=>cases e2
  rename_i z hz
  obtain⟨j,ej,e2⟩:=bind1 e2
  split at e2
  case isFalse=>cases e2
  rename_i hf
  cases e2
  obtain⟨v,G,n1,n2,n3⟩:=rl'.nth hes
  refine .inr ⟨⟨vs',v,SqL.of hl',n1⟩,λσ2 H2=>∃F2,Rel X.K H0 A0 hs (ρ0.set x (some (.lst (d1.set i (.lst (es.set j r.d))),true))) F2 σ2 H2/\σ2[x]? =some (some (.ref a)),λσ2 H2 ⟨F2,rel2,hs2⟩=>⟨_,by omega,rfl,hlt,_,F2,by rw[Zz];exact hl1,rel2,hs2,e1⟩,λv2 H2 ⟨eH,hv⟩=>?_⟩
  subst eH
  have hv:=hv vs' (SqL.of hl')
  rw[n1]at hv;cases hv
  have sh:=Shr.of rel1 (M:=[x]) (G:=G) λb hb=> .inr ⟨x,_,true,hx1,by rw[eF'];exact Zg _ (n3 b hb),λ_=>ZA.mpr rfl⟩
  have relw:=(rel1.weak (QaK [x] _)).QkV (i:=y) n2 sh
  have hyσ:(σ'.set y (some v))[y]? =some (some v):=Ze (by rw[← rel1.len,Zz];exact hyl)
  refine⟨_,hs,_,r,relw,er,λvn H1 Gn p=>⟨v,hyσ,_,hs,_,k,relw.ext p.same,ek,λu H3 Gi pi=>?_⟩⟩
  have ru:=pi.rp
  rw[hz]at ru
  have rp1:=p.rp.same pi.same
  have gn:=rp1.QbY hf
  subst gn
  have rel3:=((rel1.ext p.same).ext pi.same).put (i:=y) (v:=v) λd b=>by rw[Zb hxy];exact hy0 d b
  have hσ3:(σ'.set y (some v))[x]? =some (some (.ref a)):=by rw[Zb (Ne.symm hxy)];exact hσ
  obtain⟨pp,ws,ev,hp,hlen,F2,rel4⟩:=rel3.Qwo hx1 hσ3 (pi.same _ _ (p.same _ _ hl')) n1 hes (Qb6 ej).2.1 hf rp1
  rw[List.set_set]at rel4
  exact⟨pp,ws,z,j,ev,ru.int_inv,hp,by rw[← hlen];exact ej,F2,rel4,hσ3⟩
 ·have hn:i=ds.length:=by omega
  subst hn
  rw[Nat.sub_self]at e1
  cases e1
  exact .inl ⟨⟨vs',SqL.of hl',by rw[← rl'.length,hl1];exact Zi _⟩,q _ _ F1 rel1⟩
end
structure QvR where
 t:Str
 r:Str
 i:Expr
 e:Expr
noncomputable def Qma(tg iter:Expr)(body:List Stmt):Option QvR:=match tg,iter,body with
 | .Name r _,.Name t _,[st]=>(QmQ st).bind λu=>if u.1=r then some ⟨t,r,u.2.1,u.2.2⟩else none
 | _,_,_=>none
theorem Qqy{tg iter:Expr}{body:List Stmt}{q:QvR}(h:Qma tg iter body=some q):∃p1 p2 a b c,tg= .Name q.r p1/\iter= .Name q.t p2/\body=[.Assign [.Subscript (.Name q.r a) q.i b] q.e c]:=by
 unfold Qma at h
 split at h
 ·obtain⟨u,h1,h⟩:=bind1 h
  split at h
  ·rename_i hr
   have h:=Option.some.inj h
   subst h
   obtain⟨a,b,c,e⟩:=QiF h1
   exact⟨_,_,a,b,c,rfl,rfl,by rw[e,hr]⟩
  ·cases h
 ·cases h
end HS
namespace HS
open PySem PySem.Spec L2 PyProof.Rows
noncomputable def Qne(x a b c:Nat):DS:=λρ=>match ρ[x]? with
 | some (some (.tup [d0,d1,d2],true))=>if [x,a,b,c].Nodup/\a<ρ.length/\b<ρ.length/\c<ρ.length then some (.nx ((((ρ.set x none).set a (some (d0,true))).set b (some (d1,true))).set c (some (d2,true))))else none
 | _=>none
section
variable {K:PySem.W.Frag}{H0 H:Hp}{A0:List Addr}{hs:List (V×D×List Addr)}{ρ ρ':En}{F:Nat->List Addr}{σ σ':L2.St}
theorem Rel.give(rel:Rel K H0 A0 hs ρ F σ H){x:Nat}{d:D}(hx:ρ[x]? =some (some (d,true))){P:Nat->Option (D×V×List Addr)}(hl:ρ'.length=σ'.length)
  (hP:∀j p,P j=some p->Rp K H p.1 p.2.1 p.2.2/\p.2.2.length=p.1.nl/\p.2.2.Nodup/\∀a∈p.2.2,a∈F x) (ap:∀j k p q,j≠k->P j=some p->P k=some q->∀a∈p.2.2,a∉q.2.2)
  (inv:∀(j:Nat) d b,ρ'[j]? =some (some (d,b))->(∃v G,P j=some (d,v,G)/\b=true/\σ'[j]? =some (some v))∨(P j=none/\j≠x/\ρ[j]? =some (some (d,b))/\σ'[j]? =σ[j]?)):∃F',Rel K H0 A0 hs ρ' F' σ' H:=by
 obtain⟨_,on,o0,oap,oh⟩:=rel.own x d hx
 refine⟨λj=>match P j with | some p=>p.2.2 | none=>F j,hl,λj d b e=>?_,λj d e=>?_,λj d b e=>?_,rel.held,rel.same⟩
 ·rcases inv j d b e with⟨v,G,h1,_,h3⟩ | ⟨h1,_,h3,h4⟩
  ·refine⟨v,h3,?_⟩
   show Rp K H d v (match P j with | some p=>p.2.2 | none=>F j)
   rw[h1]
   exact(hP j _ h1).1
  ·obtain⟨v,g1,g2⟩:=rel.val j d b h3
   refine⟨v,h4.trans g1,?_⟩
   show Rp K H d v (match P j with | some p=>p.2.2 | none=>F j)
   rw[h1]
   exact g2
 ·show(match P j with | some p=>p.2.2 | none=>F j).length=d.nl/\(match P j with | some p=>p.2.2 | none=>F j).Nodup/\(∀a∈(match P j with | some p=>p.2.2 | none=>F j),H0 a=none)/\(∀(k:Nat) d' b',k≠j->ρ'[k]? =some (some (d',b'))->∀a∈(match P j with | some p=>p.2.2 | none=>F j),a∉(match P k with | some p=>p.2.2 | none=>F k))/\∀t∈hs,∀a∈(match P j with | some p=>p.2.2 | none=>F j),a∉t.2.2
  rcases inv j d true e with⟨v,G,h1,_,h3⟩ | ⟨h1,hj,h3,h4⟩
  ·rw[h1]
   obtain⟨p1,p2,p3,p4⟩:=hP j _ h1
   refine⟨p2,p3,λa ha=>o0 a (p4 a ha),λk d' b' hk ek a ha=>?_,λt ht a ha=>oh t ht a (p4 a ha)⟩
   rcases inv k d' b' ek with⟨v',G',g1,_,_⟩ | ⟨g1,gx,g3,_⟩
   ·rw[g1];exact ap j k _ _ (Ne.symm hk) h1 g1 a ha
   ·rw[g1];exact oap k d' b' gx g3 a (p4 a ha)
  ·rw[h1]
   obtain⟨q1,q2,q3,q4,q5⟩:=rel.own j d h3
   refine⟨q1,q2,q3,λk d' b' hk ek a ha=>?_,q5⟩
   rcases inv k d' b' ek with⟨v',G',g1,_,_⟩ | ⟨g1,gx,g3,_⟩
   ·rw[g1];exact λz=>oap j d true hj h3 a ((hP k _ g1).2.2.2 a z) ha
   ·rw[g1];exact q4 k d' b' hk g3 a ha
 ·show ∀a∈(match P j with | some p=>p.2.2 | none=>F j),H0 a=none∨a∈A0
  rcases inv j d b e with⟨v,G,h1,_,h3⟩ | ⟨h1,hj,h3,h4⟩
  ·rw[h1];exact λa ha=> .inl (o0 a ((hP j _ h1).2.2.2 a ha))
  ·rw[h1];exact rel.src j d b h3
theorem Rel.mov(rel:Rel K H0 A0 hs ρ F σ H){x a b c:Nat}{d0 d1 d2:D}(hx:ρ[x]? =some (some (.tup [d0,d1,d2],true)))(xa:x≠a)(xb:x≠b)(xc:x≠c)(ab:a≠b)(ac:a≠c)(bc:b≠c)(la:a<ρ.length)(lb:b<ρ.length)(lc:c<ρ.length):
  ∃l v0 v1 v2,σ[x]? =some (some (.ref l))/\SqT K H l [v0,v1,v2]/\∃F',Rel K H0 A0 hs ((((ρ.set x none).set a (some (d0,true))).set b (some (d1,true))).set c (some (d2,true))) F' (((σ.set a (some v0)).set b (some v1)).set c (some v2)) H:=by
 obtain⟨w,h1,h2⟩:=rel.val x _ _ hx
 obtain⟨l,vs,rfl,hq,rps⟩:=h2.Qa3
 obtain⟨ol,on,_⟩:=rel.own x _ hx
 simp only[Rps]at rps
 obtain⟨v0,ws,F0,G1,rfl,eF,r0,v1,ws2,F1,G2,rfl,rfl,r1,v2,ws3,F2,G3,rfl,rfl,r2,rfl,rfl⟩:=rps
 rw[Zbv]at eF
 refine⟨l,v0,v1,v2,h1,hq,?_⟩
 have l0:=r0.Qal
 have l1:=r1.Qal
 have l2:=r2.Qal
 rw[eF]at ol on
 simp only[D.nl,nls,Zt]at ol
 obtain⟨n0,n12,a0⟩:=ZaI.mp on
 obtain⟨n1,n2,a12⟩:=ZaI.mp n12
 have pc:∀{j:Nat}{p:D×V×List Addr},(if j=a then some (d0,v0,F0)else if j=b then some (d1,v1,F1)else if j=c then some (d2,v2,F2)else none)=some p->(j=a/\p=(d0,v0,F0))∨(j=b/\p=(d1,v1,F1))∨(j=c/\p=(d2,v2,F2)):=λ{j p} h=>by
  split at h
  ·exact .inl ⟨by assumption,(Option.some.inj h).symm⟩
  ·split at h
   ·exact .inr (.inl ⟨by assumption,(Option.some.inj h).symm⟩)
   ·split at h
    ·exact .inr (.inr ⟨by assumption,(Option.some.inj h).symm⟩)
    ·cases h
 refine rel.give hx (P:=λj=>if j=a then some (d0,v0,F0)else if j=b then some (d1,v1,F1)else if j=c then some (d2,v2,F2)else none) (by simp only[Zz];exact rel.len) (λj p h=>?_) (λj k p q hjk h g z hz hz'=>?_) λj d bb e=>?_
 ·rw[eF]
  rcases pc h with⟨_,rfl⟩ | ⟨_,rfl⟩ | ⟨_,rfl⟩
  ·exact⟨r0,by show F0.length=d0.nl;omega,n0,λz hz=>Zh _ hz⟩
  ·exact⟨r1,by show F1.length=d1.nl;omega,n1,λz hz=>Zc _ (Zh _ hz)⟩
  ·exact⟨r2,by show F2.length=d2.nl;omega,n2,λz hz=>Zc _ (Zc _ hz)⟩
 ·rcases pc h with⟨hj,rfl⟩ | ⟨hj,rfl⟩ | ⟨hj,rfl⟩<;>rcases pc g with⟨hk,rfl⟩ | ⟨hk,rfl⟩ | ⟨hk,rfl⟩
  ·exact hjk (hj.trans hk.symm)
  ·exact a0 z hz z (Zh _ hz') rfl
  ·exact a0 z hz z (Zc _ hz') rfl
  ·exact a0 z hz' z (Zh _ hz) rfl
  ·exact hjk (hj.trans hk.symm)
  ·exact a12 z hz z hz' rfl
  ·exact a0 z hz' z (Zc _ hz) rfl
  ·exact a12 z hz' z hz rfl
  ·exact hjk (hj.trans hk.symm)
 ·have sl:σ.length=ρ.length:=rel.len.symm
  by_cases jc:j=c
  ·subst jc
   rw[Ze (by simp only[Zz];exact lc)]at e
   cases e
   exact .inl ⟨v2,F2,by rw[if_neg (Ne.symm ac),if_neg (Ne.symm bc),if_pos rfl],rfl,Ze (by simp only[Zz,sl];exact lc)⟩
  ·rw[Zb (Ne.symm jc)]at e
   rw[Zb (Ne.symm jc)]
   by_cases jb:j=b
   ·subst jb
    rw[Ze (by simp only[Zz];exact lb)]at e
    cases e
    exact .inl ⟨v1,F1,by rw[if_neg (Ne.symm ab),if_pos rfl],rfl,Ze (by simp only[Zz,sl];exact lb)⟩
   ·rw[Zb (Ne.symm jb)]at e
    rw[Zb (Ne.symm jb)]
    by_cases ja:j=a
    ·subst ja
     rw[Ze (by simp only[Zz];exact la)]at e
     cases e
     exact .inl ⟨v0,F0,by rw[if_pos rfl],rfl,Ze (by rw[sl];exact la)⟩
    ·rw[Zb (Ne.symm ja)]at e
     rw[Zb (Ne.symm ja)]
     have jx:j≠x:=λz=>by
      rw[z,Ze (Zd.mp hx).1]at e
      cases e
     rw[Zb (Ne.symm jx)]at e
     exact .inr ⟨by rw[if_neg ja,if_neg jb,if_neg jc],jx,e,rfl⟩
end
section
variable {X:Cx}{st1 st2 st3:Stmt}{sts:List Stmt}{x a b c:Nat}{g:DS}
theorem Qwr(p1:PS X st1 (QcW (tOp (QpR X.K) (Qdn x) (tC (.int 0))) (Qdu a)))(p2:PS X st2 (QcW (tOp (QpR X.K) (Qdn x) (tC (.int 1))) (Qdu b)))(p3:PS X st3 (QcW (tOp (QpR X.K) (Qdn x) (tC (.int 2))) (Qdu c)))(h:SS X sts g):SS X (st1::st2::st3::sts) (Qf (Qne x a b c) g):=λH0 A0=>
 (QaX p1 (QaX p2 (QaX p3 (h H0 A0)))).mono λE σ H ⟨ρ,hs,F,o,rel,e,q⟩=>by
 obtain⟨o1,e1,e⟩:=bind1 e
 unfold Qne at e1
 split at e1
 case h_2=>cases e1
 rename_i d0 d1 d2 hx
 split at e1
 case isFalse=>cases e1
 rename_i hc
 cases e1
 obtain⟨nd,la,lb,lc⟩:=hc
 simp only[Zan,Zm,ZbF,or_false,not_or,not_false_eq_true,Zaq,and_true]at nd
 obtain⟨⟨xa,xb,xc⟩,⟨ab,ac⟩,bc⟩:=nd
 obtain⟨l,v0,v1,v2,hσ,hq,F',rel'⟩:=rel.mov hx xa xb xc ab ac bc la lb lc
 refine⟨_,hσ,l,_,0,v0,rfl,rfl,hq,rfl,_,?_,l,_,1,v1,rfl,rfl,hq,rfl,_,?_,l,_,2,v2,rfl,rfl,hq,rfl,_,hs,F',o,rel',e,q⟩
 ·rw[Zb (Ne.symm xa)];exact hσ
 ·rw[Zb (Ne.symm xb),Zb (Ne.symm xa)];exact hσ
end
structure Mov where
 x:Str
 a:Str
 b:Str
 c:Str
 r:List Stmt
noncomputable def QfJ:Stmt->Option (Str×Str×Int)
 | .Assign [.Name a _] (.Subscript (.Name x _) (.Constant (.int k) _ _) _) _=>some (a,x,k)
 | _=>none
theorem Qhq{st:Stmt}{a x:Str}{k:Int}(h:QfJ st=some (a,x,k)):∃p1 p2 p3 p4 p5 p6,st= .Assign [.Name a p1] (.Subscript (.Name x p2) (.Constant (.int k) p3 p4) p5) p6:=by
 unfold QfJ at h
 split at h
 ·cases h;exact⟨_,_,_,_,_,_,rfl⟩
 ·cases h
noncomputable def Qo6:List Stmt->Option Mov
 | a::b::c::r=>(QfJ a).bind λu=>(QfJ b).bind λv=>(QfJ c).bind λw=>if v.2.1=u.2.1/\w.2.1=u.2.1/\u.2.2=0/\v.2.2=1/\w.2.2=2 then some ⟨u.2.1,u.1,v.1,w.1,r⟩else none
 | _=>none
theorem Qtd{sts:List Stmt}{q:Mov}(h:Qo6 sts=some q):∃a b c,sts=a::b::c::q.r/\QfJ a=some (q.a,q.x,0)/\QfJ b=some (q.b,q.x,1)/\QfJ c=some (q.c,q.x,2):=by
 unfold Qo6 at h
 split at h
 ·obtain⟨⟨u1,u2,u3⟩,h1,h⟩:=bind1 h
  obtain⟨⟨v1,v2,v3⟩,h2,h⟩:=bind1 h
  obtain⟨⟨w1,w2,w3⟩,h3,h⟩:=bind1 h
  split at h
  ·rename_i hc
   obtain⟨g1,g2,g3,g4,g5⟩:=hc
   dsimp only at g1 g2 g3 g4 g5
   subst g1 g2 g3 g4 g5
   have h:=Option.some.inj h
   subst h
   exact⟨_,_,_,rfl,h1,h2,h3⟩
  ·cases h
 ·cases h
end HS
namespace HS
open PySem PySem.Spec L2 PyProof.Rows
mutual
noncomputable def QjX(n:Nat)(Θ:Th)(st:Stmt):Option DS:=match n with
 | 0=>none
 | n+1=>match st with
  | .Pass _=>some Qi
  | .Break _=>some QpA
  | .Continue _=>some Qpk
  | .Raise _ _ _=>some QF
  | .Return none _=>some QpV
  | .Return (some e) _=>(Qo n Θ e).map QH
  | .Expr (.Constant (.str _) _ _) _=>some Qi
  | .Expr (.Call (.Attribute o m apos) args [] cpos) _=>if(apos.endLine == cpos.line)=true then QjQ n Θ o m args else none
  | .Expr (.Call (.Name x p) args [] cpos) _=>(Qo n Θ (.Call (.Name x p) args [] cpos)).map Qo5
  | .Assign [.Name x _] e _=>(Θ.QaR x).bind λi=>(Qo n Θ e).map λfa=>Qu i (if Qk9 e=true then Qao fa else fa)
  | .Assign [.Tuple es k p] e _=>if Qgg e=true/\Qru e=false then(QfV Θ (.Tuple es k p)).bind λt=>(Qo n Θ e).map λfa=>QeS t fa else none
  | .Assign [.Subscript a i _] e _=>(Qdx n Θ a).bind λq=>(Qo n Θ i).bind λfi=>(Qo n Θ e).map λfa=>Qbf q.1 q.2 fi fa
  | .If c a b _=>(QaQ n Θ c).bind λg=>(QaC n Θ a).bind λf1=>(QaC n Θ b).map λf2=>sIf g f1 f2
  | .For tg iter body [] _=>match Qma tg iter body with
   | some q=>(Θ.slot q.t).bind λx=>(Θ.QaR q.r).bind λy=>(Θ.slot q.r).bind λy'=>if y'=y then(Qo n Θ q.i).bind λfi=>(Qo n Θ q.e).map λfa=>Qjf x y fi fa else none
   | none=>(QfV Θ tg).bind λt=>(Qfv n Θ tg iter).bind λfi=>(QaC n Θ body).map λfb=>QaW fi t fb
  | .While c body [] _=>(QaQ n Θ c).bind λg=>(QaC n Θ body).map λfb=>Qck g fb
  | .Try a b c d p=>Θ.tr (.Try a b c d p)
  | _=>none
noncomputable def QaC(n:Nat)(Θ:Th)(sts:List Stmt):Option DS:=match n with
  | 0=>none
  | n+1=>match sts with
    | []=>some Qi
    | st::r=>
     match Qo6 (st::r)with
     | some q=>(Θ.slot q.x).bind λx=>(Θ.QaR q.a).bind λa=>(Θ.QaR q.b).bind λb=>(Θ.QaR q.c).bind λc=>(QaC n Θ q.r).map λg=>Qf (Qne x a b c) g
     | none=>
     match Qp3 (st::r)with
     | some q=>(Θ.QaR q.ln).bind λln=>(Θ.slot q.t).bind λt=>(Θ.slot q.b).bind λb=>(Θ.slot q.i).bind λi=>(Θ.slot q.k).bind λk=>(Qo n Θ q.e1).bind λg1=>(Qo n Θ q.e2).bind λg2=>(Qo n Θ q.e3).bind λg3=>(Qo n Θ q.e4).bind λg4=>(QaC n Θ q.r).map λg=>Qf (Qjc t b ln (Qa i) (Qa k) g1 g2 g3 g4) g
     | none=>
      match QpY (st::r)with
      | some q=>if Θ.gl "list" =true then(Θ.QaR q.x).bind λx=>(Θ.slot q.x).bind λx'=>if x'=x then(Qo n Θ q.y).bind λfy=>(Qo n Θ q.i1).bind λf1=>(Qo n Θ q.e1).bind λg1=>(Qo n Θ q.i2).bind λf2=>(Qo n Θ q.e2).bind λg2=>(QaC n Θ q.r).map λg=>Qf (QiE x fy f1 g1 f2 g2) g else none else none
      | none=>(QjX n Θ st).bind λf=>(QaC n Θ r).map λg=>Qf f g
end
theorem Qh9{n:Nat}{Θ:Th}{e:Expr}{f:DE}(h:Qo n Θ e=some f):Quv e=false:=by
 cases n with
 | zero=>exact nomatch (show(none:Option DE)=some _ from h)
 | succ n=>cases e<;>first | rfl | (exact nomatch (show(none:Option DE)=some _ from h))
theorem QuD{n:Nat}{Θ:Th}{elt:Expr}{gens:List Comprehension}{scope:Scope}{pos:Pos}{f:DE}(h:Qo n Θ (.ListComp elt gens scope pos)=some f):∃m tg iter ifs t fi ft fe,n=m+1/\gens=[⟨tg,iter,ifs,0⟩]/\QfV (inner Θ scope) tg=some t/\QjS Θ scope t=true∧
  Qfv m Θ tg iter=some fi/\Qfq m (inner Θ scope) ifs=some ft/\Qo m (inner Θ scope) elt=some fe/\f=QO fi t (QhM Θ scope) ft fe:=by
 cases n with
 | zero=>exact nomatch (show(none:Option DE)=some _ from h)
 | succ n=>
  match gens,h with
  | [⟨tg,iter,ifs,k⟩],h=>
   by_cases hk:k=0
   ·subst hk
    (conv at h=>lhs;whnf)
    obtain⟨t,ht,h⟩:=bind1 h
    split at h
    ·rename_i hc
     simp only[Zj]at hc
     obtain⟨fi,h1,h⟩:=bind1 h
     obtain⟨ft,fe,h2,h3,rfl⟩:=Qak h
     exact⟨n,tg,iter,ifs,t,fi,ft,fe,rfl,rfl,ht,hc.1,h1,h2,h3,rfl⟩
    ·cases h
   ·exfalso
    cases k with
    | ofNat k=>
     cases k with
     | zero=>exact hk rfl
     | succ k=>exact nomatch (show(none:Option DE)=some _ from h)
    | negSucc k=>exact nomatch (show(none:Option DE)=some _ from h)
  | [],h=>exact nomatch (show(none:Option DE)=some _ from h)
  | ⟨_,_,_,.ofNat 0⟩::_::_,h=>exact nomatch (show(none:Option DE)=some _ from h)
  | ⟨_,_,_,.ofNat (k+1)⟩::_::_,h=>exact nomatch (show(none:Option DE)=some _ from h)
  | ⟨_,_,_,.negSucc k⟩::_::_,h=>exact nomatch (show(none:Option DE)=some _ from h)
theorem Qu3{n:Nat}{X:Cx}{Θ:Th}{x:Str}{p pos:Pos}{e:Expr}{fa:DE}{i:Nat}(ok:Qas X Θ)(hx:Θ.QaR x=some i)(h:Qo n Θ e=some fa):S1 X (.Assign [.Name x p] e pos) (Qu i fa):=by
 have hN:X.N.Nodup:=by rw[ok.N];exact ok.nd
 obtain⟨h1,h2,h3⟩:=QbT ok.toCtxB hx
 by_cases hc:Qgg e=true
 ·have he:=(QcX n).E X Θ e fa ok h
  exact Qmt λH0 A0=>QeA hN h1 h2 (he H0 A0) (Qcm hc) h3
 ·cases e with
  | ListComp elt gens scope cpos=>
   obtain⟨m,tg,iter,ifs,t,fi,ft,fe,rfl,rfl,ht,hco,g1,g2,g3,rfl⟩:=QuD h
   obtain⟨S,cap,inn⟩:=Qnk ok hco
   obtain⟨i1,i2⟩:=(QcX m).I X Θ tg iter fi ok g1
   exact Qu5 hN h1 h2 h3 ok.calm S i1 cap (λcl C fp s3 H3=>⟨Qme (inn cl C fp s3 H3) ht,(QcX m).Ts _ _ ifs ft (inn cl C fp s3 H3) g2,(QcX m).E _ _ elt fe (inn cl C fp s3 H3) g3⟩) i2
  | SetComp _ _ _ _=>cases n<;>exact nomatch (show(none:Option DE)=some _ from h)
  | DictComp _ _ _ _ _=>cases n<;>exact nomatch (show(none:Option DE)=some _ from h)
  | _=>exact absurd rfl hc
theorem Qtz{X:Cx}{x:Str}{p pos:Pos}{e:Expr}{fa:DE}{i:Nat}{n:Nat}{Θ:Th}(ok:Qas X Θ)(hx:Θ.QaR x=some i)(h:Qo n Θ e=some fa)(ha:Qk9 e=true):S1 X (.Assign [.Name x p] e pos) (Qu i (Qao fa)):=by
 have hN:X.N.Nodup:=by rw[ok.N];exact ok.nd
 obtain⟨h1,h2,h3⟩:=QbT ok.toCtxB hx
 have hc:Qgg e=true:=by cases e<;>first | rfl | cases ha
 have he:=Qr9 ((QcX n).E X Θ e fa ok h)
 exact Qmt λH0 A0=>QeA hN h1 h2 (he H0 A0) (Qcm hc) h3
theorem Qcn{a i e:Expr}{p:Pos}{l:Nat}{env:Env}:swapsWithSole [.Subscript a i p] e l env=pure false:=by
 cases e<;>rfl
structure QwR (n:Nat):Prop where
 S:∀X Θ st f,Qas X Θ->QjX n Θ st=some f->S1 X st f
 Ss:∀X Θ sts f,Qas X Θ->QaC n Θ sts=some f->SS X sts f
theorem QwJ{n:Nat}(ih:QwR n):∀X Θ st f,Qas X Θ->QjX (n+1) Θ st=some f->S1 X st f:=by
 intro X Θ st f ok h
 have hN:X.N.Nodup:=by rw[ok.N];exact ok.nd
 have E:=QcX n
 cases st with
 | Pass pos=>change some Qi=some f at h;cases h;exact Qve
 | Break pos=>change some QpA=some f at h;cases h;exact QsT
 | Continue pos=>change some Qpk=some f at h;cases h;exact Qug
 | Raise a b pos=>change some QF=some f at h;cases h;exact QtC
 | Return e pos=>
  cases e with
  | none=>change some QpV=some f at h;cases h;exact QuN
  | some e=>
   change(Qo n Θ e).map QH=some f at h
   obtain⟨fa,h1,rfl⟩:=Zf.mp h
   exact QwG (E.E X Θ e fa ok h1)
 | Expr e pos=>
  cases e with
  | Constant c k p=>
   cases c with
   | str x=>
    change some Qi=some f at h
    cases h
    exact λH0 A0=>Qv9.mono λE σ H ⟨ρ,hs,F,o,rel,e,q⟩=>by cases e;exact q σ H F rel
   | _=>exact nomatch (show(none:Option DS)=some _ from h)
  | Call fn args kws cpos=>
   cases fn with
   | Attribute o m apos=>
    cases kws with
    | nil=>
     change(if(apos.endLine == cpos.line)=true then QjQ n Θ o m args else none)=some f at h
     split at h
     ·rename_i hl
      exact Qr3 ok h hl
     ·cases h
    | cons _ _=>exact nomatch (show(none:Option DS)=some _ from h)
   | Name x p=>
    cases kws with
    | nil=>
     change(Qo n Θ (.Call (.Name x p) args [] cpos)).map Qo5=some f at h
     obtain⟨fa,h1,rfl⟩:=Zf.mp h
     exact λH0 A0=>Qub (Qh0 (E.E X Θ _ fa ok h1 H0 A0) rfl)
    | cons _ _=>exact nomatch (show(none:Option DS)=some _ from h)
   | _=>exact nomatch (show(none:Option DS)=some _ from h)
  | _=>exact nomatch (show(none:Option DS)=some _ from h)
 | Assign ts e pos=>
  match ts,h with
  | [t],h=>
   cases t with
   | Name x p=>
    change((Θ.QaR x).bind λi=>(Qo n Θ e).map λfa=>Qu i (if Qk9 e=true then Qao fa else fa))=some f at h
    obtain⟨i,fa,h1,h2,rfl⟩:=Qak h
    split
    ·rename_i ha;exact Qtz ok h1 h2 ha
    ·exact Qu3 ok h1 h2
   | Tuple es k p=>
    change(if Qgg e=true/\Qru e=false then(QfV Θ (.Tuple es k p)).bind λt=>(Qo n Θ e).map λfa=>QeS t fa else none)=some f at h
    split at h
    ·rename_i hc
     obtain⟨t,fa,h1,h2,rfl⟩:=Qak h
     refine Qua (E.E X Θ e fa ok h2) (Qme ok h1) (by show swapsWith e (some (.Tuple es k p)) pos.line X.env=pure false;exact Qcm hc.1) ?_ rfl
     cases e<;>first | rfl | (cases hc.2)
    ·cases h
   | Subscript a i p=>
    change((Qdx n Θ a).bind λq=>(Qo n Θ i).bind λfi=>(Qo n Θ e).map λfa=>Qbf q.1 q.2 fi fa)=some f at h
    obtain⟨q,h1,h⟩:=bind1 h
    obtain⟨fi,fa,h2,h3,rfl⟩:=Qak h
    obtain⟨sp,_⟩:=Qi1 n X Θ a q ok h1
    have ns:=Qh9 h2
    refine QvU (E.E X Θ e fa ok h3) sp (E.E X Θ i fi ok h2) λte to ti he ho hi=>QdX he (Qey ho hi set_list ?_) Qcn ?_ rfl
    ·intro v;cases i<;>first | rfl | (cases ns)
    ·cases e<;>rfl
   | _=>exact nomatch (show(none:Option DS)=some _ from h)
  | [],h=>exact nomatch (show(none:Option DS)=some _ from h)
  | t::_::_,h=>cases t<;>exact nomatch (show(none:Option DS)=some _ from h)
 | AugAssign t op e pos=>
  cases t with
  | _=>exact nomatch (show(none:Option DS)=some _ from h)
 | If c a b pos=>
  change((QaQ n Θ c).bind λg=>(QaC n Θ a).bind λf1=>(QaC n Θ b).map λf2=>sIf g f1 f2)=some f at h
  obtain⟨g,h1,h⟩:=bind1 h
  obtain⟨f1,f2,h2,h3,rfl⟩:=Qak h
  exact QxW (E.T X Θ c g ok h1) (ih.Ss X Θ a f1 ok h2) (ih.Ss X Θ b f2 ok h3)
 | For tg iter body els pos=>
  cases els with
  | nil=>
   change(match Qma tg iter body with
    | some q=>(Θ.slot q.t).bind λx=>(Θ.QaR q.r).bind λy=>(Θ.slot q.r).bind λy'=>if y'=y then(Qo n Θ q.i).bind λfi=>(Qo n Θ q.e).map λfa=>Qjf x y fi fa else none
    | none=>_)=some f at h
   split at h
   ·rename_i q hq
    obtain⟨x,hx,h⟩:=bind1 h
    obtain⟨y,hy,h⟩:=bind1 h
    obtain⟨y',hy',h⟩:=bind1 h
    split at h
    case isFalse=>cases h
    rename_i hyy
    subst hyy
    obtain⟨fi,fa,h2,h3,rfl⟩:=Qak h
    obtain⟨p1,p2,a,b,c,rfl,rfl,rfl⟩:=Qqy hq
    obtain⟨l1,l2,l3⟩:=QbT ok.toCtxB hy
    have ns:=Qh9 h2
    refine Qwy λH0 A0=>QqN ok.pass ok.calm (Qqu (Q6 ok.toCtxB hx)) (QkQ hN l1 l2 l3) (QaX (QdX (E.E X Θ q.e fa ok h3 H0 A0) (Qey (Q6 ok.toCtxB hy') (E.E X Θ q.i fi ok h2 H0 A0) set_list ?_) Qcn ?_ rfl) QoB) (λ_=>rfl)
    ·intro v;cases hi:q.i<;>first | rfl | (rw[hi]at ns;cases ns)
    ·cases q.e<;>rfl
   ·obtain⟨t,h1,h⟩:=bind1 h
    obtain⟨fi,fb,h2,h3,rfl⟩:=Qak h
    obtain⟨i1,i2⟩:=E.I X Θ tg iter fi ok h2
    exact Qwm ok.pass ok.calm i1 (Qme ok h1) (ih.Ss X Θ body fb ok h3) i2
  | cons _ _=>exact nomatch (show(none:Option DS)=some _ from h)
 | While c body els pos=>
  cases els with
  | nil=>
   change((QaQ n Θ c).bind λg=>(QaC n Θ body).map λfb=>Qck g fb)=some f at h
   obtain⟨g,fb,h1,h2,rfl⟩:=Qak h
   exact QrF ok.pass (E.T X Θ c g ok h1) (ih.Ss X Θ body fb ok h2)
  | cons _ _=>exact nomatch (show(none:Option DS)=some _ from h)
 | Try a b c d pos=>exact ok.tr _ _ h
 | _=>exact nomatch (show(none:Option DS)=some _ from h)
theorem QtQ:∀n,QwR n
 | 0=>⟨λ_ _ _ _ _ h=>(nomatch (show(none:Option DS)=some _ from h)),λ_ _ _ _ _ h=>(nomatch (show(none:Option DS)=some _ from h))⟩
 | n+1=>by
  have ih:=QtQ n
  refine⟨QwJ ih,λX Θ sts f ok h=>?_⟩
  match sts,h with
  | [],h=>change some Qi=some f at h;cases h;exact Qxr
  | st::r,h=>
   change(match Qo6 (st::r)with
    | some q=>(Θ.slot q.x).bind λx=>(Θ.QaR q.a).bind λa=>(Θ.QaR q.b).bind λb=>(Θ.QaR q.c).bind λc=>(QaC n Θ q.r).map λg=>Qf (Qne x a b c) g
    | none=>_)=some f at h
   split at h
   ·rename_i q hq
    obtain⟨x,hx,h⟩:=bind1 h
    obtain⟨a,ha,h⟩:=bind1 h
    obtain⟨b,hb,h⟩:=bind1 h
    obtain⟨c,g,hc,hg,rfl⟩:=Qak h
    obtain⟨s1,s2,s3,hs,m1,m2,m3⟩:=Qtd hq
    rw[hs]
    obtain⟨_,_,_,_,_,_,rfl⟩:=Qhq m1
    obtain⟨_,_,_,_,_,_,rfl⟩:=Qhq m2
    obtain⟨_,_,_,_,_,_,rfl⟩:=Qhq m3
    have hN:X.N.Nodup:=by rw[ok.N];exact ok.nd
    have B:=ok.toCtxB
    obtain⟨a1,a2,a3⟩:=QbT B ha
    obtain⟨b1,b2,b3⟩:=QbT B hb
    obtain⟨c1,c2,c3⟩:=QbT B hc
    exact Qwr (QeA hN a1 a2 (Qj6 QhH (Q6 B hx) QjY λ_ _=>rfl) (Qcm rfl) a3) (QeA hN b1 b2 (Qj6 QhH (Q6 B hx) QjY λ_ _=>rfl) (Qcm rfl) b3) (QeA hN c1 c2 (Qj6 QhH (Q6 B hx) QjY λ_ _=>rfl) (Qcm rfl) c3) (ih.Ss X Θ q.r g ok hg)
   change(match Qp3 (st::r)with
    | some q=>(Θ.QaR q.ln).bind λln=>(Θ.slot q.t).bind λt=>(Θ.slot q.b).bind λb=>(Θ.slot q.i).bind λi=>(Θ.slot q.k).bind λk=>(Qo n Θ q.e1).bind λg1=>(Qo n Θ q.e2).bind λg2=>(Qo n Θ q.e3).bind λg3=>(Qo n Θ q.e4).bind λg4=>(QaC n Θ q.r).map λg=>Qf (Qjc t b ln (Qa i) (Qa k) g1 g2 g3 g4) g
    | none=>_)=some f at h
   split at h
   ·rename_i q hq
    obtain⟨ln,hln,h⟩:=bind1 h
    obtain⟨t,ht,h⟩:=bind1 h
    obtain⟨b,hb,h⟩:=bind1 h
    obtain⟨i,hi,h⟩:=bind1 h
    obtain⟨k,hk,h⟩:=bind1 h
    obtain⟨g1,h1,h⟩:=bind1 h
    obtain⟨g2,h2,h⟩:=bind1 h
    obtain⟨g3,h3,h⟩:=bind1 h
    obtain⟨g4,g,h4,h5,rfl⟩:=Qak h
    obtain⟨p,ea,eb,ec,ed,kk,p1,p2,t1,t2,t3,t4,p3,p4,p5,p6,hs,n1,n2,n3,n4,m1,m2,m3,m4⟩:=QtG hq
    rw[hs]
    obtain⟨_,_,_,rfl⟩:=QcY n1
    obtain⟨_,_,_,rfl⟩:=QcY n2
    obtain⟨_,_,_,rfl⟩:=QcY n3
    obtain⟨_,_,_,rfl⟩:=QcY n4
    obtain⟨_,_,_,rfl⟩:=QcY m1
    obtain⟨_,_,_,rfl⟩:=QcY m2
    obtain⟨_,_,_,rfl⟩:=QcY m3
    obtain⟨_,_,_,rfl⟩:=QcY m4
    have E:=QcX n
    have hN:X.N.Nodup:=by rw[ok.N];exact ok.nd
    obtain⟨l1,l2,l3⟩:=QbT ok.toCtxB hln
    have B:=ok.toCtxB
    refine Qwp (λH0 A0=>QeA hN l1 l2 (Qqw (QaB (Qgk (Qfc (Q6 B ht)) (QdV (Q6 B hi)) (λ_ _=>rfl) H0 A0) (QaB (Qgk (Qfc (Q6 B ht)) (QdV (Q6 B hk)) (λ_ _=>rfl) H0 A0) (QaB (Qgk (Qfc (Q6 B hb)) (QdV (Q6 B hi)) (λ_ _=>rfl) H0 A0) (QaB (Qgk (Qfc (Q6 B hb)) (QdV (Q6 B hk)) (λ_ _=>rfl) H0 A0) Qds))))) (Qcm rfl) l3) (λH0 A0=>QdX (E.E X Θ q.e1 g1 ok h1 H0 A0) (Qey (Q6 B ht) (QdV (Q6 B hi) H0 A0) set_list λv=>rfl) Qcn ?_ rfl) (λH0 A0=>QdX (E.E X Θ q.e2 g2 ok h2 H0 A0) (Qey (Q6 B ht) (QdV (Q6 B hk) H0 A0) set_list λv=>rfl) Qcn ?_ rfl) (λH0 A0=>QdX (E.E X Θ q.e3 g3 ok h3 H0 A0) (Qey (Q6 B hb) (QdV (Q6 B hi) H0 A0) set_list λv=>rfl) Qcn ?_ rfl) (λH0 A0=>QdX (E.E X Θ q.e4 g4 ok h4 H0 A0) (Qey (Q6 B hb) (QdV (Q6 B hk) H0 A0) set_list λv=>rfl) Qcn ?_ rfl) (ih.Ss X Θ q.r g ok h5)
    ·cases q.e1<;>rfl
    ·cases q.e2<;>rfl
    ·cases q.e3<;>rfl
    ·cases q.e4<;>rfl
   change(match QpY (st::r)with
    | some q=>if Θ.gl "list" =true then(Θ.QaR q.x).bind λx=>(Θ.slot q.x).bind λx'=>if x'=x then(Qo n Θ q.y).bind λfy=>(Qo n Θ q.i1).bind λf1=>(Qo n Θ q.e1).bind λg1=>(Qo n Θ q.i2).bind λf2=>(Qo n Θ q.e2).bind λg2=>(QaC n Θ q.r).map λg=>Qf (QiE x fy f1 g1 f2 g2) g else none else none
    | none=>(QjX n Θ st).bind λf=>(QaC n Θ r).map λg=>Qf f g)=some f at h
   split at h
   ·rename_i q hq
    split at h
    case isFalse=>cases h
    rename_i hg
    obtain⟨x,hx,h⟩:=bind1 h
    obtain⟨x',hx',h⟩:=bind1 h
    split at h
    case isFalse=>cases h
    rename_i hxx
    subst hxx
    obtain⟨fy,h1,h⟩:=bind1 h
    obtain⟨f1,h2,h⟩:=bind1 h
    obtain⟨g1,h3,h⟩:=bind1 h
    obtain⟨f2,h4,h⟩:=bind1 h
    obtain⟨g2,g,h5,h6,rfl⟩:=Qak h
    obtain⟨p1,p2,p3,p4,a1,a2,a3,b1,b2,b3,hs⟩:=Qsp hq
    rw[hs]
    have E:=QcX n
    have hN:X.N.Nodup:=by rw[ok.N];exact ok.nd
    obtain⟨g1',g2',g3'⟩:=QgB ok.toCtxB hg
    obtain⟨l1,l2,l3⟩:=QbT ok.toCtxB hx
    have n1:=Qh9 h2
    have n2:=Qh9 h4
    refine QwE (λH0 A0=>QeA hN l1 l2 (QfA Qg5 g1' (ok.mg _ (by decide+kernel)) Zbn (Qgi (E.E X Θ q.y fy ok h1) Qjq (QaI h1 _ _) H0 A0) (by decide) (by decide) (QaI h1 _ _) rfl) (Qcm rfl) l3) (λH0 A0=>QdX (E.E X Θ q.e1 g1 ok h3 H0 A0) (Qey (Q6 ok.toCtxB hx') (E.E X Θ q.i1 f1 ok h2 H0 A0) set_list ?_) Qcn ?_ rfl) (λH0 A0=>QdX (E.E X Θ q.e2 g2 ok h5 H0 A0) (Qey (Q6 ok.toCtxB hx') (E.E X Θ q.i2 f2 ok h4 H0 A0) set_list ?_) Qcn ?_ rfl) (ih.Ss X Θ q.r g ok h6)
    ·intro v;cases hi:q.i1<;>first | rfl | (rw[hi]at n1;cases n1)
    ·cases q.e1<;>rfl
    ·intro v;cases hi:q.i2<;>first | rfl | (rw[hi]at n2;cases n2)
    ·cases q.e2<;>rfl
   ·obtain⟨fs,fr,h1,h2,rfl⟩:=Qak h
    exact Que (ih.S X Θ st fs ok h1) (ih.Ss X Θ r fr ok h2)
noncomputable def Qd6(k:Nat)(ds:List D):En:=ds.map (λd=>some (d,d.flat))++List.replicate (k-ds.length) none
noncomputable def outD:Out->Option (D×Bool)
 | .rt d fr=>some (d,fr)
 | .nx _=>some (.non,true)
 | _=>none
noncomputable def Qq(k:Nat)(f:DS):Den:=λds=>(f (Qd6 k ds)).bind outD
theorem Rps.parts{K:PySem.W.Frag}{H:Hp}:∀{ds:List D}{vs:List V}{F:List Addr},Rps K H ds vs F→
  ∃Fs:List (List Addr),(∀L∈Fs,∀a∈L,a∈F)/\∀(i:Nat) (d:D),ds[i]? =some d->∃v,vs[i]? =some v/\Rp K H d v (Fs.getD i [])
 | [],_,_,h=>⟨[],λL hL=>by simp at hL,λi d e=>by simp at e⟩
 | d::ds,_,_,h=>by
  simp only[Rps]at h
  obtain⟨v,ws,F1,F2,rfl,rfl,r,q⟩:=h
  obtain⟨Fs,h1,h2⟩:=Rps.parts q
  refine⟨F1::Fs,λL hL a ha=>?_,λi d' e=>?_⟩
  ·rcases Zm.mp hL with rfl | hL
   ·exact Zh _ ha
   ·exact Zc _ (h1 L hL a ha)
  ·cases i with
   | zero=>simp at e;subst e;exact⟨v,by simp,by simpa using r⟩
   | succ i=>obtain⟨w,hw,hr⟩:=h2 i d' (by simpa using e);exact⟨w,by simpa using hw,by simpa using hr⟩
theorem Qid{k:Nat}{ds:List D}{i:Nat}{d:D}{b:Bool}(h:(Qd6 k ds)[i]? =some (some (d,b))):ds[i]? =some d/\b=d.flat:=by
 unfold Qd6 at h
 by_cases hi:i<ds.length
 ·rw[Zau (by simpa using hi),Zl]at h
  cases e:ds[i]? with
  | none=>rw[e]at h;cases h
  | some a=>rw[e]at h;cases h;exact⟨rfl,rfl⟩
 ·rw[Zbz (by simpa using hi),ZbE]at h
  split at h<;>cases h
theorem QrG{K:PySem.W.Frag}{H:Hp}{ds:List D}{vs:List V}{F:List Addr}{N:List Str}(r:Rps K H ds vs F):∃F0,Rel K H F [] (Qd6 N.length ds) F0 (start N vs) H:=by
 obtain⟨Fs,h1,h2⟩:=r.parts
 have hl:=r.length
 have src:∀i a,a∈Fs.getD i []->a∈F:=λi a ha=>by
  by_cases hi:i<Fs.length
  ·have:Fs.getD i []∈Fs:=by rw[Zar,Zam hi];exact List.getElem_mem hi
   exact h1 _ this a ha
  ·rw[Zar,Zs (by omega)]at ha;simp at ha
 refine⟨λi=>Fs.getD i [],?_,λi d b e=>?_,λi d e=>?_,λi d b e a ha=> .inr (src i a ha),λt ht=>absurd ht (by simp),QN.refl _⟩
 ·unfold Qd6 L2.start;simp[hl]
 ·obtain⟨e1,_⟩:=Qid e
  obtain⟨v,hv,hr⟩:=h2 i d e1
  refine⟨v,?_,hr⟩
  have hi:i<vs.length:=(Zd.mp hv).1
  unfold L2.start
  rw[Zau (by simpa using hi),Zl,hv];rfl
 ·obtain⟨e1,e2⟩:=Qid e
  obtain⟨v,hv,hr⟩:=h2 i d e1
  have z:Fs.getD i []=[]:=hr.QbY e2.symm
  simp only[z]
  exact⟨(Qeh d e2.symm).symm,Zaq,λa ha=>by simp at ha,λ_ _ _ _ _ a ha=>by simp at ha,λ_ _ a ha=>by simp at ha⟩
section
variable (P:Program) (w:World) (K:PySem.W.Frag) (mg:Str->Option Value) (base:Heap)
def Known(k:Nat)(x:Str)(r:FnR):Prop:=∃f fd ps,Qby P w K mg base CX0 k f fd ps (spV K r.n r.den)/\mg x=some (.ref f)/\PySem.W.keepIn K (.ref f)=true∧
 ∀m,m<=r.dfl.length->∃ds dvs,Binds K fd ps ds/\QD dvs ds/\∀H,Rps K H (r.dfl.drop (r.dfl.length-m)) dvs []
def Qct(k:Nat)(Γ:List (Str×FnR)):Prop:=∀x r,look x Γ=some r->Known P w K mg base k x r
structure QgL (cs:List (Str×Int)):Prop where
 bn:∀x∈Qm8,mg x=none
 cs:∀x i,look x cs=some i->∃t,mg x=some (.int i t)
end
section
variable {P:Program}{w:World}{K:PySem.W.Frag}{mg:Str->Option Value}{base:Heap}
theorem Qct.nil{k:Nat}:Qct P w K mg base k []:=λx r h=>by cases h
theorem Known.mono{j k:Nat}{x:Str}{r:FnR}(h:Known P w K mg base j x r)(hk:j<=k):Known P w K mg base k x r:=by
 obtain⟨f,fd,ps,h1,h2⟩:=h
 exact⟨f,fd,ps,h1.mono hk,h2⟩
theorem Qct.cons{k:Nat}{Γ:List (Str×FnR)}{x:Str}{r:FnR}(t:Qct P w K mg base k Γ)(h:Known P w K mg base (k+1) x r):Qct P w K mg base (k+1) ((x,r)::Γ):=λy q e=>by
 unfold look at e
 split at e
 ·rename_i z;cases e;subst z;exact h
 ·exact(t y q e).mono (Zbh _)
noncomputable def namesOf(sc:Scope):List Str:=(sc.names.filter λy=>QtT y.2).map (·.1)
noncomputable def QkO(st:Stmt)(Γ:List (Str×FnR))(cs:List (Str×Int)):Th:=⟨namesOf (QA st),(QA st).names,Γ,cs,λ_=>none⟩
theorem Qun{CX:CXT}{xe:Value->Shared->Prop}{st:Stmt}{ps:List Str}{qual:Str}{f:Addr}{cdv:Value}{A:Around}{outer:List Env}{s:Shared}{H:Hp}{E:XK}{k:Nat}{Γ:List (Str×FnR)}{cs:List (Str×Int)}(S:Qc8 (namesOf (QA st)) ps (QA st))(M:QgL mg cs)(tab:Qct P w K mg base k Γ)
  (hr:QaE k (A.deeper (envOfC qual (QA st) s.heap.objs.size f cdv))) (hp:PassesOwn (model P w) (A.deeper (envOfC qual (QA st) s.heap.objs.size f cdv)) (envOfC qual (QA st) s.heap.objs.size f cdv) xe):
  Qas ((Qhf CX P w K mg base (namesOf (QA st)) qual (QA st) f cdv A outer s H E).Qed xe) (QkO st Γ cs) where
 N:=rfl
 nd:=S.nd
 lc:=λx h=>by rw[QbC]at h;exact h
 ce:=λx h=>by rw[QbC]at h;exact⟨h,rfl⟩
 fe:=λx h=>by rw[QbC]at h;exact absurd rfl (S.nofree _ (Zad h))
 gl:=λx h=>by rw[QbC]at h;exact h
 calm:=decide_eq_true hr.hd
 pass:=hp
 tr:=λ_ _ h=>by cases h
 units:=hr.units
 mg:=M.bn
 fns:=λx r h=>by
  obtain⟨f',fd,ps',h1,h2,h3,h4⟩:=tab x r h
  exact⟨k,f',fd,ps',h1,hr,h2,h3,h4⟩
 cs:=M.cs
theorem QwB{st:Stmt}{ps:List Str}{qual:Str}{f:Addr}{cdv:Value}{A:Around}{outer:List Env}{s:Shared}{H:Hp}{E:XK}{k:Nat}{Γ:List (Str×FnR)}{cs:List (Str×Int)}(S:Qc8 (namesOf (QA st)) ps (QA st))(M:QgL mg cs)(tab:Qct P w K mg base k Γ)
  (hr:QaE k (A.deeper (envOfC qual (QA st) s.heap.objs.size f cdv))):Qas (Qhf CX0 P w K mg base (namesOf (QA st)) qual (QA st) f cdv A outer s H E).nox (QkO st Γ cs):=Qun S M tab hr PassesOwn.never
theorem Qp4{x qual:Str}{st:Stmt}{f:Addr}{fd:FuncData}{ps:List Str}{k n:Nat}{Γ:List (Str×FnR)}{cs:List (Str×Int)}{g:DS}(F:Fun K x qual st f fd)(S:Qc8 (namesOf (QA st)) ps (QA st))(M:QgL mg cs)(tab:Qct P w K mg base k Γ)
  (hc:QaC n (QkO st Γ cs) (Qb5 st)=some g):Qby P w K mg base CX0 (k+1) f fd ps (spV K ps.length (Qq (namesOf (QA st)).length g)):=by
 refine F.ok S (Quc rfl) λcdv A outer s H vs Q E hr h=>?_
 obtain⟨ds,L,d,fr,rps,hl,hd,q⟩:=h
 refine⟨_,(QtQ n).Ss _ _ _ g (QwB S M tab hr) hc H L,?_⟩
 obtain⟨F0,rel⟩:=QrG (N:=namesOf (QA st)) rps
 unfold Qq at hd
 obtain⟨o,ho,hd⟩:=bind1 hd
 refine⟨_,[],F0,o,rel,ho,?_⟩
 cases o with
 | nx ρ=>
  cases hd
  exact λσ H' F' rel'=>q .non H' [] ⟨rel'.same,.QjG,λa ha=>by simp at ha,λ_=>⟨Zaq,rfl,λa ha=>by simp at ha⟩⟩
 | bk ρ=>cases hd
 | ct ρ=>cases hd
 | rt d' fr'=>
  cases hd
  exact λv H' G r=>q v H' G r
structure Fact (K:PySem.W.Frag) (x:Str) (st:Stmt):Prop where
 ex:∃f fd,Fun K x x st f fd/\PySem.W.nsIn K mainGlobals x=some (some (.ref f))
theorem fact_mk{x:Str}{st:Stmt}{f:Addr}{oc:Value}{od an:Option Addr}{osl:Array (Option Value)}{kV doc pm cdv ct:Value}(a:PySem.W.nsIn K mainGlobals x=some (some (.ref f)))(l:K.lookup f=some ⟨oc,od,.func (PySem.W.fnOf x x (Qe0 st) (Qb5 st) (QA st) .none kV doc pm an cdv ct),osl⟩)
  (c:PySem.W.codeIn K cdv x=true) (k:PySem.W.keepIn K (.ref f)=true):Fact K x st:=⟨f,_,Qv1 l c k,a⟩
def Qx(x:Str)(st:Stmt)(ps:List Str):Prop:=∀(kV doc pm:Value) (an:Option Addr) (cdv ct:Value) (us:List Value),us.length=ps.length->bindArgs (PySem.W.fnOf x x (Qe0 st) (Qb5 st) (QA st) .none kV doc pm an cdv ct) ⟨us,[]⟩=pure (ps.zip us)
theorem Qz{h:Heap}{x:Str}{st:Stmt}{ps:List Str}{k n:Nat}{Γ:List (Str×FnR)}{cs:List (Str×Int)}{g:DS}(X:K.In h)(G:h.Ns mainGlobals mg)(F:Fact K x st)(S:Qc8 (namesOf (QA st)) ps (QA st))(B:Qx x st ps)(M:QgL mg cs)(tab:Qct P w K mg base k Γ)
  (hc:QaC n (QkO st Γ cs) (Qb5 st)=some g):Known P w K mg base (k+1) x ⟨ps.length,[],Qq (namesOf (QA st)).length g⟩:=by
 obtain⟨f,fd,Fn,a⟩:=F.ex
 refine⟨f,fd,ps,Qp4 Fn S M tab hc,ZbX X G a,Fn.kp,λm hm=>⟨[],[],Fn.binds (B ·),.nil,λH=>by simp[Rps]⟩⟩
end
end HS
namespace HS
open PySem PySem.Spec L2 PyProof.Rows
theorem QsU{l:PySem.W.OpenLaw}{k:Nat}{q:Program}{loose:List Str}{XP:(Str->Option Value)->Heap->Prop}{YP:World->Heap->Prop}{d:DefRec}{K:Params->PySem.W.Frag}{den:Den}{x:Str}
  (hn:l.most=some 63) (hdf:d.params.defaults=[]) (hr:QaE k callerA) (hY:∀(w:World) (h:Heap),YP w h->(K w.params).In h)
  (hden:∀ns:List Int,ns.length<=63->∃fr,den [.lst (ns.map .int)]=some (.bl true,fr))
  (F:∀(w:World) (mg:Str->Option Value) (fa:Addr) (h:Heap),(K w.params).In h->h.Ns mainGlobals mg->mg d.name=some (.ref fa)→
   ∃fd:FuncData,(∀(s:Shared) (u:Value),BindsTo s fd ⟨[u],[]⟩ [(x,u)])∧
    ∀base:Heap,(K w.params).In base->base.Ns mainGlobals mg->Qby l.prog w (K w.params) mg base CX0 k fa fd [x] (spV (K w.params) 1 den)):
  PySem.W.WalkO q loose XP YP l.row.toRowW d [] (λf vs=>PySem.call f vs):=by
 refine Att.Qif hn hdf λw s₀ s₁ mg mb fa o pm cd doc a vs ns G Y ho hd hcd hmg hobj hints hlen hg=>?_
 have KX:=hY w _ Y
 obtain⟨fd,hb,hF⟩:=F w mg fa _ KX G.T.g hmg
 have h63:(63:Nat)<=sizeLine:=by decide
 refine Qmi KX G.T.g G.T.b G.T.builtins G.T.nolimit hg hobj hints (Zk hlen h63) hr hF hb (λH hO hS=>?_) λH e s' z=>z
 have fx:Fix (K w.params) H a (ns.map V.int):=by
  rcases hS with(h | ⟨o,h⟩) | ⟨o,its,n,hk,hc,hdn,hda,hz,rv⟩
  ·rcases hO a with z | ⟨o,xs,z⟩<;>rw[h]at z<;>cases z
  ·exact .inl ⟨o,h⟩
  ·have e:=KX a o hk
   rw[hobj]at e
   cases e
   cases hda
   exact .inr ⟨vs,_,hk,by rw[Zx];exact Zk hlen h63,by simpa using rv⟩
 obtain⟨fr,hfr⟩:=hden ns hlen
 have rp:Rp (K w.params) H (.lst (ns.map .int)) (.ref a) []:=by
  simp only[Rp]
  refine⟨by rw[Zx];exact Zk hlen h63,a,_,rfl,.inr ⟨fx,?_⟩⟩
  have gen:∀ns:List Int,Rps (K w.params) H (ns.map .int) (ns.map .int) []:=by
   intro ns
   induction ns with
   | nil=>simp[Rps]
   | cons n ns ih=>simp only[ZL,Rps];exact⟨_,_,[],[],rfl,rfl,.int_mk,ih⟩
  exact gen ns
 refine⟨[.lst (ns.map .int)],[],.bl true,fr,?_,rfl,hfr,λv H' G r=>r.rp.Qf6⟩
 simp only[Rps]
 exact⟨_,_,[],[],rfl,rfl,rp,rfl,rfl⟩
theorem Qx5{P:Program}{w:World}{K:PySem.W.Frag}{mg:Str->Option Value}{h:Heap}{x y:Str}{st:Stmt}{fa:Addr}{k n:Nat}{Γ:List (Str×FnR)}{cs:List (Str×Int)}{g:DS}(X:K.In h)(G:h.Ns mainGlobals mg)(hmg:mg x=some (.ref fa))
  (F:Fact K x st) (S:Qc8 (namesOf (QA st)) [y] (QA st)) (B:Qx x st [y]) (M:QgL mg cs) (tab:∀base:Heap,Qct P w K mg base k Γ) (hc:QaC n (QkO st Γ cs) (Qb5 st)=some g):
  ∃fd:FuncData,(∀(s:Shared) (u:Value),BindsTo s fd ⟨[u],[]⟩ [(y,u)])∧
    ∀base:Heap,K.In base->base.Ns mainGlobals mg->Qby P w K mg base CX0 (k+1) fa fd [y] (spV K 1 (Qq (namesOf (QA st)).length g)):=by
 obtain⟨f,fd,Fn,a⟩:=F.ex
 have e:=hmg.symm.trans (ZbX X G a)
 cases e
 refine⟨fd,λs u=>?_,λbase _ _=>Qp4 Fn S M (tab base) hc⟩
 obtain⟨oc,od,kV,doc,pm,an,cdv,ct,osl,rfl,lk,hcd⟩:=Fn.ex
 exact .of_eq (B kV doc pm an cdv ct [u] rfl)
end HS
namespace HS
open PySem PySem.Spec PyProof.Rows L2
section
variable {P:Program}{w:World}{K:PySem.W.Frag}{mg:Str->Option Value}{base:Heap}
theorem Qo9{h:Heap}{x:Str}{st:Stmt}{ps:List Str}{k:Nat}(X:K.In h)(G:h.Ns mainGlobals mg)(F:Fact K x st)(B:Qx x st ps):Known P w K mg base k x ⟨ps.length,[],λ_=>none⟩:=by
 obtain⟨f,fd,Fn,a⟩:=F.ex
 refine⟨f,fd,ps,⟨λvs H Q E h=>?_,λA outer s H args us vs Q E _ _ _ _ h=>?_⟩,ZbX X G a,Fn.kp,λm hm=>⟨[],[],Fn.binds (B ·),.nil,λH=>by simp[Rps]⟩⟩
 ·obtain⟨ds,L,d,fr,rps,hl,hd,q⟩:=h
  cases hd
 ·obtain⟨ds,L,d,fr,rps,hl,hd,q⟩:=h
  cases hd
end
end HS
namespace HS
open PySem PySem.Spec L2 PyProof.Rows
section
variable {P:Program}{w:World}{H H':Hp}{h0 h h' B:Heap}{fs:List Addr}
def Cov(H:Hp)(B:Heap):Prop:=∀b u,H b=some u->∃o,B.get? b=some o
end
noncomputable def CXR(P:Program)(w:World):CXT:=λouter H s E e s'=>∃ea C H' B a0,e=Value.ref ea/\s'.os=s.os/\AllBare s'.gens/\Un (frs outer) [] H H' s.heap s'.heap/\HOk P w H' s'.heap/\Heap.FlyingW B outer ea C a0 s'.heap∧
 Cov H' B/\(∀b o,s.heap.get? b=some o->b∉frs outer->∃o',B.get? b=some o')/\E C none H'
def Qka(X:Cx)(H0:Hp)(A0:List Addr)(hs:List (V×D×List Addr))(ρ:En)(C:Value)(ea:Addr)(s':Shared):Prop:=∃pins σ H F,Rel X.K H0 A0 hs ρ F σ H∧
 ((∃sg args,Inv X pins σ H sg/\Heap.MadeExcOf sg.heap s'.heap ea C args/\s'.os=sg.os/\s'.gens=sg.gens)∨
  ∃B a0,Inv X pins σ H s'/\Heap.FlyingW B X.stack ea C a0 s'.heap/\Cov H B/\(∀b o,X.s₀.heap.get? b=some o->b∉X.fs->∃o',B.get? b=some o')/\∀p∈X.pn++pins,∃o,B.get? p.1=some o)
end HS
namespace HS
open PySem PySem.Spec L2 PyProof.Rows
noncomputable abbrev DX:=En->Option (Str×En)
def ClsAt(K:PySem.W.Frag)(x:Str)(C:Addr):Prop:=PySem.W.nsIn K mainGlobals x=some (some (.ref C))
def cRz(X:Cx)(H0:Hp)(A0:List Addr)(fx:DX)(σ:L2.St)(H:Hp):Prop:=∃ρ hs F x ρ',Rel X.K H0 A0 hs ρ F σ H/\fx ρ=some (x,ρ')/\∀C ea s',ClsAt X.K x C->Qka X H0 A0 hs ρ' (.ref C) ea s'->X.xe (.ref ea) s'
noncomputable def tRz(X:Cx)(H0:Hp)(A0:List Addr)(fx:DX):TS:=λ_ σ H=>cRz X H0 A0 fx σ H
def Rz(X:Cx)(st:Stmt)(fx:DX):Prop:=∀H0 A0,PS X st (tRz X H0 A0 fx)
def RzS(X:Cx)(sts:List Stmt)(fx:DX):Prop:=∀H0 A0,PSs X sts (tRz X H0 A0 fx)
noncomputable def xNo:DX:=λ_=>none
noncomputable def Qw7(x:Str)(fs:DA):DX:=λρ=>(fs ρ).bind λr=>if r.ds.length<=1 then some (x,ρ)else none
noncomputable def QxK(n:Nat)(xd:List D->Option Str)(fs:DA):DX:=λρ=>(fs ρ).bind λr=>if r.ds.length=n then(xd r.ds).map λc=>(c,ρ)else none
noncomputable def xIf(g:DT)(fa fb:DX):DX:=λρ=>(g ρ).bind λb=>if b=true then fa ρ else fb ρ
noncomputable def Qyx(f:DS)(fx fr:DX):DX:=λρ=>match f ρ with
 | some (.nx ρ')=>fr ρ'
 | some _=>none
 | none=>fx ρ
noncomputable def Qp0(t:Tg)(fb:DS)(fx:DX):List D->DX
 | [],_=>none
 | d::ds,ρ=>(QbO t d ρ).bind λρ1=>match fb ρ1 with
  | some (.nx ρ2)=>Qp0 t fb fx ds ρ2
  | some (.ct ρ2)=>Qp0 t fb fx ds ρ2
  | some _=>none
  | none=>fx ρ1
noncomputable def QyO(fi:DI)(t:Tg)(fb:DS)(fx:DX):DX:=λρ=>(fi ρ).bind λir=>Qp0 t fb fx ir.items (Qau ir.M ρ)
noncomputable def spX(K:PySem.W.Frag)(n:Nat)(xd:List D->Option Str):Sp:=λvs H _ E=>∃ds L x,Rps K H ds vs L/\ds.length=n/\xd ds=some x/\∀C H',ClsAt K x C->QN H H'->E (.ref C) none H'
section
variable {X:Cx}{st:Stmt}{sts:List Stmt}{e:Expr}{es:List Expr}{fs:DA}{f:DS}{fx fr fy:DX}{g:DT}{pos p np cpos:Pos}{x:Str}{k n:Nat}{fa:Addr}{fd:FuncData}{ps:List Str}{xd:List D->Option Str}
theorem Qka.hold{H0:Hp}{A0:List Addr}{hs ts:List (V×D×List Addr)}{ρ:En}{C:Value}{ea:Addr}{s':Shared}(h:Qka X H0 A0 (ts++hs) ρ C ea s'):Qka X H0 A0 hs ρ C ea s':=by
 obtain⟨pins,σ,H,F,rel,q⟩:=h
 exact⟨pins,σ,H,F,rel.QnW,q⟩
end
noncomputable abbrev QyS:List Value:=[.type "ValueError",.type "Exception",.type "BaseException",.type "object"]
structure Qy3 (K:PySem.W.Frag) (x:Str):Prop where
 ex:∃C,ClsAt K x C/\PySem.W.excIn K C QyS "ValueError.__new__" =true
section
variable {X:Cx}{e:Expr}{fs:DA}{x:Str}{np cpos pos:Pos}
end
end HS
namespace HS
open PySem PySem.Spec L2 PyProof.Rows
structure ThX where
 Γx:List (Str×(Nat×(List D->Option Str)))
 cls:List Str
structure XOk (X:Cx) (ΘX:ThX):Prop where
 ex:X.ex=[]
 stk:X.stack=X.env::X.outer
 fr:X.env.frame=some X.env.locals
 fx:∀x r,look x ΘX.Γx=some r->∃k f fd ps,Qby X.prog X.w X.K X.mg X.base (CXR X.prog X.w) k f fd ps (spX X.K r.1 r.2)/\QaE k X.A/\X.mg x=some (.ref f)/\PySem.W.keepIn X.K (.ref f)=true/\Binds X.K fd ps []/\ps.length=r.1
 cl:∀x∈ΘX.cls,Qy3 X.K x
noncomputable def xcE(n:Nat)(Θ:Th)(ΘX:ThX)(e:Expr):DX:=match e with
 | .Call (.Name x _) (a::as) [] _=>if Θ.gl x then(match look x ΘX.Γx with
  | some r=>(match Qba n Θ (a::as)with | some fs=>QxK r.1 r.2 fs | none=>xNo)
  | none=>xNo)else xNo
 | _=>xNo
mutual
noncomputable def Qt2(n:Nat)(Θ:Th)(ΘX:ThX)(st:Stmt):Option DX:=match n with
 | 0=>none
 | n+1=>match st with
  | .Raise (some (.Call (.Name x _) [a] [] _)) none _=>if Θ.gl x && ΘX.cls.contains x then(Qba n Θ [a]).map λfs=>Qw7 x fs else none
  | .Expr e _=>some (xcE n Θ ΘX e)
  | .Return (some e) _=>some (xcE n Θ ΘX e)
  | .Assign [.Name x _] e _=>(Θ.QaR x).map λ_=>xcE n Θ ΘX e
  | .If c a b _=>(QaQ n Θ c).bind λg=>(Qht n Θ ΘX a).bind λfa=>(Qht n Θ ΘX b).map λfb=>xIf g fa fb
  | .For tg iter body [] _=>(QfV Θ tg).bind λt=>(Qfv n Θ tg iter).bind λfi=>(QaC n Θ body).bind λfb=>(Qht n Θ ΘX body).map λfx=>QyO fi t fb fx
  | _=>some xNo
noncomputable def Qht(n:Nat)(Θ:Th)(ΘX:ThX)(sts:List Stmt):Option DX:=match n with
 | 0=>none
 | n+1=>match sts with
  | []=>some xNo
  | st::r=>(QjX n Θ st).bind λf=>(Qt2 n Θ ΘX st).bind λfx=>(Qht n Θ ΘX r).map λfr=>Qyx f fx fr
end
section
variable {X:Cx}{Θ:Th}{ΘX:ThX}
structure Qzw (n:Nat):Prop where
 X:∀X Θ ΘX st f,Qas X Θ->XOk X ΘX->Qt2 n Θ ΘX st=some f->Rz X st f
 Xs:∀X Θ ΘX sts f,Qas X Θ->XOk X ΘX->Qht n Θ ΘX sts=some f->RzS X sts f
end
section
variable (P:Program) (w:World) (K:PySem.W.Frag) (mg:Str->Option Value) (base:Heap)
def Qg3(k:Nat)(x:Str)(r:Nat×(List D->Option Str)):Prop:=∃f fd ps,Qby P w K mg base (CXR P w) k f fd ps (spX K r.1 r.2)/\mg x=some (.ref f)/\PySem.W.keepIn K (.ref f)=true/\Binds K fd ps []/\ps.length=r.1
def Qhw(k:Nat)(Γx:List (Str×(Nat×(List D->Option Str)))):Prop:=∀x r,look x Γx=some r->Qg3 P w K mg base k x r
end
section
variable {P:Program}{w:World}{K:PySem.W.Frag}{mg:Str->Option Value}{base:Heap}
theorem Qhw.nil{k:Nat}:Qhw P w K mg base k []:=λx r h=>by cases h
theorem Qg3.mono{j k:Nat}{x:Str}{r:Nat×(List D->Option Str)}(h:Qg3 P w K mg base j x r)(hk:j<=k):Qg3 P w K mg base k x r:=by
 obtain⟨f,fd,ps,h1,h2⟩:=h
 exact⟨f,fd,ps,h1.mono hk,h2⟩
theorem Qhw.mono{j k:Nat}{Γ:List (Str×(Nat×(List D->Option Str)))}(t:Qhw P w K mg base j Γ)(hk:j<=k):Qhw P w K mg base k Γ:=λx r e=>(t x r e).mono hk
theorem Qhw.cons{k:Nat}{Γ:List (Str×(Nat×(List D->Option Str)))}{x:Str}{r:Nat×(List D->Option Str)}(t:Qhw P w K mg base k Γ)(h:Qg3 P w K mg base (k+1) x r):Qhw P w K mg base (k+1) ((x,r)::Γ):=λy q e=>by
 unfold look at e
 split at e
 ·rename_i z;cases e;subst z;exact h
 ·exact(t y q e).mono (Zbh _)
theorem Qct.up{j k:Nat}{Γ:List (Str×FnR)}(t:Qct P w K mg base j Γ)(hk:j<=k):Qct P w K mg base k Γ:=λx r e=>(t x r e).mono hk
end
end HS
namespace HS
open PySem PySem.Spec L2 PyProof.Rows
section
variable {X:Cx}{pins:List (Addr×Obj)}{σ:L2.St}{H:Hp}{s s':Shared}{B:Heap}
end
end HS
namespace HS
open PySem PySem.Spec L2 PyProof.Rows
noncomputable abbrev inH(X:Cx)(ea:Addr):Cx:={X with A:=X.A.mark (some (.ref ea)),calm:=false,xe:=λ_ _=>False}
section
variable {X:Cx}{pins:List (Addr×Obj)}{σ:L2.St}{H:Hp}{s s':Shared}{B:Heap}{ea C:Addr}
theorem _root_.L2.Inv.inH(I:Inv X pins σ H s):Inv (HS.inH X ea) pins σ H s:=
 ⟨⟨I.ok.mod,I.ok.kind,I.ok.glob,I.ok.blt,I.ok.above,I.ok.inj,I.ok.has,I.ok.cab,λz=>(by cases z),I.ok.frames,I.ok.stk,I.ok.exf,I.ok.bs,I.ok.bsz,I.ok.noex,I.ok.exfs,I.ok.QdD,I.ok.frf⟩,I.os,I.bare,I.base,I.loc,I.cell,I.free,I.freeC,I.pin,I.hok,I.len⟩
theorem _root_.L2.Inv.Qnj(ok:X.Ok)(I:Inv (HS.inH X ea) pins σ H s):Inv X pins σ H s:=⟨ok,I.os,I.bare,I.base,I.loc,I.cell,I.free,I.freeC,I.pin,I.hok,I.len⟩
def QxY(K:PySem.W.Frag)(sub:Str->Str->Option Bool):Prop:=∀x y b,sub x y=some b->∃C c,ClsAt K x C/\PySem.W.KtsName K y c/\PySem.W.exmOne K (.ref C) c=some b
noncomputable abbrev Hd:=Str×Option Nat×DS
theorem _root_.L2.SP.Qnj{Dd:Ends}{f:Flow}(ok:X.Ok)(h:SP (HS.inH X ea) pins Dd f s):SP X pins Dd f s:=by
 cases f with
 | next=>obtain⟨σ',H',I,q⟩:=h;exact⟨σ',H',I.Qnj ok,q⟩
 | brk=>obtain⟨σ',H',I,q⟩:=h;exact⟨σ',H',I.Qnj ok,q⟩
 | cont=>obtain⟨σ',H',I,q⟩:=h;exact⟨σ',H',I.Qnj ok,q⟩
 | ret u=>obtain⟨v,σ',H',I,r,q⟩:=h;exact⟨v,σ',H',I.Qnj ok,r,q⟩
noncomputable abbrev Cx.chg(X:Cx)(xe:Value->Shared->Prop)(pn:List (Addr×Obj)):Cx:={X with xe:=xe,pn:=pn}
theorem _root_.L2.Inv.chg{xe:Value->Shared->Prop}(I:Inv X pins σ H s):Inv (Cx.chg X xe (X.pn++pins)) [] σ H s:=
 ⟨⟨I.ok.mod,I.ok.kind,I.ok.glob,I.ok.blt,I.ok.above,I.ok.inj,I.ok.has,I.ok.cab,I.ok.hd,I.ok.frames,I.ok.stk,I.ok.exf,I.ok.bs,I.ok.bsz,I.ok.noex,I.ok.exfs,I.ok.QdD,I.ok.frf⟩,I.os,I.bare,I.base,I.loc,I.cell,I.free,I.freeC,λp hp=>I.pin p (by simpa using hp),I.hok,I.len⟩
theorem _root_.L2.Inv.Qzp{xe:Value->Shared->Prop}{pins':List (Addr×Obj)}(ok:X.Ok)(I:Inv (Cx.chg X xe (X.pn++pins)) pins' σ H s):Inv X pins σ H s:=
 ⟨ok,I.os,I.bare,I.base,I.loc,I.cell,I.free,I.freeC,λp hp=>I.pin p (Zh _ hp),I.hok,I.len⟩
end
end HS
namespace HS
open PySem PySem.Spec L2 PyProof.Rows PySem.W
structure QwD (K:Frag) (C:Addr):Prop where
 cl:(clsIn K C).isSome=true
 ga:findIn K (.ref C) "__getattribute__" =some (some (.builtin "BaseException.__getattribute__"))
 hk:findIn K (.ref C) "__getattr__" =some none
 ca:findIn K (.ref C) "__class__" =some (some (.builtin "object.__class__"))
 mo:mroIn K C (.type "object")=some true
 be:subIn K (.ref C) (.type "BaseException")=some true
section
variable {prog:Program}{w:World}{A:Around}{E:Value->Shared->Prop}{s:Shared}{K:Frag}{a C:Addr}
end
end HS
namespace HS
open PySem PySem.Spec L2 PyProof.Rows
def QvB(K:PySem.W.Frag)(x y:Str)(b:Bool):Prop:=∃C c,ClsAt K x C/\PySem.W.KtsName K y c/\PySem.W.exmOne K (.ref C) c=some b/\PySem.W.kitOne K (.ref C) c=some b/\QwD K C
def QjH(K:PySem.W.Frag)(sub:Str->Str->Option Bool):Prop:=∀x y b,sub x y=some b->QvB K x y b
theorem QjH.ok{K:PySem.W.Frag}{sub:Str->Str->Option Bool}(h:QjH K sub):QxY K sub:=λx y b e=>by
 obtain⟨C,c,h1,h2,h3,_⟩:=h x y b e
 exact⟨C,c,h1,h2,h3⟩
noncomputable def anyS(sub:Str->Str->Option Bool)(x:Str):List Str->Option Bool
 | []=>some false
 | y::r=>(sub x y).bind λb=>(anyS sub x r).map λd=>b || d
noncomputable def Qwk(sub:Str->Str->Option Bool)(ys:List Str)(fa:DE):DE:=λρ=>(fa ρ).bind λr=>match r.d with
 | .exc x=>(anyS sub x ys).map λb=>⟨.bl b,true,[]⟩
 | _=>none
section
variable {X:Cx}{a:Expr}{fa:DE}{p p2 pos:Pos}{sub:Str->Str->Option Bool}
end
end HS
namespace HS
open PySem PySem.Spec L2 PyProof.Rows
structure Qdg (k:Nat) (A:Around):Prop where
 dp:A.depth+3*k+5<recursionLimit
 un:A.units+16*k+200<cLine
theorem Qdg.mono{j k:Nat}{A:Around}(r:Qdg k A)(h:j<=k):Qdg j A:=⟨by have:=r.dp;omega,by have:=r.un;omega⟩
theorem Qdg.deeper{k:Nat}{A:Around}(r:Qdg (k+1) A)(env:Env):Qdg k (A.deeper env):=
 ⟨by have:=r.dp;show A.depth+1+3*k+5<_;omega,by have:=r.un;show A.units+3+16*k+200<_;omega⟩
theorem Qdg.units{k:Nat}{A:Around}(r:Qdg k A):A.units+64<cLine:=by have:=r.un;omega
theorem Qdg.mark{k:Nat}{A:Around}{v:Option Value}(r:Qdg k A):Qdg k (A.mark v):=⟨r.dp,r.un⟩
structure FnH (P:Program) (w:World) (K:PySem.W.Frag) (mg:Str->Option Value) (base:Heap) (k:Nat) (f:Addr) (fd:FuncData) (ps:List Str) (sp:Sp):Prop where
 len:∀vs H Q E,sp vs H Q E->vs.length=ps.length
 run:∀(A:Around) (outer:List Env) (s:Shared) (H:Hp) (args:Args) (us:List Value) (vs:List V) (Q:VK) (E:XK),Qdg k A->Qe5 P w K mg base A outer s H->BindsTo s fd args (ps.zip us)->QD vs us->sp vs H Q E→
  codeAny (model P w) A (.call (.ref f) args) (CR CX0 outer P w H s Q E) s
section
variable {P:Program}{w:World}{K:PySem.W.Frag}{mg:Str->Option Value}{base:Heap}
theorem FnH.mono{j k:Nat}{f:Addr}{fd:FuncData}{ps:List Str}{sp:Sp}(F:FnH P w K mg base j f fd ps sp)(h:j<=k):FnH P w K mg base k f fd ps sp:=⟨F.len,λA outer s H args us vs Q E hr=>F.run A outer s H args us vs Q E (hr.mono h)⟩
end
section
variable {X:Cx}{e:Expr}{es:List Expr}{fs:DA}{pos p:Pos}{x:Str}{n k:Nat}{f:Addr}{fd:FuncData}{ps:List Str}{den:Den}
end
def QmO(X:Cx)(hΓ:List (Str×FnR)):Prop:=∀x r,look x hΓ=some r->∃k f fd ps,FnH X.prog X.w X.K X.mg X.base k f fd ps (spV X.K r.n r.den)/\Qdg k X.A/\X.mg x=some (.ref f)/\PySem.W.keepIn X.K (.ref f)=true/\Binds X.K fd ps []
theorem QmO.inH{X:Cx}{hΓ:List (Str×FnR)}{ea:Addr}(h:QmO X hΓ):QmO (HS.inH X ea) hΓ:=λx r e=>by
 obtain⟨k,f,fd,ps,h1,h2,h3⟩:=h x r e
 exact⟨k,f,fd,ps,h1,h2.mark,h3⟩
section
variable (P:Program) (w:World) (K:PySem.W.Frag) (mg:Str->Option Value) (base:Heap)
def Qhp(k:Nat)(x:Str)(r:FnR):Prop:=∃f fd ps,FnH P w K mg base k f fd ps (spV K r.n r.den)/\mg x=some (.ref f)/\PySem.W.keepIn K (.ref f)=true/\Binds K fd ps []
def QhE(k:Nat)(Γ:List (Str×FnR)):Prop:=∀x r,look x Γ=some r->Qhp P w K mg base k x r
end
section
variable {P:Program}{w:World}{K:PySem.W.Frag}{mg:Str->Option Value}{base:Heap}
theorem QhE.nil{k:Nat}:QhE P w K mg base k []:=λx r h=>by cases h
theorem Qhp.mono{j k:Nat}{x:Str}{r:FnR}(h:Qhp P w K mg base j x r)(hk:j<=k):Qhp P w K mg base k x r:=by
 obtain⟨f,fd,ps,h1,h2⟩:=h
 exact⟨f,fd,ps,h1.mono hk,h2⟩
theorem QhE.mono{j k:Nat}{Γ:List (Str×FnR)}(t:QhE P w K mg base j Γ)(hk:j<=k):QhE P w K mg base k Γ:=λx r e=>(t x r e).mono hk
theorem QhE.cons{k:Nat}{Γ:List (Str×FnR)}{x:Str}{r:FnR}(t:QhE P w K mg base k Γ)(h:Qhp P w K mg base (k+1) x r):QhE P w K mg base (k+1) ((x,r)::Γ):=λy q e=>by
 unfold look at e
 split at e
 ·rename_i z;cases e;subst z;exact h
 ·exact(t y q e).mono (Zbh _)
end
end HS
namespace HS
open PySem PySem.Spec L2 PyProof.Rows
mutual
noncomputable def Qcx(n:Nat)(Θ:Th)(sub:Str->Str->Option Bool)(hΓ:List (Str×FnR))(e:Expr):Option DE:=match n with
 | 0=>none
 | n+1=>match e with
  | .Name x _=>(Θ.slot x).map Qa
  | .Constant (.bool b) _ _=>some (dC (.bl b))
  | .Constant (.str x) _ _=>some (dC (.str x))
  | .UnaryOp .Not a _=>(Qcx n Θ sub hΓ a).map Qp2
  | .BoolOp .And [a] _=>Qcx n Θ sub hΓ a
  | .BoolOp .And (a::b::r) p=>(Qcx n Θ sub hΓ a).bind λfa=>(Qcx n Θ sub hΓ (.BoolOp .And (b::r) p)).map λfb=>Qi0 fa fb
  | .BoolOp .Or [a] _=>Qcx n Θ sub hΓ a
  | .BoolOp .Or (a::b::r) p=>(Qcx n Θ sub hΓ a).bind λfa=>(Qcx n Θ sub hΓ (.BoolOp .Or (b::r) p)).map λfb=>dOr fa fb
  | .Compare a [.Eq] [b] _=>(Qcx n Θ sub hΓ a).bind λfa=>(Qcx n Θ sub hΓ b).map λfb=>dOp gEq fa fb
  | .Compare a [.NotEq] [b] _=>(Qcx n Θ sub hΓ a).bind λfa=>(Qcx n Θ sub hΓ b).map λfb=>dOp gNe fa fb
  | .Call (.Name f _) [a,.Name y _] [] _=>if f= "isinstance" /\Θ.gl "isinstance" =true/\Θ.gl y=true then(Qcx n Θ sub hΓ a).map λfa=>Qwk sub [y] fa else none
  | .Call (.Name f _) [a,.Tuple es _ _] [] _=>if f= "isinstance" /\Θ.gl "isinstance" =true then(es.mapM Qnu).bind λys=>if ys.all Θ.gl=true/\ys≠[]/\ys.length<=60 then(Qcx n Θ sub hΓ a).map λfa=>Qwk sub ys fa else none else none
  | .Call (.Name x _) (a::as) [] _=>if Θ.gl x=true then(look x hΓ).bind λr=>(Qj9 n Θ sub hΓ (a::as)).map λfs=>Qk r.n r.den [] fs else none
  | .List es _=>(Qj9 n Θ sub hΓ es).map Qav
  | _=>none
noncomputable def Qj9(n:Nat)(Θ:Th)(sub:Str->Str->Option Bool)(hΓ:List (Str×FnR))(es:List Expr):Option DA:=match n with
 | 0=>none
 | n+1=>match es with
  | []=>some Qg
  | e::es=>(Qcx n Θ sub hΓ e).bind λfa=>(Qj9 n Θ sub hΓ es).map λfs=>Qd fa fs
end
structure Qzs (n:Nat):Prop where
 E:∀X Θ sub hΓ e f,CtxB X Θ->QjH X.K sub->QmO X hΓ->Qcx n Θ sub hΓ e=some f->SE X e f
 A:∀X Θ sub hΓ es f,CtxB X Θ->QjH X.K sub->QmO X hΓ->Qj9 n Θ sub hΓ es=some f->SA X es f
section
variable {P:Program}{w:World}{K:PySem.W.Frag}{mg:Str->Option Value}{base:Heap}
end
end HS
namespace HS
open PySem PySem.Spec L2 PyProof.Rows
section
variable {K:PySem.W.Frag}{x y:Str}{C C':Addr}{v:Bool}
def XK1(K:PySem.W.Frag)(x:Str):Prop:=∃C,ClsAt K x C/\QwD K C
def QtV(K:PySem.W.Frag)(x y:Str)(b:Bool):Prop:=∃C c,ClsAt K x C/\PySem.W.KtsName K y c/\PySem.W.exmOne K (.ref C) c=some b/\PySem.W.kitOne K (.ref C) c=some b
noncomputable def Qla(K:PySem.W.Frag)(x:Str):List (Str×Bool)->Prop
 | []=>True
 | q::r=>QtV K x q.1 q.2/\Qla K x r
noncomputable def SubL(K:PySem.W.Frag):List (Str×List (Str×Bool))->Prop
 | []=>True
 | q::r=>(XK1 K q.1/\Qla K q.1 q.2)/\SubL K r
theorem Qla.mem:∀{r:List (Str×Bool)},Qla K x r->∀q∈r,QtV K x q.1 q.2
 | [],_,q,h=>by simp at h
 | p::r,h,q,hq=>by
  rcases Zm.mp hq with rfl | hq
  ·exact h.1
  ·exact Qla.mem h.2 q hq
theorem SubL.mem:∀{t:List (Str×List (Str×Bool))},SubL K t->∀q∈t,XK1 K q.1/\Qla K q.1 q.2
 | [],_,q,h=>by simp at h
 | p::r,h,q,hq=>by
  rcases Zm.mp hq with rfl | hq
  ·exact h.1
  ·exact SubL.mem h.2 q hq
end
end HS
namespace HS
open PySem L2
noncomputable def pairD(p:Int×Int):D:= .tup [.int p.1,.int p.2]
noncomputable def Qtn(p:Int×Int×Bool):D:= .tup [.int p.1,.int p.2.1,.bl p.2.2]
noncomputable def QB(ns:List Int):D:= .lst (ns.map .int)
noncomputable def QvE(ps:List (Int×Int)):D:= .lst (ps.map pairD)
theorem QbR{α:Type}{f:α->D}(h:∀a,(f a).flat=true):∀l:List α,Qae (l.map f)=true
 | []=>rfl
 | a::l=>by simp[Qae,h a,QbR h l]
@[simp] theorem Qzg(i:Int):(D.int i).flat=true:=rfl
@[simp] theorem Qzm(i:Bool):(D.bl i).flat=true:=rfl
@[simp] theorem Qy4:D.non.flat=true:=rfl
@[simp] theorem Qy8(x:Str):(D.str x).flat=true:=rfl
@[simp] theorem QyJ(xs:List D):(D.lst xs).flat=false:=rfl
@[simp] theorem Qy9(xs:List D):(D.tup xs).flat=Qae xs:=rfl
@[simp] theorem Qyv:Qae []=true:=rfl
@[simp] theorem QxG(d:D)(ds:List D):Qae (d::ds)=(d.flat && Qae ds):=rfl
@[simp] theorem Qyu(p:Int×Int):(pairD p).flat=true:=rfl
@[simp] theorem Qza(p:Int×Int×Bool):(Qtn p).flat=true:=rfl
@[simp] theorem Qyq(ns:List Int):(QB ns).flat=false:=rfl
@[simp] theorem Qx7(ns:List (Int×Int)):(QvE ns).flat=false:=rfl
@[simp] theorem Qxt(ps:List (Int×Int)):Qae (ps.map pairD)=true:=QbR (λ_=>rfl) _
@[simp] theorem QxF(ps:List (Int×Int×Bool)):Qae (ps.map Qtn)=true:=QbR (λ_=>rfl) _
@[simp] theorem QjA(ns:List Int):Qae (ns.map .int)=true:=QbR (λ_=>rfl) _
@[simp] theorem Qyt(xs ys:List D):Qae (xs++ys)=(Qae xs && Qae ys):=Qc0 xs ys
def Run(f:DS)(ρ:En)(Q:Out->Prop):Prop:=∃o,f ρ=some o/\Q o
noncomputable def Nx(Q:En->Prop):Out->Prop
 | .nx ρ=>Q ρ
 | _=>False
noncomputable def Rt(Q:D->Bool->Prop):Out->Prop
 | .rt d fr=>Q d fr
 | _=>False
theorem Run.mono{f:DS}{ρ:En}{Q Q':Out->Prop}(h:Run f ρ Q)(m:∀o,Q o->Q' o):Run f ρ Q':=let ⟨o,h1,h2⟩:=h;⟨o,h1,m o h2⟩
theorem Qr{ρ:En}{Q:Out->Prop}(h:Q (.nx ρ)):Run Qi ρ Q:=⟨_,rfl,h⟩
theorem run_seq{f g:DS}{ρ:En}{Q:Out->Prop}(h:Run f ρ (Nx λρ'=>Run g ρ' Q)):Run (Qf f g) ρ Q:=by
 obtain⟨o,h1,h2⟩:=h
 cases o with
 | nx ρ'=>
  obtain⟨o',h3,h4⟩:=h2
  exact⟨o',by simp[Qf,h1,h3],h4⟩
 | _=>exact False.elim h2
theorem Qw{f g:DS}{ρ:En}{Q:Out->Prop}(h:Run f ρ λo=>match o with | .nx ρ'=>Run g ρ' Q | o=>Q o):Run (Qf f g) ρ Q:=by
 obtain⟨o,h1,h2⟩:=h
 cases o with
 | nx ρ'=>
  obtain⟨o',h3,h4⟩:=h2
  exact⟨o',by simp[Qf,h1,h3],h4⟩
 | bk ρ'=>exact⟨_,by simp[Qf,h1],h2⟩
 | ct ρ'=>exact⟨_,by simp[Qf,h1],h2⟩
 | rt d fr=>exact⟨_,by simp[Qf,h1],h2⟩
theorem Qh{i:Nat}{fa:DE}{r:R}{ρ:En}{Q:Out->Prop}(h:fa ρ=some r)(q:Q (.nx (asg i r ρ))):Run (Qu i fa) ρ Q:=⟨_,by simp[Qu,h],q⟩
theorem QaY{fa:DE}{r:R}{ρ:En}{Q:Out->Prop}(h:fa ρ=some r)(q:Q (.rt r.d (r.norm.fr && decide r.norm.M.Nodup))):Run (QH fa) ρ Q:=⟨_,by simp[QH,h],q⟩
theorem QZ{g:DT}{f1 f2:DS}{b:Bool}{ρ:En}{Q:Out->Prop}(h:g ρ=some b)(q1:b=true->Run f1 ρ Q)(q2:b=false->Run f2 ρ Q):Run (sIf g f1 f2) ρ Q:=by
 cases b with
 | true=>obtain⟨o,h1,h2⟩:=q1 rfl;exact⟨o,by simp[sIf,h,h1],h2⟩
 | false=>obtain⟨o,h1,h2⟩:=q2 rfl;exact⟨o,by simp[sIf,h,h1],h2⟩
theorem Q1{k:Nat}{f:DS}{ds:List D}{d:D}{fr:Bool}(h:Run f (Qd6 k ds) (Rt λd' fr'=>d'=d/\fr'=fr)):Qq k f ds=some (d,fr):=by
 obtain⟨o,h1,h2⟩:=h
 unfold Qq
 cases o with
 | rt d' fr'=>obtain⟨rfl,rfl⟩:=h2;rw[h1];rfl
 | _=>exact False.elim h2
theorem Qna{α:Type}{t:Tg}{fb:DS}{toD:α->D}{Q:Out->Prop}(I:Nat->En->Prop):∀(xs ys:List α) (ρ:En),I ys.length ρ→
  (∀i x ρ,(ys++xs)[i]? =some x->ys.length<=i->I i ρ->∃ρ1,QbO t (toD x) ρ=some ρ1/\Run fb ρ1 λo=>match o with | .nx ρ2=>I (i+1) ρ2 | .ct ρ2=>I (i+1) ρ2 | .bk ρ2=>Q (.nx ρ2) | .rt d fr=>Q (.rt d fr))→
  (∀ρ,I (ys++xs).length ρ->Q (.nx ρ))->Run (Qdw t fb (xs.map toD)) ρ Q
 | [],ys,ρ,h0,_,fin=>⟨_,rfl,fin ρ (by simpa using h0)⟩
 | x::xs,ys,ρ,h0,turn,fin=>by
  obtain⟨ρ1,h1,o,h2,h3⟩:=turn ys.length x ρ (by simp) (Zi _) h0
  have next:∀ρ2,I (ys.length+1) ρ2->Run (Qdw t fb (xs.map toD)) ρ2 Q:=λρ2 hi=>
   Qna I xs (ys++[x]) ρ2 (by simpa using hi) (λi y ρ' e hl=>turn i y ρ' (by simpa using e) (by simp at hl;omega)) (λρ' h=>fin ρ' (by simpa using h))
  cases o with
  | nx ρ2=>obtain⟨o',e1,e2⟩:=next ρ2 h3;exact⟨o',by simp[Qdw,h1,h2,e1],e2⟩
  | ct ρ2=>obtain⟨o',e1,e2⟩:=next ρ2 h3;exact⟨o',by simp[Qdw,h1,h2,e1],e2⟩
  | bk ρ2=>exact⟨_,by simp[Qdw,h1,h2],h3⟩
  | rt d fr=>exact⟨_,by simp[Qdw,h1,h2],h3⟩
theorem Qaj{α:Type}{fi:DI}{t:Tg}{fb:DS}{toD:α->D}{ρ:En}{ir:IR}{Q:Out->Prop}(xs:List α)(I:Nat->En->Prop)(h:fi ρ=some ir)(hx:ir.items=xs.map toD)(h0:I 0 (Qau ir.M ρ))
  (turn:∀i x ρ,xs[i]? =some x->I i ρ->∃ρ1,QbO t (toD x) ρ=some ρ1/\Run fb ρ1 λo=>match o with | .nx ρ2=>I (i+1) ρ2 | .ct ρ2=>I (i+1) ρ2 | .bk ρ2=>Q (.nx ρ2) | .rt d fr=>Q (.rt d fr))
  (fin:∀ρ,I xs.length ρ->Q (.nx ρ)):Run (QaW fi t fb) ρ Q:=by
 obtain⟨o,h1,h2⟩:=Qna (t:=t) (fb:=fb) (toD:=toD) (Q:=Q) I xs [] (Qau ir.M ρ) h0 (λi x ρ e _=>turn i x ρ (by simpa using e)) (λρ h=>fin ρ (by simpa using h))
 exact⟨o,by simp[QaW,h,hx,h1],h2⟩
theorem Qlw{α:Type}{t:Tg}{ft:DT}{fe:DE}{ρc:En}{toD:α->D}{keep:α->Bool}{out:α->D}:∀(xs:List α) (acc:List D),
  (∀x∈xs,∃ρ1,QbO t (toD x) ρc=some ρ1/\ft ρ1=some (keep x)/\(keep x=true->∃r,fe ρ1=some r/\r.d=out x/\r.norm.fr=true))→
  (xs.map toD).foldlM (QfD t ft fe ρc) (acc,true)=some (acc++(xs.filter keep).map out,true)
 | [],acc,_=>by simp
 | x::xs,acc,h=>by
  obtain⟨ρ1,h1,h2,h3⟩:=h x Zq
  have ih:=λacc=>Qlw xs acc (λy hy=>h y (Zg _ hy))
  cases hk:keep x with
  | false=>
   have e:QfD t ft fe ρc (acc,true) (toD x)=some (acc,true):=by simp[QfD,h1,h2,hk]
   simp[ZbG,e,ih,hk]
  | true=>
   obtain⟨r,h4,h5,h6⟩:=h3 hk
   have e:QfD t ft fe ρc (acc,true) (toD x)=some (acc++[out x],true):=by simp[QfD,h1,h2,hk,h4,h5,h6]
   simp[ZbG,e,ih,hk]
theorem QkP{α:Type}{fi:DI}{t:Tg}{cap:List (Option Nat)}{ft:DT}{fe:DE}{ρ:En}{ir:IR}{toD:α->D}{keep:α->Bool}{out:α->D}(xs:List α)(h:fi ρ=some ir)(hx:ir.items=xs.map toD)
  (turn:∀x∈xs,∃ρ1,QbO t (toD x) (QeP cap ρ)=some ρ1/\ft ρ1=some (keep x)/\(keep x=true->∃r,fe ρ1=some r/\r.d=out x/\r.norm.fr=true)):
  QO fi t cap ft fe ρ=some ⟨.lst ((xs.filter keep).map out),true,[]⟩:=by
 unfold QO
 rw[h,Za,hx,Qlw xs [] turn]
 simp
theorem QL{α:Type}{fi:DI}{t:Tg}{cap:List (Option Nat)}{fe:DE}{ρ:En}{ir:IR}{toD:α->D}{out:α->D}(xs:List α)(h:fi ρ=some ir)(hx:ir.items=xs.map toD)
  (turn:∀x∈xs,∃ρ1,QbO t (toD x) (QeP cap ρ)=some ρ1/\∃r,fe ρ1=some r/\r.d=out x/\r.norm.fr=true):
  QO fi t cap QR fe ρ=some ⟨.lst (xs.map out),true,[]⟩:=by
 have:=QkP (keep:=λ_=>true) (ft:=QR) xs h hx (cap:=cap) (t:=t) (fe:=fe) (out:=out) λx hx=>by
  obtain⟨ρ1,h1,h2⟩:=turn x hx
  exact⟨ρ1,h1,rfl,λ_=>h2⟩
 rw[this,List.filter_eq_self.mpr λ_ _=>rfl]
@[simp] theorem QrT(d:D):R.norm ⟨d,true,[]⟩=⟨d,true,[]⟩:=by unfold R.norm;split<;>rfl
@[simp] theorem Qn(i:Nat)(d:D)(ρ:En):asg i ⟨d,true,[]⟩ ρ=ρ.set i (some (d,true)):=by unfold asg;simp[kill]
theorem Qbt{i:Nat}{d:D}{fr:Bool}{M:List Nat}{ρ:En}(h:d.flat=true):asg i ⟨d,fr,M⟩ ρ=ρ.set i (some (d,true)):=by
 unfold asg R.norm;simp[h,kill]
theorem Qhc{i:Nat}{ρ:En}{d:D}{b:Bool}(h:ρ[i]? =some (some (d,b))):Qa i ρ=some (if d.flat then⟨d,true,[]⟩else if b then⟨d,true,[i]⟩else⟨d,false,[]⟩):=by
 unfold Qa
 rw[h]
 dsimp only
 split
 ·simp_all
 ·split<;>simp_all
@[simp] theorem QU(d:D)(ρ:En):dC d ρ=some ⟨d,true,[]⟩:=rfl
theorem QbX{g:D->D->Option D}{fa fb:DE}{ρ:En}{ra rb:R}{d:D}(ha:fa ρ=some ra)(hb:fb ρ=some rb)(h:g ra.d rb.d=some d):dOp g fa fb ρ=some ⟨d,true,[]⟩:=by simp[dOp,ha,hb,h]
theorem Qs{fa:DE}{fs:DA}{ρ:En}{r:R}{rs:RA}(ha:fa ρ=some r)(hs:fs ρ=some rs):Qd fa fs ρ=some ⟨r.d::rs.ds,r.fr && rs.fr,r.M++rs.M⟩:=by simp[Qd,ha,hs]
@[simp] theorem QP(ρ:En):Qg ρ=some ⟨[],true,[]⟩:=rfl
noncomputable def vf(d:D)(b:Bool)(i:Nat):R:=if d.flat then⟨d,true,[]⟩else if b then⟨d,true,[i]⟩else⟨d,false,[]⟩
@[simp] theorem Qzt(d:D)(b:Bool)(i:Nat):(vf d b i).d=d:=by unfold vf;split;rfl;split<;>rfl
@[simp] theorem QnM(i j:Int)(h:0<=j):QcN i j=i % j:=by unfold QcN;rw[if_pos h]
@[simp] theorem Qiw(i j:Int)(h:0<=j):Qdo i j=i / j:=by unfold Qdo;rw[if_pos h]
theorem QbE{i j:Int}(h:i.natAbs<2^64):QdT i j=true:=by unfold QdT;simp[h]
theorem Qh7{i j:Int}(h:j.natAbs<2^64):QdT i j=true:=by unfold QdT;simp[h]
theorem QdN{i j:Int}(h1:Builtin.Int.intBits i<=2^20)(h2:Builtin.Int.intBits j<=2^20):QdT i j=true:=by
 unfold QdT
 rw[decide_eq_true h1,decide_eq_true h2,Bool.and_self,Bool.or_true]
theorem QhR:(sizeLine:Nat)=16777216:=sizeLine_eq
noncomputable def Qe(m:Nat)(f:Nat->Int):D:= .lst ((List.range m).map λi=> .int (f i))
noncomputable def Qc(m n:Nat)(f:Nat->Nat->Int):D:= .lst ((List.range m).map λi=>Qe n (f i))
@[simp] theorem Qy6(m:Nat)(f:Nat->Int):(Qe m f).flat=false:=rfl
@[simp] theorem QyR(m n:Nat)(f:Nat->Nat->Int):(Qc m n f).flat=false:=rfl
@[simp] theorem Qys(m:Nat)(f:Nat->Int):Qae ((List.range m).map λi=>D.int (f i))=true:=QbR (f:=λi=>D.int (f i)) (λ_=>rfl) _
noncomputable def up(f:Nat->Int)(i:Nat)(v:Int):Nat->Int:=λj=>if j=i then v else f j
noncomputable def up2(f:Nat->Nat->Int)(i j:Nat)(v:Int):Nat->Nat->Int:=λk=>if k=i then up (f k) j v else f k
theorem Quo{n i:Nat}(h:i<n):ixN n (i:Int)=some i:=by
 unfold ixN;rw[if_pos (by omega),if_pos (by omega)];simp
theorem Qcf{n:Nat}{i:Int}(h0:0<=i)(h:i<n):ixN n i=some i.toNat:=by
 unfold ixN;rw[if_pos (by omega),if_pos (by omega)]
theorem Qh2{α:Type}{xs:List α}{i:Int}(h0:0<=i)(h:i<xs.length):atI xs i=xs[i.toNat]? :=by
 unfold atI;rw[Qcf h0 h];rfl
theorem QgW{α:Type}{m:Nat}{f:Nat->α}{i:Nat}{v:α}:((List.range m).map f).set i v=(List.range m).map λj=>if j=i then v else f j:=by
 apply ZaT
 intro k
 rw[ZbC]
 simp only[Zx,Zo,Zl]
 by_cases hk:k<m
 ·rw[ZG hk]
  by_cases e:i=k
  ·subst e;simp[hk]
  ·simp[e,Ne.symm e]
 ·rw[Zs (by simp;omega)]
  by_cases e:i=k
  ·subst e;simp[hk]
  ·simp[e]
theorem QkX{m:Nat}{f:Nat->Int}{i:Nat}{v:Int}:((List.range m).map λj=>D.int (f j)).set i (.int v)=(List.range m).map λj=>D.int (up f i v j):=by
 rw[QgW]
 congr 1;funext j;unfold up;split<;>rfl
theorem Qvd{m:Nat}{f:Nat->Int}{i:Int}(h0:0<=i)(h:i<m):atI ((List.range m).map λj=>D.int (f j)) i=some (.int (f i.toNat)):=by
 rw[Qh2 h0 (by simpa using h),Zl,ZG (by omega)];rfl
theorem QoN{m n:Nat}{f:Nat->Nat->Int}{i:Int}(h0:0<=i)(h:i<m):atI ((List.range m).map λj=>Qe n (f j)) i=some (Qe n (f i.toNat)):=by
 rw[Qh2 h0 (by simpa using h),Zl,ZG (by omega)];rfl
theorem Qtf{x m:Nat}{f:Nat->Int}{fi fa:DE}{ρ:En}{i:Int}{v:Int}{ri ra:R}{Q:Out->Prop}(hx:ρ[x]? =some (some (Qe m f,true)))(hi:fi ρ=some ri)(ei:ri.d= .int i)(ha:fa ρ=some ra)(ea:ra.d= .int v)(h0:0<=i)(h:i<m)
  (q:Q (.nx (ρ.set x (some (Qe m (up f i.toNat v),true))))):Run (Qbf x Q2 fi fa) ρ Q:=by
 refine⟨_,?_,q⟩
 have hn:ra.norm=⟨.int v,true,[]⟩:=by unfold R.norm;rw[ea];rfl
 unfold Qbf
 rw[ha,Za,hx]
 simp only[Q2,Za,hi,ei,Qax,Qe,Zx,Zo,Qcf h0 h,hn,ea,Qay,QkX]
 simp[kill]
theorem Qac{fa:DE}{ρ:En}{r:R}{n:Nat}(h:fa ρ=some r)(e:r.d= .int n)(hn:n<=16777216):Q5 fa ρ=some ⟨(List.range n).map λ(k:Nat)=> .int (k:Int),[]⟩:=by
 unfold Q5
 rw[h,Za,e]
 dsimp only
 rw[if_pos ⟨by omega,by omega⟩]
 simp[Qhe]
theorem QoY{α:Type}(x:α):∀n:Nat,(List.replicate n [x]).flatten=(List.range n).map λ_=>x
 | 0=>rfl
 | n+1=>by
  rw[Zae,Zak,QoY x n,ZaO,ZL,ZaN];rfl
theorem QjF{fb:DE}{ρ:En}{r:R}{n:Nat}{z:Int}(h:fb ρ=some r)(e:r.d= .int n)(hn:n<=16777216):Qaq (Qav (Qd (dC (.int z)) Qg)) fb ρ=some ⟨Qe n (λ_=>z),true,[]⟩:=by
 have h1:Qav (Qd (dC (.int z)) Qg) ρ=some ⟨.lst [.int z],true,[]⟩:=rfl
 unfold Qaq
 rw[h1,Za,h,Za,e]
 dsimp only
 rw[if_pos ⟨by simp[QhR];omega,by omega,by omega,rfl⟩]
 simp only[ZC,QoY]
 rfl
theorem QE{fa:DE}{r:R}{g:DS}{ρ:En}{Q:D->Bool->Prop}(h:fa ρ=some r)(q:Q r.d (r.norm.fr && decide r.norm.M.Nodup)):Run (Qf (QH fa) g) ρ (Rt Q):=Qw (QaY h q)
theorem Qm{n:Nat}{den:Den}{dfl:List D}{fs:DA}{ρ:En}{r:RA}{d:D}(h:fs ρ=some r)(hd:den (r.ds++dfl)=some (d,true))(hl:r.ds.length+dfl.length=n):Qk n den dfl fs ρ=some ⟨d,true,[]⟩:=by
 unfold Qk
 rw[h,Za,if_pos hl,hd]
 simp
theorem Qag{fa:DE}{ρ:En}{r:R}{xs:List D}(h:fa ρ=some r)(e:r.d= .lst xs):Q4 fa ρ=some ⟨xs,r.M⟩:=by
 unfold Q4
 rw[h,Za,e]
noncomputable def stepT(m:Nat)(f:Nat->Nat->Int)(s:Int×Int):Nat->Nat->Int:=
 let f1:=if s.1<m then up2 f s.1.toNat s.1.toNat (f s.1.toNat s.1.toNat-1)else f
 if s.1<m/\s.2<m then up2 f1 s.1.toNat s.2.toNat (f1 s.1.toNat s.2.toNat+1)else f1
noncomputable def Qdb(m:Nat)(S:List (Int×Int)):Nat->Nat->Int:=S.foldl (stepT m) λ_ _=>0
noncomputable def hit(i j:Nat)(s:Int×Int):Int:=(if s.1=i/\s.2=j then 1 else 0)-(if s.1=i/\i=j then 1 else 0)
theorem QoF{f:Nat->Nat->Int}{a b:Nat}{v:Int}{i j:Nat}:up2 f a b v i j=if i=a/\j=b then v else f i j:=by
 unfold up2 up
 by_cases h1:i=a
 ·by_cases h2:j=b
  ·simp[h1,h2]
  ·simp[h1,h2]
 ·simp[h1]
theorem QqP{m:Nat}{f:Nat->Nat->Int}{s:Int×Int}{i j:Nat}(hi:i<m)(hj:j<m)(h1:0<=s.1)(h2:0<=s.2):stepT m f s i j=f i j+hit i j s:=by
 unfold stepT hit
 have e1:(s.1=(i:Int))↔(i=s.1.toNat):=by omega
 have e2:(s.2=(j:Int))↔(j=s.2.toNat):=by omega
 simp only[e1,e2]
 by_cases c1:s.1<(m:Int)
 ·by_cases c2:s.2<(m:Int)
  ·simp only[c1,c2,and_self,if_true,QoF]
   generalize s.1.toNat=a
   generalize s.2.toNat=b
   by_cases d1:i=a
   ·subst d1
    by_cases d2:j=b
    ·subst d2
     by_cases d3:i=j
     ·subst d3;simp
     ·have d4:¬j=i:=λz=>d3 z.symm
      simp[d3,d4]
    ·by_cases d3:i=j
     ·subst d3;simp[d2];omega
     ·have d4:¬j=i:=λz=>d3 z.symm
      simp[d2,d3,d4]
   ·simp[d1]
  ·have d2:¬(j=s.2.toNat):=by omega
   simp only[c1,c2,and_false,if_false,if_true,QoF,d2]
   generalize s.1.toNat=a
   by_cases d1:i=a
   ·subst d1
    by_cases d3:i=j
    ·subst d3;simp;omega
    ·have d4:¬j=i:=λz=>d3 z.symm
     simp[d3,d4]
   ·simp[d1]
 ·have d1:¬(i=s.1.toNat):=by omega
  simp[c1,d1]
theorem Qlk{m:Nat}{i j:Nat}(hi:i<m)(hj:j<m):∀(S:List (Int×Int)) (f:Nat->Nat->Int),(∀s∈S,0<=s.1/\0<=s.2)->S.foldl (stepT m) f i j=f i j+(S.map (hit i j)).sum
 | [],f,_=>by simp
 | s::S,f,h=>by
  obtain⟨h1,h2⟩:=h s Zq
  rw[List.foldl_cons,Qlk hi hj S _ (λt ht=>h t (Zg _ ht)),QqP hi hj h1 h2,ZL,Zaw]
  omega
theorem Qfn{m:Nat}{S:List (Int×Int)}{i j:Nat}(hi:i<m)(hj:j<m)(h:∀s∈S,0<=s.1/\0<=s.2):Qdb m S i j=(S.map (hit i j)).sum:=by
 unfold Qdb
 rw[Qlk hi hj S _ h];simp
noncomputable def isI(i:Nat)(a:Int):Int:=if a=i then 1 else 0
noncomputable def Qpp(R L:List (Int×Int))(i:Nat):Int:=(R.map λr=>isI i r.1+isI i r.2).sum+(L.map λl=>isI i l.1).sum
theorem sum_neg(S:List (Int×Int))(i:Nat)(h:∀s∈S,s.1≠s.2):(S.map (hit i i)).sum= -(S.map λs=>isI i s.1).sum:=by
 induction S with
 | nil=>rfl
 | cons s S ih=>
  rw[ZL,Zaw,ih λt ht=>h t (Zg _ ht),ZL,Zaw]
  have hn:=h s Zq
  unfold hit isI
  by_cases e:s.1=(i:Int)
  ·have:¬(s.2=(i:Int)):=λz=>hn (e.trans z.symm)
   simp[e,this];omega
  ·simp[e]
noncomputable def QcA(R L:List (Int×Int)):List (Int×Int):=R++R.map Prod.swap++L
theorem Qrw(R L:List (Int×Int))(i:Nat):((QcA R L).map λs=>isI i s.1).sum=Qpp R L i:=by
 unfold QcA Qpp
 rw[Zaz,Zaz,Zbx,Zbx]
 have:(R.map λr=>isI i r.1+isI i r.2).sum=(R.map λs=>isI i s.1).sum+((R.map Prod.swap).map λs=>isI i s.1).sum:=by
  induction R with
  | nil=>rfl
  | cons r R ih=>simp only[ZL,Zaw,ih,Prod.fst_swap];omega
 omega
def Good(m:Nat)(s:Int×Int):Prop:=0<=s.1/\0<=s.2/\s.1<=m/\s.2<=m/\s.1≠s.2
theorem QgH{m:Nat}{R L:List (Int×Int)}(hR:∀s∈R,Good m s)(hL:∀s∈L,Good m s):∀s∈QcA R L,Good m s:=λs hs=>by
 unfold QcA at hs
 rcases ZJ.mp hs with hs | hs
 ·rcases ZJ.mp hs with hs | hs
  ·exact hR s hs
  ·obtain⟨t,ht,rfl⟩:=Zaf.mp hs
   obtain⟨h1,h2,h3,h4,h5⟩:=hR t ht
   exact⟨h2,h1,h4,h3,λz=>h5 z.symm⟩
 ·exact hL s hs
theorem QoO(a b:Int):deq (.int a) (.int b)=decide (a=b):=by
 show PyData.eqv (.int a) (.int b)=_
 unfold PyData.eqv
 exact Bool.beq_eq_decide_eq a b
theorem Qa9{fa fb:DE}{ρ:En}{ra rb:R}{a b:Int}(ha:fa ρ=some ra)(ea:ra.d= .int a)(hb:fb ρ=some rb)(eb:rb.d= .int b):dOp gEq fa fb ρ=some ⟨.bl (decide (a=b)),true,[]⟩:=by
 refine QbX ha hb ?_
 rw[ea,eb]
 show some (D.bl (deq (.int a) (.int b)))=_
 rw[QoO]
theorem QbQ{fa fb:DE}{ρ:En}{ra rb:R}{a b:Int}(ha:fa ρ=some ra)(ea:ra.d= .int a)(hb:fb ρ=some rb)(eb:rb.d= .int b):dOp gNe fa fb ρ=some ⟨.bl (!decide (a=b)),true,[]⟩:=by
 refine QbX ha hb ?_
 rw[ea,eb]
 show some (D.bl (!deq (.int a) (.int b)))=_
 rw[QoO]
theorem Qv2{fa fb:DE}{ρ:En}{a b:Bool}(ha:fa ρ=some ⟨.bl a,true,[]⟩)(hb:fb ρ=some ⟨.bl b,true,[]⟩):Qi0 fa fb ρ=some ⟨.bl (a && b),true,[]⟩:=by
 unfold Qi0
 rw[ha]
 cases a<;>simp[D.tru,hb]
theorem QI{fa:DE}{ρ:En}{r:R}{b:Bool}(ha:fa ρ=some r)(e:r.d= .bl b):QM fa ρ=some b:=by
 unfold QM
 rw[ha,Za,e];rfl
theorem Qc3{g:DT}{ρ:En}{b:Bool}(h:g ρ=some b):QdW g ρ=some (!b):=by unfold QdW;rw[h];rfl
theorem Qd1{g1 g2:DT}{ρ:En}{a b:Bool}(ha:g1 ρ=some a)(hb:g2 ρ=some b):bOr g1 g2 ρ=some (a || b):=by
 unfold bOr;rw[ha];cases a<;>simp[hb]
theorem Qkp{g1 g2:DT}{ρ:En}{a b:Bool}(ha:g1 ρ=some a)(hb:g2 ρ=some b):QfT g1 g2 ρ=some (a && b):=by
 unfold QfT;rw[ha];cases a<;>simp[hb]
theorem Qap{fa fb:DE}{ρ:En}{ra rb:R}{a b:Int}(ha:fa ρ=some ra)(ea:ra.d= .int a)(hb:fb ρ=some rb)(eb:rb.d= .int b)(h:QdT a b=true):Qaq fa fb ρ=some ⟨.int (a*b),true,[]⟩:=by
 unfold Qaq
 rw[ha,Za,hb,Za,ea,eb]
 simp[h]
theorem Qaz{fa fb:DE}{ρ:En}{ra rb:R}{a b:Int}(ha:fa ρ=some ra)(ea:ra.d= .int a)(hb:fb ρ=some rb)(eb:rb.d= .int b):Q8 fa fb ρ=some ⟨.int (a+b),true,[]⟩:=by
 unfold Q8
 rw[ha,Za,hb,Za,ea,eb]
theorem QaF{fa fb:DE}{ρ:En}{ra rb:R}{a b:Int}(ha:fa ρ=some ra)(ea:ra.d= .int a)(hb:fb ρ=some rb)(eb:rb.d= .int b)(h:0<b):dOp QaJ fa fb ρ=some ⟨.int (a % b),true,[]⟩:=by
 refine QbX ha hb ?_
 rw[ea,eb]
 show(if b≠0 then some (D.int (QcN a b))else none)=_
 rw[if_pos (by omega),QnM _ _ (by omega)]
theorem Qhd{fa fb:DE}{ρ:En}{ra rb:R}{a b:Int}(ha:fa ρ=some ra)(ea:ra.d= .int a)(hb:fb ρ=some rb)(eb:rb.d= .int b)(h:0<b)(h2:b<2^64):dOp Qcq fa fb ρ=some ⟨.int (a / b),true,[]⟩:=by
 refine QbX ha hb ?_
 rw[ea,eb]
 have:Qbx b=true:=by
  unfold Qbx
  have h3:b.natAbs<2^8000:=Zp (by omega:b.natAbs<2^64) (ZH (by decide) (by decide))
  simp only[Zj,decide_eq_true_eq]
  exact⟨by omega,h3⟩
 show(if Qbx b=true then some (D.int (Qdo a b))else none)=_
 rw[if_pos this,Qiw _ _ (by omega)]
theorem QaT{fa:DE}{ρ:En}{r:R}(h:fa ρ=some r):Qao fa ρ=some ⟨r.d,false,r.M⟩:=by unfold Qao;rw[h];rfl
theorem Qu0{fa fb:DE}{ρ:En}{ra rb:R}{m:Nat}{f:Nat->Int}{i:Int}(ha:fa ρ=some ra)(ea:ra.d=Qe m f)(hb:fb ρ=some rb)(eb:rb.d= .int i)(h0:0<=i)(h:i<m):Ql fa fb ρ=some ⟨.int (f i.toNat),true,[]⟩:=by
 unfold Ql
 rw[ha,Za,hb,Za,ea,eb]
 simp only[Qe,D.items,Za,Qvd h0 h,ZY]
 rfl
theorem Qdk{fa fb:DE}{ρ:En}{ra rb:R}{ns:List Int}{i:Int}{v:Int}(ha:fa ρ=some ra)(ea:ra.d= .lst (ns.map .int))(hb:fb ρ=some rb)(eb:rb.d= .int i)(h0:0<=i)(h:ns[i.toNat]? =some v):Ql fa fb ρ=some ⟨.int v,true,[]⟩:=by
 have hl:i<ns.length:=by have:=(Zd.mp h).1;omega
 unfold Ql
 rw[ha,Za,hb,Za,ea,eb]
 simp only[D.items,Za]
 rw[Qh2 h0 (by simpa using hl),Zl,h]
 rfl
theorem QnA{n:Nat}{den:Den}{dfl:List D}{fs:DA}{ρ:En}{r:RA}{d:D}{fr:Bool}(h:fs ρ=some r)(hd:den (r.ds++dfl)=some (d,fr))(hl:r.ds.length+dfl.length=n):Qk n den dfl fs ρ=some (if fr=true then⟨d,true,[]⟩else HS.R.norm ⟨d,false,r.M⟩):=by
 unfold Qk
 rw[h,Za,if_pos hl,hd]
 rfl
noncomputable def Qhn:DS:=(Qf (QH (Qi0 (Qhv "int" (Qa 0)) (Qp2 (Qhv "bool" (Qa 0))))) Qi)
def Qkz(d:Den):Prop:=∀i:Int,d [.int i]=some (.bl true,true)
theorem QsA:Qkz (Qq 1 Qhn):=λi=>rfl
noncomputable def Qso(t k:Int):Int:=(t+17)*(k*k+7*k+11)*69621 % 2147483647
noncomputable def Qzf(m t k:Int):Int:=if Qso t k % (k+1)<k then(Qso t k % (k+1)+t) % m else m
noncomputable def Qzb(m t kind:Int)(k:Int):Int×Int×Bool:=((k+t) % m,Qzf m t k,decide (kind=2) || (decide (kind=3) && decide (Qso t k / 64 % 2=1)))
noncomputable def Qyo(m:Nat)(t kind:Int):List (Int×Int×Bool):=(List.range m).map λ(k:Nat)=>Qzb m t kind k
def GoodW(m:Nat)(w:Int×Int×Bool):Prop:=Good m (w.1,w.2.1)/\(w.2.2=true->w.1<m)
noncomputable def QxI(W:List (Int×Int×Bool)):D:= .lst (W.map Qtn)
@[simp] theorem Qx3(W:List (Int×Int×Bool)):(QxI W).flat=false:=rfl
theorem Qvw{x:Nat}{fa:DE}{ρ:En}{r:R}{xs:List D}{Q:Out->Prop}(hx:ρ[x]? =some (some (.lst xs,true)))(ha:fa ρ=some r)(hf:r.d.flat=true)(hl:xs.length<16777216)(q:Q (.nx (ρ.set x (some (.lst (xs++[r.d]),true))))):Run (QcP x Q2 fa) ρ Q:=by
 refine⟨_,?_,q⟩
 have hn:r.norm=⟨r.d,true,[]⟩:=by unfold HS.R.norm;rw[if_pos hf]
 unfold QcP
 rw[hx]
 simp only[Q2,Za,ha,Qax,Qh6,hn,Qay,kill,QhR]
 simp[hl]
theorem Run.nx{f:DS}{ρ:En}{Q Q':En->Prop}(h:Run f ρ (Nx Q))(m:∀ρ,Q ρ->Q' ρ):Run f ρ (Nx Q'):=h.mono λo ho=>by
 cases o with
 | nx ρ=>exact m ρ ho
 | _=>exact ho.elim
theorem Q0{f g:DS}{ρ:En}{P:En->Prop}{Q:Out->Prop}(h:Run f ρ (Nx P))(k:∀ρ',P ρ'->Run g ρ' Q):Run (Qf f g) ρ Q:=run_seq (h.nx k)
noncomputable def Qfk(w:Int×Int×Bool):Int×Int:=(if w.2.1<w.1 then w.2.1 else w.1,if w.2.1>w.1 then w.2.1 else w.1)
noncomputable def Qxh(w:Int×Int×Bool):Int×Int:=(w.1,w.2.1)
noncomputable def Qeb(W:List (Int×Int×Bool)):List (Int×Int):=(W.filter λw=> !w.2.2).map Qfk
noncomputable def QeU(W:List (Int×Int×Bool)):List (Int×Int):=(W.filter λw=>w.2.2).map Qxh
theorem QgE{m:Nat}{W:List (Int×Int×Bool)}(h:∀w∈W,GoodW m w):∀s∈Qeb W,Good m s/\s.1<s.2:=λs hs=>by
 obtain⟨w,hw,rfl⟩:=Zaf.mp hs
 obtain⟨⟨h1,h2,h3,h4,h5⟩,_⟩:=h w (ZaD.mp hw).1
 simp only at h1 h2 h3 h4 h5
 unfold Qfk Good
 simp only
 split<;>split<;>omega
theorem Qgp{m:Nat}{W:List (Int×Int×Bool)}(h:∀w∈W,GoodW m w):∀s∈QeU W,Good m s/\s.1<m:=λs hs=>by
 obtain⟨w,hw,rfl⟩:=Zaf.mp hs
 obtain⟨h1,h2⟩:=h w (ZaD.mp hw).1
 exact⟨h1,h2 (by simpa using(ZaD.mp hw).2)⟩
theorem Qle(W:List (Int×Int×Bool)):(Qeb W).length<=W.length:=by unfold Qeb;rw[Zx];exact List.length_filter_le _ _
theorem QlA(W:List (Int×Int×Bool)):(QeU W).length<=W.length:=by unfold QeU;rw[Zx];exact List.length_filter_le _ _
structure Qw0 (m:Nat) (t kind:Int) (R L:List (Int×Int)):Prop where
 ex:∃W,(∀w∈Qyo m t kind,w∈W)/\(∀w∈W,GoodW m w)/\W.length<=100/\R=Qeb W/\L=QeU W
theorem Qw0.good{m:Nat}{t kind:Int}{R L:List (Int×Int)}(h:Qw0 m t kind R L):(∀s∈R,Good m s)/\(∀s∈L,Good m s)/\R.length<=100/\L.length<=100:=by
 obtain⟨W,_,h2,h3,rfl,rfl⟩:=h.ex
 exact⟨λs hs=>(QgE h2 s hs).1,λs hs=>(Qgp h2 s hs).1,Zk (Qle W) h3,Zk (QlA W) h3⟩
theorem Qew{f:Nat->Int}{i k:Nat}{v:Int}:up f i v k=if k=i then v else f k:=rfl
theorem QjM{fa:DE}{ρ:En}{r:R}{xs:List D}(h:fa ρ=some r)(e:r.d= .lst xs):dBf Qat (Qd fa Qg) ρ=some ⟨.int xs.length,true,[]⟩:=by
 unfold dBf
 rw[Qs h (QP _),Za]
 simp[e,Qat]
theorem Qhb{fa fb:DE}{ρ:En}{ra rb:R}{d:D}(ha:fa ρ=some ra)(ea:ra.d=d)(hb:fb ρ=some rb)(eb:rb.d=d)(hs:d.sim 8=true):dOp gNe fa fb ρ=some ⟨.bl false,true,[]⟩:=by
 refine QbX ha hb ?_
 rw[ea,eb]
 unfold gNe
 rw[hs,Qms hs];rfl
theorem QrC{b:Int}(h:0<b)(h2:b<2^200):Qbx b=true:=by
 unfold Qbx
 have h3:b.natAbs<2^8000:=Zp (by omega:b.natAbs<2^200) (ZH (by decide) (by decide))
 simp only[Zj,decide_eq_true_eq]
 exact⟨by omega,h3⟩
theorem Qj5{i j:Nat}{fa fb:DE}{ρ:En}{ra rb:R}{a b:Int}{Q:Out->Prop}(ha:fa ρ=some ra)(ea:ra.d= .int a)(hb:fb ρ=some rb)(eb:rb.d= .int b)(h:0<b)(h2:b<2^200)
  (q:Q (.nx ((ρ.set i (some (.int (a / b),true))).set j (some (.int (a % b),true))))):Run (QeS (.tp [i,j]) (dDm (Qd fa (Qd fb Qg)))) ρ Q:=by
 have e:dDm (Qd fa (Qd fb Qg)) ρ=some ⟨.tup [.int (a / b),.int (a % b)],true,[]⟩:=by
  unfold dDm
  rw[Qs ha (Qs hb (QP _)),Za]
  simp only[ea,eb]
  rw[if_pos (QrC h h2),Qiw _ _ (by omega),QnM _ _ (by omega)]
 refine⟨_,?_,q⟩
 unfold QeS
 rw[e]
 rfl
theorem QyU(xs:List D):deq (.lst xs) (.lst [])=xs.isEmpty:=by cases xs<;>rfl
theorem QyN(n:Nat)(ns:List Int):(QB ns).sim (n+1)=true:=by
 unfold QB
 simp only[D.sim,ZbN,Zai]
 intro p _
 cases n<;>rfl
theorem QmE{fa:DE}{ρ:En}{r:R}{ns:List Int}(ha:fa ρ=some r)(e:r.d= .lst (ns.map .int)):QM (dOp gNe fa (Qav Qg)) ρ=some (!ns.isEmpty):=by
 refine QI (QbX ha rfl ?_) rfl
 rw[e]
 unfold gNe
 have:(D.lst (ns.map .int)).sim 8=true:=QyN 7 ns
 rw[this]
 show some (D.bl (!deq (.lst (ns.map .int)) (.lst [])))=_
 rw[QyU];simp
theorem QqM{fa fb:DE}{ρ:En}{ra rb:R}{a b:Int}(ha:fa ρ=some ra)(ea:ra.d= .int a)(hb:fb ρ=some rb)(eb:rb.d= .int b)(h:0<=b/\b<=1000/\a.natAbs<2^200):dOp QgO fa fb ρ=some ⟨.int (a^b.toNat),true,[]⟩:=by
 refine QbX ha hb ?_
 rw[ea,eb]
 show(if 0<=b/\b<=1000/\a.natAbs<2^200 then some (D.int (a^b.toNat))else none)=_
 rw[if_pos h]
theorem Qm0{x:Nat}{fa:DE}{ρ:En}{r:R}{A:List Int}{n:Int}{Q:Out->Prop}(hx:ρ[x]? =some (some (QB A,true)))(ha:fa ρ=some r)(hf:r.d= .int n)(hl:A.length<16777216)(q:Q (.nx (ρ.set x (some (QB (A++[n]),true))))):Run (QcP x Q2 fa) ρ Q:=by
 refine Qvw hx ha (by rw[hf];rfl) (by simpa using hl) ?_
 rw[hf]
 unfold QB at q
 rw[Zaz]at q
 exact q
noncomputable abbrev B40:Int:=10000000000000000000000000000000000000000
noncomputable def Qfg:DS:=(Qf (Qu 2 (dOp QgO (dC (.int 10)) (dC (.int 40)))) (Qf (Qu 3 (dC (.int 0))) (Qf (sIf (QM (dOp gNe (Qa 0) (Qav Qg))) (Qf (Qu 3 (Qao (Ql (Qa 0) (dC (.int 0))))) Qi) Qi) (Qf (Qu 4 (Qav Qg)) (Qf (QaW (Q5 (Qa 1)) (.nm 5) (Qf (QeS (.tp [3,6]) (dDm (Qd (Qa 3) (Qd (Qa 2) Qg)))) (Qf (QcP 4 Q2 (Qa 6)) Qi))) (Qf (sIf (QM (dOp gGt (Qa 3) (dC (.int 0)))) (Qf (QH (Qa 4)) Qi) Qi) (Qf (Qu 7 (Qav Qg)) (Qf (QaW (Q5 (Qa 1)) (.nm 5) (Qf (Qu 8 (dC (.int 7919))) (Qf (sIf (QM (dOp gNe (Qa 0) (Qav Qg))) (Qf (Qu 8 (Qao (Ql (Qa 0) (dOp QaJ (Qa 5) (dBf Qat (Qd (Qa 0) Qg)))))) Qi) Qi) (Qf (Qu 8 (dOp QaJ (Qaq (Q8 (Q8 (Q8 (Qa 8) (Qaq (Qaq (Qa 5) (Qa 5)) (dC (.int 7919)))) (Qaq (Qa 5) (dC (.int 104729)))) (dC (.int 31))) (dC (.int 48271))) (dC (.int 2147483647)))) (Qf (Qu 8 (dOp QaJ (Qaq (dOp QaJ (Qaq (Qa 8) (Qa 8)) (dC (.int 2147483629))) (Q8 (Qaq (dC (.int 2)) (Qa 5)) (dC (.int 69621)))) (dC (.int 2147483587)))) (Qf (QcP 7 Q2 (dOp QaJ (Qaq (Qa 8) (dOp QgO (dC (.int 618970019642690137449562111)) (dC (.int 2)))) (Qa 2))) Qi)))))) (Qf (QH (Qa 7)) Qi)))))))))
def CellsOk(d:Den):Prop:=∀(ns:List Int) (n:Nat),ns.length<=63->n<=200->∃cs:List Int,d [.lst (ns.map .int),.int n]=some (QB cs,true)/\cs.length=n/\∀c∈cs,0<=c/\c<B40
theorem QtL:CellsOk (Qq 9 Qfg):=λns n hl hn=>by
 have key:Run Qfg (Qd6 9 [.lst (ns.map .int),.int n]) (Rt λd fr=>∃cs:List Int,d=QB cs/\fr=true/\cs.length=n/\∀c∈cs,0<=c/\c<B40):=by
  refine run_seq (Qh (r:=⟨.int B40,true,[]⟩) ?_ ?_)
  ·exact QqM (a:=10) (b:=40) rfl rfl rfl rfl (by decide)
  rw[Qn]
  refine run_seq (Qh (r:=⟨.int 0,true,[]⟩) rfl ?_)
  rw[Qn]
  refine Q0 (P:=λρ=>∃z:Int,ρ=[some (.lst (ns.map .int),false),some (.int n,true),some (.int B40,true),some (.int z,true),none,none,none,none,none]) ?_ ?_
  ·refine QZ (QmE (ns:=ns) (r:=⟨.lst (ns.map .int),false,[]⟩) rfl rfl) (λh=>?_) (λ_=>Qr ⟨0,rfl⟩)
   cases ns with
   | nil=>cases h
   | cons a r=>exact run_seq (Qh (QaT (Qdk rfl rfl rfl rfl (by decide) rfl)) (Qr ⟨a,by rw[Qbt rfl];rfl⟩))
  rintro ρ ⟨z,rfl⟩
  refine run_seq (Qh rfl ?_)
  rw[Qn]
  refine Q0 (P:=λρ=>∃(z:Int) (cs:List Int) (j5 j6:Option (D×Bool)),cs.length=n/\(∀c∈cs,0<=c/\c<B40)/\ρ=[some (.lst (ns.map .int),false),some (.int n,true),some (.int B40,true),some (.int z,true),some (QB cs,true),j5,j6,none,none]) ?_ ?_
  ·refine Qaj (List.range n) (λi ρ=>∃(z:Int) (cs:List Int) (j5 j6:Option (D×Bool)),cs.length=i/\(∀c∈cs,0<=c/\c<B40)/\ρ=[some (.lst (ns.map .int),false),some (.int n,true),some (.int B40,true),some (.int z,true),some (QB cs,true),j5,j6,none,none]) (Qac rfl rfl (by omega)) rfl ⟨z,[],none,none,rfl,by simp,rfl⟩ ?_ ?_
   ·rintro i k ρ hi ⟨z,cs,j5,j6,h1,h2,rfl⟩
    have hin:i<n:=by have:=(Zd.mp hi).1;simpa using this
    refine⟨_,rfl,?_⟩
    refine run_seq (Qj5 rfl rfl rfl rfl (by decide) (by decide) ?_)
    refine run_seq (Qm0 rfl rfl rfl (by omega) (Qr ⟨z / B40,cs++[z % B40],_,_,by simp[h1],λc hc=>?_,rfl⟩))
    rcases ZJ.mp hc with hc | hc
    ·exact h2 c hc
    ·rw[ZA.mp hc];exact⟨ZM _ (by decide),ZF _ (by decide)⟩
   ·rintro ρ ⟨z,cs,j5,j6,h1,h2,rfl⟩
    exact⟨z,cs,j5,j6,by simpa using h1,h2,rfl⟩
  rintro ρ ⟨z,cs,j5,j6,h1,h2,rfl⟩
  refine Qw (QZ (QI rfl rfl) (λ_=>QE (Q:=λd fr=>∃cs:List Int,d=QB cs/\fr=true/\cs.length=n/\∀c∈cs,0<=c/\c<B40) rfl ⟨cs,rfl,rfl,h1,h2⟩ |> λh=>h.mono λo ho=>by cases o<;>first | exact ho | exact ho.elim) (λ_=>Qr ?_))
  refine run_seq (Qh rfl ?_)
  rw[Qn]
  refine Q0 (P:=λρ=>∃(cs':List Int) (j5 j8:Option (D×Bool)),cs'.length=n/\(∀c∈cs',0<=c/\c<B40)/\ρ=[some (.lst (ns.map .int),false),some (.int n,true),some (.int B40,true),some (.int z,true),some (QB cs,true),j5,j6,some (QB cs',true),j8]) ?_ ?_
  ·refine Qaj (List.range n) (λi ρ=>∃(cs':List Int) (j5 j8:Option (D×Bool)),cs'.length=i/\(∀c∈cs',0<=c/\c<B40)/\ρ=[some (.lst (ns.map .int),false),some (.int n,true),some (.int B40,true),some (.int z,true),some (QB cs,true),j5,j6,some (QB cs',true),j8]) (Qac rfl rfl (by omega)) rfl ⟨[],_,none,rfl,by simp,rfl⟩ ?_ ?_
   ·rintro i k ρ hi ⟨cs',j5,j8,h3,h4,rfl⟩
    have hin:i<n:=by have:=(Zd.mp hi).1;simpa using this
    have hk:k<n:=by have:=ZaG hi;simpa using this
    refine⟨_,rfl,?_⟩
    refine run_seq (Qh rfl ?_)
    rw[Qn]
    refine Q0 (P:=λρ=>∃y:Int,ρ=[some (.lst (ns.map .int),false),some (.int n,true),some (.int B40,true),some (.int z,true),some (QB cs,true),some (.int k,true),j6,some (QB cs',true),some (.int y,true)]) ?_ ?_
    ·refine QZ (QmE rfl rfl) (λh=>?_) (λ_=>Qr ⟨7919,rfl⟩)
     have hne:0<ns.length:=by cases ns with
      | nil=>cases h
      | cons a r=>simp
     have m1:=ZM (k:Int) (by omega:(ns.length:Int)≠0)
     have m2:=ZF (k:Int) (by omega:(0:Int)<ns.length)
     have hg:ns[((k:Int) % ns.length).toNat]? =some (ns[((k:Int) % ns.length).toNat]'(by omega)):=Zam _
     have elen:dBf Qat (Qd (Qa 0) Qg) [some (.lst (ns.map .int),false),some (.int n,true),some (.int B40,true),some (.int z,true),some (QB cs,true),some (.int k,true),j6,some (QB cs',true),some (.int 7919,true)]=some ⟨.int ns.length,true,[]⟩:=by
      rw[QjM rfl rfl,Zx]
     exact run_seq (Qh (QaT (Qdk rfl rfl (QaF rfl rfl elen rfl (by omega)) rfl m1 hg)) (Qr ⟨_,by rw[Qbt rfl];rfl⟩))
    rintro ρ ⟨y,rfl⟩
    refine run_seq (Qh (QaF (Qap (Qaz (Qaz (Qaz rfl rfl (Qap (Qap rfl rfl rfl rfl (QbE (by omega))) rfl rfl rfl (Qh7 (by decide))) rfl) rfl (Qap rfl rfl rfl rfl (Qh7 (by decide))) rfl) rfl rfl rfl) rfl rfl rfl (Qh7 (by decide))) rfl rfl rfl (by decide)) ?_)
    rw[Qn]
    generalize ew:(y+(k:Int)*k*7919+(k:Int)*104729+31)*48271 % 2147483647=w
    have w1:0<=w:=by rw[← ew];exact ZM _ (by decide)
    have w2:w<2147483647:=by rw[← ew];exact ZF _ (by decide)
    refine run_seq (Qh (QaF (Qap (QaF (Qap rfl rfl rfl rfl (QbE (by omega))) rfl rfl rfl (by decide)) rfl (Qaz (Qap rfl rfl rfl rfl (QbE (by decide))) rfl rfl rfl) rfl (Qh7 (by omega))) rfl rfl rfl (by decide)) ?_)
    rw[Qn]
    generalize eu:w*w % 2147483629*(2*(k:Int)+69621) % 2147483587=u
    have u1:0<=u:=by rw[← eu];exact ZM _ (by decide)
    have u2:u<2147483587:=by rw[← eu];exact ZF _ (by decide)
    have epow:dOp QgO (dC (.int 618970019642690137449562111)) (dC (.int 2)) [some (.lst (ns.map .int),false),some (.int n,true),some (.int B40,true),some (.int z,true),some (QB cs,true),some (.int k,true),j6,some (QB cs',true),some (.int u,true)]=some ⟨.int (618970019642690137449562111^2),true,[]⟩:=QqM (b:=2) rfl rfl rfl rfl (by decide)
    refine run_seq (Qm0 rfl (QaF (Qap rfl rfl epow rfl (QbE (by omega))) rfl rfl rfl (by decide)) rfl (by omega) (Qr ⟨_,_,_,?_,λc hc=>?_,rfl⟩))
    ·simp[h3]
    ·rcases ZJ.mp hc with hc | hc
     ·exact h4 c hc
     ·rw[ZA.mp hc];exact⟨ZM _ (by decide),ZF _ (by decide)⟩
   ·rintro ρ ⟨cs',j5,j8,h3,h4,rfl⟩
    exact⟨cs',j5,j8,by simpa using h3,h4,rfl⟩
  rintro ρ ⟨cs',j5,j8,h3,h4,rfl⟩
  exact QE rfl ⟨cs',rfl,rfl,h3,h4⟩
 obtain⟨o,h1,h2⟩:=key
 cases o with
 | rt d fr=>
  obtain⟨cs,rfl,rfl,h3,h4⟩:=h2
  exact⟨cs,by unfold Qq;rw[h1];rfl,h3,h4⟩
 | _=>exact h2.elim
def Esc(m:Nat)(W:List (Int×Int×Bool)):Prop:=∀A:Nat->Prop,(∃p,p<m/\A p)->∃w∈W,w.1<m/\A w.1.toNat/\(w.2.1=m∨¬A w.2.1.toNat)
theorem Esc.mono{m:Nat}{W W':List (Int×Int×Bool)}(h:Esc m W)(s:∀w∈W,w∈W'):Esc m W':=λA hA=>let ⟨w,hw,r⟩:=h A hA;⟨w,s w hw,r⟩
def Qtk(m:Nat)(O:List Int)(w:Int×Int×Bool)(j:Nat):Prop:=O[j]? =some w.1/\(w.2.1=m∨∃i,i<j/\O[i]? =some w.2.1)
theorem Qtk.app{m:Nat}{O O':List Int}{w:Int×Int×Bool}{j:Nat}(h:Qtk m O w j):Qtk m (O++O') w j:=by
 obtain⟨h1,h2⟩:=h
 have hj:j<O.length:=(Zd.mp h1).1
 refine⟨by rw[Zau hj];exact h1,?_⟩
 rcases h2 with h2 | ⟨i,hi,h2⟩
 ·exact .inl h2
 ·exact .inr ⟨i,hi,by rw[Zau (by omega)];exact h2⟩
noncomputable def Qp(m:Nat)(g:Nat->Int):Int:=((List.range m).map g).sum
theorem QS(m:Nat)(g:Nat->Int):Qp (m+1) g=Qp m g+g m:=by
 unfold Qp;rw[ZbS,Zaz,Zbx];simp
theorem Qj{m:Nat}{f g:Nat->Int}(h:∀i,i<m->f i=g i):Qp m f=Qp m g:=by
 unfold Qp;rw[ZO λi hi=>h i (Zr.mp hi)]
theorem QaA(m:Nat)(f g:Nat->Int):Qp m (λi=>f i+g i)=Qp m f+Qp m g:=by
 induction m with
 | zero=>rfl
 | succ m ih=>rw[QS,QS,QS,ih];omega
theorem QbP(m:Nat):Qp m (λ_=>0)=0:=by
 induction m with
 | zero=>rfl
 | succ m ih=>rw[QS,ih];rfl
theorem Qaf(m:Nat)(c:Int)(f:Nat->Int):Qp m (λi=>c*f i)=c*Qp m f:=by
 induction m with
 | zero=>simp[Qp]
 | succ m ih=>rw[QS,QS,ih,Zas]
theorem Qhu(m n:Nat)(f:Nat->Nat->Int):Qp m (λi=>Qp n λj=>f i j)=Qp n λj=>Qp m λi=>f i j:=by
 induction m with
 | zero=>show 0=Qp n λj=>0;rw[QbP]
 | succ m ih=>
  rw[QS,ih,← QaA]
  exact Qj λj _=>by rw[QS]
theorem Qa0{m:Nat}{p:Nat}(hp:p<m)(v:Int)(f:Nat->Int):Qp m (λi=>(if i=p then v else 0)*f i)=v*f p:=by
 induction m with
 | zero=>omega
 | succ m ih=>
  rw[QS]
  by_cases h:p=m
  ·subst h
   rw[if_pos rfl,Qj (g:=λ_=>0) λi hi=>by rw[if_neg (by omega)];simp,QbP];simp
  ·rw[ih (by omega),if_neg (λz=>h z.symm)];simp
noncomputable def QG(m:Nat)(T:Nat->Nat->Int)(f c:Nat->Int):Nat->Int:=λj=>f j+Qp m λi=>c i*T i j
theorem QcE{m:Nat}{f g:Nat->Int}(h:∀i,i<m->f i=g i):Qe m f=Qe m g:=by
 unfold Qe
 congr 1
 refine ZO λi hi=>?_
 rw[h i (Zr.mp hi)]
theorem QpQ{m:Nat}(f g:Nat->D):Qhr ((List.range m).map f) ((List.range m).map g)=(List.range m).map λi=> .tup [f i,g i]:=by
 generalize List.range m=l
 induction l with
 | nil=>rfl
 | cons n ns ih=>unfold Qhr at ih ⊢;simp only[ZL,List.zip_cons_cons,ih]
theorem Qjh{ρ:En}{m:Nat}{f:Nat->Int}{fs:DA}{rs:RA}(h:fs ρ=some rs)(e:rs.ds=[Qe m f]):dList fs ρ=some ⟨Qe m f,true,[]⟩:=by
 unfold dList
 rw[h,Za,e]
 simp[Qe,Qbs]
theorem Qen{fa fb:DE}{ρ:En}{ra rb:R}{m:Nat}{f g:Nat->D}(ha:fa ρ=some ra)(ea:ra.d= .lst ((List.range m).map f))(hb:fb ρ=some rb)(eb:rb.d= .lst ((List.range m).map g)):QdU fa fb ρ=some ⟨(List.range m).map λi=> .tup [f i,g i],ra.M++rb.M⟩:=by
 unfold QdU
 rw[ha,Za,hb,Za,ea,eb]
 simp only[QpQ]
theorem Qva(i j:Nat)(s:Int×Int):(hit i j s).natAbs<=1:=by unfold hit;split<;>split<;>decide
theorem QfO(i j:Nat):∀S:List (Int×Int),((S.map (hit i j)).sum).natAbs<=S.length
 | []=>by simp
 | s::S=>by
  have:=QfO i j S
  have:=Qva i j s
  rw[ZL,Zaw,ZE]
  omega
theorem Qur{fa fl fh:DE}{ρ:En}{ra rl rh:R}{cs:List Int}{a b:Nat}(ha:fa ρ=some ra)(ea:ra.d=QB cs)(hl:fl ρ=some rl)(el:rl.d= .int a)(hh:fh ρ=some rh)(eh:rh.d= .int b):QcV fa (Qbd fl) (Qbd fh) ρ=some ⟨QB ((cs.drop (min a cs.length)).take (min b cs.length-min a cs.length)),true,[]⟩:=by
 unfold QcV Qbd
 simp only[ha,hl,hh,Za,ea,el,eh,QB,cutD,Zx,HT.QhN,← List.map_drop,← List.map_take,Qbs,QjA,if_true]
structure QfP (m:Nat) (R L:List (Int×Int)):Prop where
 ex:∃W,Esc m W/\(∀w∈W,GoodW m w)/\W.length<=200/\R=Qeb W/\L=QeU W
theorem QfP.good{m:Nat}{R L:List (Int×Int)}(h:QfP m R L):(∀s∈R,Good m s)/\(∀s∈L,Good m s)/\R.length<=200/\L.length<=200/\(∀s∈R,s.1<s.2)/\∀s∈L,s.1<m:=by
 obtain⟨W,_,h2,h3,rfl,rfl⟩:=h.ex
 exact⟨λs hs=>(QgE h2 s hs).1,λs hs=>(Qgp h2 s hs).1,Zk (Qle W) h3,Zk (QlA W) h3,λs hs=>(QgE h2 s hs).2,λs hs=>(Qgp h2 s hs).2⟩
theorem Qln{α:Type}(m:Nat)(g:Nat->α->Int):∀S:List α,Qp m (λj=>(S.map (g j)).sum)=(S.map λs=>Qp m λj=>g j s).sum
 | []=>by simp[QbP]
 | s::S=>by
  simp only[ZL,Zaw]
  rw[QaA,Qln m g S]
theorem Qow{α:Type}(c:Int)(f:α->Int):∀S:List α,c*(S.map f).sum=(S.map λs=>c*f s).sum
 | []=>by simp
 | s::S=>by simp only[ZL,Zaw,Zas,Qow c f S]
theorem Qo0{fa:DE}{ρ:En}{r:R}{m:Nat}{f:Nat->Int}(h:fa ρ=some r)(e:r.d=Qe m f):dBf QgC (Qd fa Qg) ρ=some ⟨.int (Qp m f),true,[]⟩:=by
 unfold dBf
 rw[Qs h (QP _),Za]
 have:Qe m f= .lst (((List.range m).map f).map .int):=by unfold Qe;rw[ZaN];rfl
 simp only[e,this,QgC,QnS,ZY]
 rfl
theorem QuL{fa fb:DE}{ρ:En}{ra rb:R}{d:D}(ha:fa ρ=some ra)(ea:ra.d=d)(hb:fb ρ=some rb)(eb:rb.d=d)(hs:d.sim 8=true):dOp gEq fa fb ρ=some ⟨.bl true,true,[]⟩:=by
 refine QbX ha hb ?_
 rw[ea,eb]
 unfold gEq
 rw[hs,Qms hs];rfl
structure TP (m:Nat) (T:Nat->Nat->Int):Prop where
 neg:∀p,p<m->T p p<0
 pos:∀i j,i<m->j<m->i≠j->0<=T i j
 bnd:∀i j,i<m->j<m->(T i j).natAbs<2^64
 wt:∃w:Nat->Int,(∀j,0<=w j)/\∀i,i<m->Qp m (λj=>T i j*w j)<= -1
inductive Leg (m:Nat) (T:Nat->Nat->Int) (f:Nat->Int):(Nat->Int)->Prop where
 | nil:Leg m T f λ_=>0
 | step {c:Nat->Int}{p:Nat}{t:Int}:Leg m T f c->p<m->0<=t->t*(0-T p p)<=QG m T f c p->Leg m T f (up c p (c p+t))
def Stb(m:Nat)(T:Nat->Nat->Int)(g:Nat->Int):Prop:=∀p,p<m->g p<0-T p p
theorem Leg.nonneg{m:Nat}{T:Nat->Nat->Int}{f c:Nat->Int}(h:Leg m T f c):∀i,0<=c i:=by
 induction h with
 | nil=>intro i;exact ZbV _
 | step _ _ ht _ ih=>
  intro i
  unfold up
  split
  ·have:=ih ‹Nat›;rename_i p _ _ _ _ _;have:=ih p;omega
  ·exact ih i
theorem Qkh{m:Nat}{f g:Nat->Int}(h:∀i,i<m->f i<=g i):Qp m f<=Qp m g:=by
 induction m with
 | zero=>exact ZbV _
 | succ m ih=>
  rw[QS,QS]
  have:=ih λi hi=>h i (by omega)
  have:=h m (by omega)
  omega
theorem Leg.least{m:Nat}{T:Nat->Nat->Int}(tp:TP m T){f c:Nat->Int}(h:Leg m T f c){c':Nat->Int}(h0:∀i,i<m->0<=c' i)(hs:Stb m T (QG m T f c')):∀i,i<m->c i<=c' i:=by
 induction h with
 | nil=>exact h0
 | @step c p t _ hp ht hle ih=>
  intro i hi
  unfold up
  split
  ·rename_i e
   subst e
   have key:QG m T f c i+(c' i-c i)*T i i<=QG m T f c' i:=by
    unfold QG
    have e1:Qp m (λk=>c k*T k i)+(c' i-c i)*T i i=Qp m (λk=>c k*T k i+(if k=i then c' i-c i else 0)*T k i):=by rw[QaA,Qa0 hi]
    have e2:Qp m (λk=>c k*T k i+(if k=i then c' i-c i else 0)*T k i)<=Qp m (λk=>c' k*T k i):=by
     refine Qkh λk hk=>?_
     by_cases hki:k=i
     ·subst hki;rw[if_pos rfl,← ZV];rw[show c k+(c' k-c k)=c' k by omega];exact ZbV _
     ·rw[if_neg hki,ZD,Zba]
      exact ZaK (ih k hk) (tp.pos k i hk hi hki)
    omega
   have h1:=hs i hi
   have h2:=tp.neg i hi
   by_cases hlt:c i+t<=c' i
   ·exact hlt
   ·exfalso
    have h3:(c' i-c i+1)<=t:=by omega
    have h4:(c' i-c i+1)*(0-T i i)<=t*(0-T i i):=ZaK h3 (by omega)
    have h5:(c' i-c i+1)*(0-T i i)=(0-T i i)-(c' i-c i)*T i i:=by rw[ZV,ZQ,ZbW,Zu];omega
    omega
  ·exact ih i hi
theorem Leg.unique{m:Nat}{T:Nat->Nat->Int}(tp:TP m T){f c d:Nat->Int}(hc:Leg m T f c)(hd:Leg m T f d)(sc:Stb m T (QG m T f c))(sd:Stb m T (QG m T f d)):∀i,i<m->c i=d i:=λi hi=>by
 have h1:=hc.least tp (λi _=>hd.nonneg i) sd i hi
 have h2:=hd.least tp (λi _=>hc.nonneg i) sc i hi
 omega
theorem QdO{m:Nat}{T:Nat->Nat->Int}{f g c d:Nat->Int}(j:Nat)(h1:f j=g j)(h2:∀i,i<m->c i=d i):QG m T f c j=QG m T g d j:=by
 unfold QG
 rw[h1,Qj λi hi=>by rw[h2 i hi]]
theorem Leg.cast{m:Nat}{T:Nat->Nat->Int}{f c d:Nat->Int}(h:Leg m T f c)(e:∀i,c i=d i):Leg m T f d:=by
 have:c=d:=funext e
 rw[← this];exact h
theorem Leg.QtW{m:Nat}{T:Nat->Nat->Int}{f g c:Nat->Int}(h:Leg m T f c)(e:∀i,i<m->f i=g i):Leg m T g c:=by
 induction h with
 | nil=>exact .nil
 | @step c p t _ hp ht hle ih=>exact .step ih hp ht (by rw[← QdO p (e p hp) (λ_ _=>rfl)];exact hle)
theorem Qfy{g:DT}{fb:DS}{Q:Out->Prop}(I:Nat->En->Prop)(step:∀n ρ,I n ρ->∃b,g ρ=some b/\(b=false->Q (.nx ρ))/\(b=true->Run fb ρ λo=>match o with | .nx ρ2=>∃n',n'<n/\I n' ρ2 | .ct ρ2=>∃n',n'<n/\I n' ρ2 | .bk ρ2=>Q (.nx ρ2) | .rt d fr=>Q (.rt d fr))):
  ∀(n:Nat) (ρ:En),I n ρ->Run (Qck g fb) ρ Q:=by
 intro n
 induction n using Nat.strongRecOn with
 | _ n ih=>
  intro ρ h
  obtain⟨b,hb,hf,ht⟩:=step n ρ h
  unfold Run
  rw[QqF,hb,Za]
  cases b with
  | false=>exact⟨_,by simp,hf rfl⟩
  | true=>
   obtain⟨o,ho,hq⟩:=ht rfl
   rw[if_pos rfl,ho,Za]
   cases o with
   | nx ρ2=>obtain⟨n',hn,hI⟩:=hq;exact ih n' hn ρ2 hI
   | ct ρ2=>obtain⟨n',hn,hI⟩:=hq;exact ih n' hn ρ2 hI
   | bk ρ2=>exact⟨_,rfl,hq⟩
   | rt d fr=>exact⟨_,rfl,hq⟩
theorem Qam{fa fb:DE}{ρ:En}{ra rb:R}{m:Nat}{f:Nat->Int}{i:Nat}(ha:fa ρ=some ra)(ea:ra.d=Qe m f)(hb:fb ρ=some rb)(eb:rb.d= .int i)(h:i<m):Ql fa fb ρ=some ⟨.int (f i),true,[]⟩:=by
 have:=Qu0 ha ea hb eb (by omega) (by omega)
 rw[ZC]at this
 exact this
def Qpi(m:Nat)(S:List (Int×Int)):Prop:=∀A:Nat->Prop,(∃p,p<m/\A p)->∃s∈S,s.1<m/\A s.1.toNat/\(s.2=m∨¬A s.2.toNat)
theorem Qqk{m:Nat}{W:List (Int×Int×Bool)}(h:Esc m W):Qpi m (QcA (Qeb W) (QeU W)):=λA hA=>by
 obtain⟨w,hw,h1,h2,h3⟩:=h A hA
 refine⟨(w.1,w.2.1),?_,h1,h2,h3⟩
 unfold QcA
 cases e:w.2.2 with
 | true=>exact Zc _ (Zaf.mpr ⟨w,ZaD.mpr ⟨hw,e⟩,rfl⟩)
 | false=>
  have hr:Qfk w∈Qeb W:=Zaf.mpr ⟨w,ZaD.mpr ⟨hw,by simp[e]⟩,rfl⟩
  by_cases hlt:w.2.1<w.1
  ·refine Zh _ (Zc _ (Zaf.mpr ⟨Qfk w,hr,?_⟩))
   unfold Qfk
   rw[if_pos hlt,if_neg (by omega)];rfl
  ·refine Zh _ (Zh _ ?_)
   have:Qfk w=(w.1,w.2.1):=by
    unfold Qfk
    rw[if_neg hlt]
    by_cases hgt:w.2.1>w.1
    ·rw[if_pos hgt]
    ·rw[if_neg hgt];rw[show w.2.1=w.1 by omega]
   rw[← this];exact hr
inductive Rk (m:Nat) (S:List (Int×Int)):Nat->Nat->Prop where
 | pit {s:Int×Int}{n:Nat}:s∈S->s.2=m->Rk m S (n+1) s.1.toNat
 | step {s:Int×Int}{k n:Nat}:s∈S->s.2≠m->Rk m S k s.2.toNat->k<n->Rk m S n s.1.toNat
theorem Qsd{P:Nat->Prop}(h:∃n,P n):∃n,P n/\∀k,k<n->¬P k:=by
 obtain⟨n,hn⟩:=h
 induction n using Nat.strongRecOn with
 | _ n ih=>
  by_cases h:∃k,k<n/\P k
  ·obtain⟨k,hk,h⟩:=h;exact ih k hk h
  ·exact⟨n,hn,λk hk hx=>h ⟨k,hk,hx⟩⟩
theorem Qya{m:Nat}{S:List (Int×Int)}(he:Qpi m S):∀p,p<m->∃n,Rk m S n p:=λp hp=>by
 by_cases h:∃n,Rk m S n p
 ·exact h
 ·exfalso
  obtain⟨s,hs,h1,h2,h3⟩:=he (λp=>¬ ∃n,Rk m S n p) ⟨p,hp,h⟩
  by_cases e:s.2=m
  ·exact h2 ⟨1,.pit hs e⟩
  ·rcases h3 with h3 | h3
   ·exact e h3
   ·have:∃n,Rk m S n s.2.toNat:=ZaC λz=>h3 z
    obtain⟨k,hk⟩:=this
    exact h2 ⟨k+1,.step hs e hk (by omega)⟩
theorem Qvr{m:Nat}{S:List (Int×Int)}(hg:∀s∈S,Good m s)(he:Qpi m S):∃r:Nat->Nat,r m=0/\∀p,p<m->∃s∈S,s.1=p/\r s.2.toNat<r p:=by
 have h:∀p,∃n,(p<m->Rk m S n p/\∀k,k<n->¬Rk m S k p)/\(p=m->n=0):=λp=>by
  by_cases hp:p<m
  ·obtain⟨n,hn⟩:=Qsd (Qya he p hp)
   exact⟨n,λ_=>hn,λz=>by omega⟩
  ·exact⟨0,λz=>absurd z hp,λ_=>rfl⟩
 obtain⟨r,hr⟩:=ZbI h
 refine⟨r,(hr m).2 rfl,λp hp=>?_⟩
 have h1:=((hr p).1 hp).1
 generalize r p=n at h1
 cases h1 with
 | @pit s n hs e=>
  obtain⟨g1,g2,g3,g4,g5⟩:=hg s hs
  exact⟨s,hs,by omega,by rw[e,ZC,(hr m).2 rfl];omega⟩
 | @step s k n hs e hk hkn=>
  obtain⟨g1,g2,g3,g4,g5⟩:=hg s hs
  refine⟨s,hs,by omega,?_⟩
  have hl:s.2.toNat<m:=by omega
  have:=((hr s.2.toNat).1 hl).2 k
  have:¬k<r s.2.toNat:=λz=>this z hk
  omega
theorem QnH(r:Nat->Nat):∀m:Nat,∃N,∀p,p<=m->r p<=N
 | 0=>⟨r 0,λp hp=>by rw[show p=0 by omega];exact Zi _⟩
 | m+1=>by
  obtain⟨N,hN⟩:=QnH r m
  refine⟨N+r (m+1),λp hp=>?_⟩
  by_cases e:p=m+1
  ·subst e;omega
  ·have:=hN p (by omega);omega
theorem Qq3{m:Nat}{i:Nat}{s:Int×Int}(hi:i<m)(g:Good m s)(w:Nat->Int)(hw:w m=0):Qp m (λj=>hit i j s*w j)=if s.1=i then w s.2.toNat-w i else 0:=by
 obtain⟨g1,g2,g3,g4,g5⟩:=g
 by_cases h:s.1=i
 ·rw[if_pos h]
  have e:Qp m (λj=>hit i j s*w j)=Qp m (λj=>(if j=s.2.toNat then 1 else 0)*w j+(if j=i then-1 else 0)*w j):=Qj λj _=>by
   have:hit i j s=(if j=s.2.toNat then 1 else 0)+(if j=i then-1 else 0):=by
    unfold hit
    by_cases a:s.2=j
    ·by_cases b:i=j
     ·rw[if_pos ⟨h,a⟩,if_pos ⟨h,b⟩,if_pos (by omega),if_pos b.symm];omega
     ·rw[if_pos ⟨h,a⟩,if_neg (λz=>b z.2),if_pos (by omega),if_neg (λz=>b z.symm)];omega
    ·by_cases b:i=j
     ·rw[if_neg (λz=>a z.2),if_pos ⟨h,b⟩,if_neg (by omega),if_pos b.symm];omega
     ·rw[if_neg (λz=>a z.2),if_neg (λz=>b z.2),if_neg (by omega),if_neg (λz=>b z.symm)];omega
   rw[this,ZV]
  rw[e,QaA,Qa0 hi]
  by_cases hm:s.2.toNat<m
  ·rw[Qa0 hm];omega
  ·have e2:Qp m (λj=>(if j=s.2.toNat then 1 else 0)*w j)=0:=by
    rw[Qj λj hj=>by rw[if_neg (by omega),ZD],QbP]
   rw[e2,show s.2.toNat=m by omega,hw];omega
 ·rw[if_neg h]
  rw[Qj (g:=λ_=>0) λj hj=>by
   unfold hit
   rw[if_neg (λz=>h z.1),if_neg (λz=>h z.1)];rw[Zby,ZD],QbP]
theorem Qj4{α:Type}{g:α->Int}{X:Int}:∀S:List α,(∀s∈S,g s<=X)->(S.map g).sum<=S.length*X
 | [],_=>by simp
 | a::S,h=>by
  have h1:=h a (by simp)
  have h2:=Qj4 S λs hs=>h s (by simp[hs])
  simp only[ZL,Zaw,ZE,ZaF,ZV]
  rw[show((1:Nat):Int)*X=X by simp]
  omega
theorem Qj2{α:Type}{g:α->Int}{X Y:Int}:∀(S:List α),(∀s∈S,g s<=X)->(∃s∈S,g s<=Y)->(S.map g).sum<=S.length*X-X+Y
 | [],_,h=>by obtain⟨s,hs,_⟩:=h;exact absurd hs (by simp)
 | a::S,h,h2=>by
  obtain⟨s,hs,hy⟩:=h2
  have hb:∀s∈S,g s<=X:=λs hs=>h s (by simp[hs])
  simp only[ZL,Zaw,ZE,ZaF,ZV]
  rw[show((1:Nat):Int)*X=X by simp]
  rcases Zm.mp hs with e | hs
  ·subst e
   have:=Qj4 S hb
   omega
  ·have:=Qj2 S hb ⟨s,hs,hy⟩
   have:=h a (by simp)
   omega
theorem QjI{α:Type}{g:α->Int}:∀S:List α,(∀s∈S,0<=g s)->0<=(S.map g).sum
 | [],_=>by simp
 | a::S,h=>by
  have h1:=h a (by simp)
  have h2:=QjI S λs hs=>h s (by simp[hs])
  simp only[ZL,Zaw]
  omega
theorem QrO{m:Nat}{S:List (Int×Int)}(hg:∀s∈S,Good m s)(he:Qpi m S)(hl:S.length<2^60):TP m (Qdb m S):=by
 have hn:∀s∈S,0<=s.1/\0<=s.2:=λs hs=>⟨(hg s hs).1,(hg s hs).2.1⟩
 have pos:∀i j,i<m->j<m->i≠j->0<=Qdb m S i j:=λi j hi hj hij=>by
  rw[Qfn hi hj hn]
  refine QjI S λs _=>?_
  unfold hit
  rw[if_neg (λz=>hij z.2) (c:=s.1=i/\i=j)]
  split<;>omega
 obtain⟨r,r0,hr⟩:=Qvr hg he
 obtain⟨N,hN⟩:=QnH r m
 have M1:1<=S.length+1:=by omega
 have wt:∃w:Nat->Int,(∀j,0<=w j)/\∀i,i<m->Qp m (λj=>Qdb m S i j*w j)<= -1:=by
  refine⟨λv=>(((S.length+1)^N:Nat):Int)-(((S.length+1)^(N-r v):Nat):Int),λj=>?_,λi hi=>?_⟩
  ·have:=ZH M1 (Nat.sub_le N (r j))
   show(0:Int)<=(((S.length+1)^N:Nat):Int)-(((S.length+1)^(N-r j):Nat):Int)
   omega
  ·generalize hw:(λv=>(((S.length+1)^N:Nat):Int)-(((S.length+1)^(N-r v):Nat):Int))=w
   have hw':∀v,w v=(((S.length+1)^N:Nat):Int)-(((S.length+1)^(N-r v):Nat):Int):=λv=>by rw[← hw]
   have wm:w m=0:=by rw[hw',r0,Nat.sub_zero];omega
   have e:Qp m (λj=>Qdb m S i j*w j)=(S.map λs=>if s.1=(i:Int)then w s.2.toNat-w i else 0).sum:=by
    rw[Qj (g:=λj=>(S.map λs=>hit i j s*w j).sum) λj hj=>by
     rw[Qfn hi hj hn,Zab,Qow]
     congr 1
     exact ZO λs _=>Zab _ _]
    rw[Qln m (λj s=>hit i j s*w j) S]
    congr 1
    exact ZO λs hs=>Qq3 hi (hg s hs) w wm
   rw[e]
   obtain⟨s0,hs0,e0,hlt⟩:=hr i hi
   generalize hX:(((S.length+1)^(N-r i):Nat):Int)=X
   have X1:1<=X:=by
    have:0<(S.length+1)^(N-r i):=Nat.pow_pos (by omega)
    omega
   have key:=Qj2 (Y:=X-(S.length+1)*X) S (λs _=>by
    show(if s.1=i then w s.2.toNat-w i else 0)<=X
    split
    ·rw[hw',hw' i,hX]
     have:0<=(((S.length+1)^(N-r s.2.toNat):Nat):Int):=Int.natCast_nonneg _
     omega
    ·omega) ⟨s0,hs0,by
    show(if s0.1=i then w s0.2.toNat-w i else 0)<=_
    rw[if_pos e0,hw',hw' i,hX]
    have hb:=hN i (by omega)
    have h1:(S.length+1)^(N-r i+1)<=(S.length+1)^(N-r s0.2.toNat):=ZH M1 (by omega)
    rw[Zbb]at h1
    have h2:((((S.length+1)^(N-r i)*(S.length+1):Nat)):Int)<=(((S.length+1)^(N-r s0.2.toNat):Nat):Int):=by exact_mod_cast h1
    rw[Zac,hX,Zab]at h2
    rw[show((S.length+1:Nat):Int)=(S.length:Int)+1 by omega]at h2
    omega⟩
   have:((S.length:Int)+1)*X=S.length*X+X:=by rw[ZV,ZQ]
   omega
 refine⟨λp hp=>?_,pos,λi j hi hj=>?_,wt⟩
 ·obtain⟨w,w0,hw⟩:=wt
  have h1:=hw p hp
  by_cases hneg:Qdb m S p p<0
  ·exact hneg
  ·exfalso
   have:0<=Qp m (λj=>Qdb m S p j*w j):=by
    have:=Qkh (f:=λ_=>0) (g:=λj=>Qdb m S p j*w j) λj hj=>by
     by_cases e:p=j
     ·subst e;exact ZbA (by omega) (w0 _)
     ·exact ZbA (pos p j hp hj e) (w0 _)
    rw[QbP]at this
    exact this
   omega
 ·rw[Qfn hi hj hn]
  have:=QfO i j S
  omega
theorem QfP.tp{m:Nat}{R L:List (Int×Int)}(h:QfP m R L):TP m (Qdb m (QcA R L)):=by
 have hg:=h.good
 refine QrO (QgH hg.1 hg.2.1) ?_ ?_
 ·obtain⟨W,h1,_,_,rfl,rfl⟩:=h.ex
  exact Qqk h1
 ·unfold QcA
  simp only[Zt,Zx]
  omega
theorem QfP.neg{m:Nat}{R L:List (Int×Int)}(h:QfP m R L){i:Nat}(hi:i<m):0-Qdb m (QcA R L) i i=Qpp R L i:=by
 have hg:=h.good
 have hs:=QgH hg.1 hg.2.1
 rw[Qfn hi hi (λs z=>⟨(hs s z).1,(hs s z).2.1⟩),sum_neg _ _ (λs z=>(hs s z).2.2.2.2),Qrw]
 omega
structure Told (m:Nat) (T:Nat->Nat->Int) (f c:Nat->Int):Prop where
 leg:Leg m T f c
 pos:∀j,j<m->0<=QG m T f c j
 stb:Stb m T (QG m T f c)
theorem Qqj{fa fb fc:DE}{ρ:En}{ra rb rc:R}{n:Nat}(ha:fa ρ=some ra)(ea:ra.d= .int ((n:Int)-1))(hb:fb ρ=some rb)(eb:rb.d= .int (-1))(hc:fc ρ=some rc)(ec:rc.d= .int (-1))(hn:n<=16777216):Qf8 fa fb fc ρ=some ⟨(List.range n).map λ(k:Nat)=> .int ((n:Int)-1-k),[]⟩:=by
 unfold Qf8
 rw[ha,Za,hb,Za,hc,Za,ea,eb,ec]
 show(if(n:Int)-1- -1<=16777216/\_ then _ else _)=_
 rw[if_pos ⟨by omega,by omega,by omega,by omega,by omega⟩]
 rw[show((n:Int)-1- -1).toNat=n by omega]
 rfl
theorem Qvx{a:Int}{k:Nat}{ρ:En}(h1:a.natAbs<2^200)(h2:k<=1000):dOp QgO (dC (.int a)) (dC (.int k)) ρ=some ⟨.int (a^k),true,[]⟩:=by
 refine QbX (ra:=⟨.int a,true,[]⟩) (rb:=⟨.int k,true,[]⟩) rfl rfl ?_
 show(if 0<=(k:Int)/\(k:Int)<=1000/\a.natAbs<2^200 then some (D.int (a^(k:Int).toNat))else none)=_
 rw[if_pos ⟨by omega,by omega,h1⟩,ZC]
theorem QoP{fa:DE}{ρ:En}{r:R}{m:Nat}{f:Nat->Int}(h:fa ρ=some r)(e:r.d=Qe m f):dBf Qat (Qd fa Qg) ρ=some ⟨.int m,true,[]⟩:=by
 rw[QjM h e];simp
theorem Qe6{fs:DA}{ρ:En}{rs:RA}(h:fs ρ=some rs)(hl:rs.ds.length<=64):Qav fs ρ=some ⟨.lst rs.ds,rs.fr,rs.M⟩:=by
 unfold Qav
 rw[h,Za,if_pos hl]
theorem Qvg(n m:Nat)(f:Nat->Int):(Qe m f).sim (n+1)=true:=by
 unfold Qe
 simp only[D.sim,ZbN,Zai]
 intro p _
 cases n<;>rfl
theorem Qcg{fa fb:DE}{ρ:En}{ra rb:R}{m n:Nat}{f:Nat->Nat->Int}{i:Int}(ha:fa ρ=some ra)(ea:ra.d=Qc m n f)(hb:fb ρ=some rb)(eb:rb.d= .int i)(h0:0<=i)(h:i<m):Ql fa fb ρ=some ⟨Qe n (f i.toNat),ra.fr,ra.M⟩:=by
 unfold Ql
 rw[ha,Za,hb,Za,ea,eb]
 simp only[Qc,D.items,Za,QoN h0 h,ZY]
 rfl
theorem Qs8{x m n:Nat}{f:Nat->Nat->Int}{fp fi fa:DE}{ρ:En}{i j v:Int}{rp ri ra:R}{Q:Out->Prop}(hx:ρ[x]? =some (some (Qc m n f,true)))(hp:fp ρ=some rp)(ep:rp.d= .int i)(hi:fi ρ=some ri)(ei:ri.d= .int j)(ha:fa ρ=some ra)(ea:ra.d= .int v)
  (h0:0<=i) (h:i<m) (k0:0<=j) (k:j<n) (q:Q (.nx (ρ.set x (some (Qc m n (up2 f i.toNat j.toNat v),true))))):Run (Qbf x (Qar Q2 fp) fi fa) ρ Q:=by
 refine⟨_,?_,q⟩
 have hn:ra.norm=⟨.int v,true,[]⟩:=by unfold HS.R.norm;rw[ea];rfl
 have hd:Qax (Qc m n f) [i]=some (Qe n (f i.toNat)):=by
  simp only[Qax,Qc,D.items,Za,QoN h0 h]
 have hu:Qay [i] (Qc m n f) (.lst (((List.range n).map λk=>D.int (f i.toNat k)).set j.toNat (.int v)))=Qc m n (up2 f i.toNat j.toNat v):=by
  simp only[Qay,Qc,Zx,Zo,Qcf h0 h,QkX]
  rw[QgW]
  congr 2;funext k
  unfold up2
  split
  ·rename_i e;subst e;rfl
  ·rfl
 unfold Qbf
 rw[ha,Za,hx]
 simp only[Qar,Q2,Za,hp,ep,Zbd,hi,ei,hd,Qe,Zx,Zo,Qcf k0 k,hn,ea]
 simp only[kill,List.contains_nil,Bool.not_false,Bool.and_true,decide_true,Zaq,if_true]
 rw[hu]
theorem QsI{x:Nat}{pf:DP}{is:List Int}{fa:DE}{ρ:En}{d0 d:D}{xs:List D}{Q:Out->Prop}(hx:ρ[x]? =some (some (d0,true)))(hp:pf ρ=some is)(hd:Qax d0 is=some (.lst xs))(ha:fa ρ=some ⟨d,true,[]⟩)(hl:xs.length<16777216)(q:Q (.nx (ρ.set x (some (Qay is d0 (.lst (xs++[d])),true))))):Run (QcP x pf fa) ρ Q:=by
 refine⟨_,?_,q⟩
 unfold QcP
 rw[hx]
 simp only[hp,Za,ha,hd,Qh6,QrT,kill,QhR]
 simp[hl]
theorem Quf{fa fb:DE}{ρ:En}{ra rb:R}{a b:Int}(ha:fa ρ=some ra)(ea:ra.d= .int a)(hb:fb ρ=some rb)(eb:rb.d= .int b):dBf Qh1 (Qd fa (Qd fb Qg)) ρ=some ⟨.int (if b>a then b else a),true,[]⟩:=by
 unfold dBf
 rw[Qs ha (Qs hb (QP _)),Za]
 simp only[ea,eb,Qh1,ZY]
theorem QuG{fa fb:DE}{ρ:En}{ra rb:R}{a b:Int}(ha:fa ρ=some ra)(ea:ra.d= .int a)(hb:fb ρ=some rb)(eb:rb.d= .int b):dBf QhY (Qd fa (Qd fb Qg)) ρ=some ⟨.int (if b<a then b else a),true,[]⟩:=by
 unfold dBf
 rw[Qs ha (Qs hb (QP _)),Za]
 simp only[ea,eb,QhY,ZY]
noncomputable def Qpr:Option Int->D
 | none=> .non
 | some i=> .int i
@[simp] theorem Qsk(o:Option Int):(Qpr o).flat=true:=by cases o<;>rfl
noncomputable def QyA(m:Nat)(F:Nat->Option Int):D:= .lst ((List.range m).map λi=>Qpr (F i))
@[simp] theorem QyH(m:Nat)(F:Nat->Option Int):(QyA m F).flat=false:=rfl
@[simp] theorem Qyr(m:Nat)(F:Nat->Option Int):Qae ((List.range m).map λi=>Qpr (F i))=true:=QbR (f:=λi=>Qpr (F i)) (λ_=>Qsk _) _
theorem Qlq{fa fb:DE}{ρ:En}{ra rb:R}{i j:Int}{n:Nat}(ha:fa ρ=some ra)(ea:ra.d= .int i)(hb:fb ρ=some rb)(eb:rb.d= .int j)(hn:(n:Int)=j-i)(hl:n<=16777216)(h1: -(2^62)<=i)(h2:i<2^61):Qea fa fb ρ=some ⟨(List.range n).map λ(k:Nat)=> .int (i+k),[]⟩:=by
 unfold Qea
 rw[ha,Za,hb,Za,ea,eb]
 show(if j-i<=16777216/\_ then _ else _)=_
 rw[if_pos ⟨by omega,by omega,by omega,by omega,by omega⟩]
 rw[show(j-i).toNat=n by omega]
 rfl
theorem Leg.mono{m:Nat}{T:Nat->Nat->Int}{f g c:Nat->Int}(h:Leg m T f c)(e:∀i,i<m->f i<=g i):Leg m T g c:=by
 induction h with
 | nil=>exact .nil
 | @step c p t _ hp ht hle ih=>
  refine .step ih hp ht ?_
  have:=e p hp
  unfold QG at hle ⊢
  omega
theorem QiL{m:Nat}{T:Nat->Nat->Int}{f c d:Nat->Int}(j:Nat):QG m T (QG m T f c) d j=QG m T f (λi=>c i+d i) j:=by
 unfold QG
 have e:(λi=>(c i+d i)*T i j)=λi=>c i*T i j+d i*T i j:=by funext i;rw[ZV]
 rw[e,QaA]
 show f j+Qp m (λi=>c i*T i j)+_=_
 omega
theorem Qvp{m:Nat}{T:Nat->Nat->Int}{f g c d:Nat->Int}(j:Nat):QG m T (λi=>f i+g i) (λi=>c i+d i) j=QG m T f c j+QG m T g d j:=by
 unfold QG
 have e:(λi=>(c i+d i)*T i j)=λi=>c i*T i j+d i*T i j:=by funext i;rw[ZV]
 rw[e,QaA]
 show f j+g j+_=_
 omega
theorem Leg.trans{m:Nat}{T:Nat->Nat->Int}{f c d:Nat->Int}(h:Leg m T f c)(h2:Leg m T (QG m T f c) d):Leg m T f (λi=>c i+d i):=by
 induction h2 with
 | nil=>exact h.cast λi=>by simp
 | @step d p t _ hp ht hle ih=>
  rw[QiL]at hle
  refine(Leg.step ih hp ht hle).cast λi=>?_
  unfold up
  split
  ·rename_i e;subst e;show c i+d i+t=c i+(d i+t);omega
  ·rfl
theorem Told.lay{m:Nat}{T:Nat->Nat->Int}{F C F' h c:Nat->Int}(hC:Told m T F C)(hF:∀j,j<m->F j<=F' j)(hh:∀j,j<m->h j=QG m T F C j+(F' j-F j))(hc:Told m T h c):Told m T F' (λi=>C i+c i)/\∀j,j<m->QG m T h c j=QG m T F' (λi=>C i+c i) j:=by
 have e1:∀j,j<m->h j=QG m T F' C j:=λj hj=>by
  rw[hh j hj]
  unfold QG
  omega
 have e2:∀j,j<m->QG m T h c j=QG m T F' (λi=>C i+c i) j:=λj hj=>by
  rw[← QiL]
  exact QdO j (e1 j hj) λ_ _=>rfl
 exact⟨⟨(hC.leg.mono hF).trans (hc.leg.QtW e1),λj hj=>by rw[← e2 j hj];exact hc.pos j hj,λj hj=>by rw[← e2 j hj];exact hc.stb j hj⟩,e2⟩
theorem Told.both{m:Nat}{T:Nat->Nat->Int}{f g c d e:Nat->Int}(hf:Told m T f c)(hg:Told m T g d)(g0:∀j,j<m->0<=g j)(he:Told m T (λj=>QG m T f c j+QG m T g d j) e):Told m T (λj=>f j+g j) (λi=>c i+d i+e i)/\∀j,j<m->QG m T (λj=>QG m T f c j+QG m T g d j) e j=QG m T (λj=>f j+g j) (λi=>c i+d i+e i) j:=by
 have l1:Leg m T (λj=>f j+g j) c:=hf.leg.mono λj hj=>by have:=g0 j hj;show f j<=f j+g j;omega
 have a1:∀j,QG m T (λj=>f j+g j) c j=QG m T f c j+g j:=λj=>by unfold QG;show f j+g j+_=_;omega
 have l2:Leg m T (QG m T (λj=>f j+g j) c) d:=hg.leg.mono λj hj=>by rw[a1];have:=hf.pos j hj;omega
 have l3:Leg m T (λj=>f j+g j) (λi=>c i+d i):=l1.trans l2
 have a3:∀j,j<m->QG m T f c j+QG m T g d j=QG m T (λj=>f j+g j) (λi=>c i+d i) j:=λj _=>(Qvp j).symm
 have e2:∀j,j<m->QG m T (λj=>QG m T f c j+QG m T g d j) e j=QG m T (λj=>f j+g j) (λi=>c i+d i+e i) j:=λj hj=>by
  rw[← QiL (c:=λi=>c i+d i) (d:=e)]
  exact QdO j (a3 j hj) λ_ _=>rfl
 exact⟨⟨l3.trans (he.leg.QtW a3),λj hj=>by rw[← e2 j hj];exact he.pos j hj,λj hj=>by rw[← e2 j hj];exact he.stb j hj⟩,e2⟩
theorem Told.one{m:Nat}{T:Nat->Nat->Int}(tp:TP m T){f c d:Nat->Int}(h:Told m T f c)(g:Told m T f d):∀i,i<m->c i=d i:=h.leg.unique tp g.leg h.stb g.stb
abbrev QbL(i:Int):Prop:=Builtin.Int.intBits i<=2^20
theorem Qpw{i:Int}(h:i.natAbs<2^300):QbL i:=Zk (Zbj h) (by decide)
noncomputable def Qno:DS:=(Qf (QH (QO (Q4 (Qa 0)) (.nm 1) [none,none,some 1] QR (Ql (Qa 1) (Qa 2)))) Qi)
def Qgw(d:Den):Prop:=∀(n m:Nat) (f:Nat->Nat->Int) (j:Nat),j<m->d [Qc n m f,.int j]=some (Qe n (λi=>f i j),true)
theorem Qrz:Qgw (Qq 2 Qno):=λn m f j hj=>
 Q1 (QE (QL (List.range n) (Qag rfl rfl) rfl λi _=>⟨_,rfl,⟨.int (f i j),true,[]⟩,Qam rfl rfl rfl rfl hj,rfl,rfl⟩) ⟨rfl,rfl⟩)
noncomputable def Qm1(QbW:Den):DS:=(Qf (QH (QO (Q5 (dBf Qat (Qd (Qa 0) Qg))) (.nm 1) [none,none,some 0] QR (Qk 2 QbW [] (Qd (Qa 2) (Qd (Qa 1) Qg))))) Qi)
theorem QaH{fa:DE}{ρ:En}{r:R}{n m:Nat}{f:Nat->Nat->Int}(h:fa ρ=some r)(e:r.d=Qc n m f):dBf Qat (Qd fa Qg) ρ=some ⟨.int n,true,[]⟩:=by
 rw[QjM h e];simp
def Qe9(d:Den):Prop:=∀(n:Nat) (f:Nat->Nat->Int),n<=1000->d [Qc n n f]=some (Qc n n (λj i=>f i j),true)
theorem QqA{dc:Den}(hc:Qgw dc):Qe9 (Qq 1 (Qm1 dc)):=λn f hn=>
 Q1 (QE (QL (List.range n) (Qac (QaH rfl rfl) rfl (by omega)) rfl λj hj=>⟨[none,some (.int j,true),some (Qc n n f,false)],rfl,⟨Qe n (λi=>f i j),true,[]⟩,Qm rfl (hc n n f j (Zr.mp hj)) rfl,rfl,rfl⟩) ⟨rfl,rfl⟩)
noncomputable def QmY:DS:=(Qf (QH (dBf QgC (Qd (QO (QdU (Qa 0) (Qa 1)) (.tp [1,2]) [none,none,none] QR (Qaq (Qa 1) (Qa 2))) Qg))) Qi)
def QiZ(d:Den):Prop:=∀(n:Nat) (a b:Nat->Int),(∀i,i<n->QbL (a i)/\QbL (b i))->d [Qe n a,Qe n b]=some (.int (Qp n λi=>a i*b i),true)
theorem QqD:QiZ (Qq 2 QmY):=λn a b hb=>
 Q1 (QE (Qo0 (QL (List.range n) (Qen rfl rfl rfl rfl) rfl λi hi=>⟨[none,some (.int (a i),true),some (.int (b i),true)],rfl,⟨.int (a i*b i),true,[]⟩,Qap rfl rfl rfl rfl (QdN (hb i (Zr.mp hi)).1 (hb i (Zr.mp hi)).2),rfl,rfl⟩) rfl) ⟨rfl,rfl⟩)
noncomputable def Qli(Qd7:Den):DS:=(Qf (QH (QO (Q4 (Qa 1)) (.nm 1) [none,none,some 0] QR (Qk 2 Qd7 [] (Qd (Qa 2) (Qd (Qa 1) Qg))))) Qi)
def QiB(d:Den):Prop:=∀(n k:Nat) (a:Nat->Int) (f:Nat->Nat->Int),(∀i,i<n->QbL (a i))->(∀j i,j<k->i<n->QbL (f j i))->d [Qe n a,Qc k n f]=some (Qe k (λj=>Qp n λi=>a i*f j i),true)
theorem QqS{ds:Den}(hs:QiZ ds):QiB (Qq 2 (Qli ds)):=λn k a f ha hf=>
 Q1 (QE (QL (List.range k) (Qag rfl rfl) rfl λj hj=>⟨_,rfl,⟨.int (Qp n λi=>a i*f j i),true,[]⟩,Qm rfl (hs n a (f j) λi hi=>⟨ha i hi,hf j i (Zr.mp hj) hi⟩) rfl,rfl,rfl⟩) ⟨rfl,rfl⟩)
noncomputable def QlG(QaV:Den)(QdS:Den):DS:=(Qf (Qu 2 (Qk 1 QaV [] (Qd (Qa 1) Qg))) (Qf (QH (QO (Q4 (Qa 0)) (.nm 1) [none,none,some 2] QR (Qk 2 QdS [] (Qd (Qa 1) (Qd (Qa 2) Qg))))) Qi))
noncomputable def prodF(n:Nat)(f g:Nat->Nat->Int):Nat->Nat->Int:=λi j=>Qp n λk=>f i k*g k j
def QhO(n:Nat)(f:Nat->Nat->Int):Prop:=∀i j,i<n->j<n->QbL (f i j)
def Qfx(d:Den):Prop:=∀(n:Nat) (f g:Nat->Nat->Int),n<=1000->QhO n f->QhO n g->d [Qc n n f,Qc n n g]=some (Qc n n (prodF n f g),true)
theorem QpM{dt dl:Den}(ht:Qe9 dt)(hl:QiB dl):Qfx (Qq 3 (QlG dt dl)):=λn f g hn hf hg=>by
 refine Q1 ?_
 refine run_seq (Qh (Qm rfl (ht n g hn) rfl) ?_)
 rw[Qn]
 refine QE (QL (List.range n) (Qag rfl rfl) rfl λi hi=>⟨_,rfl,⟨Qe n (prodF n f g i),true,[]⟩,Qm rfl (hl n n (f i) (λj i=>g i j) (λk hk=>hf i k (Zr.mp hi) hk) (λj k hj hk=>hg k j hk hj)) rfl,rfl,rfl⟩) ⟨rfl,rfl⟩
noncomputable def Qlg:DS:=(Qf (Qu 2 (dBf Qat (Qd (Qa 0) Qg))) (Qf (Qu 3 (Qav Qg)) (Qf (QaW (Q5 (Qa 2)) (.nm 4) (Qf (QcP 3 Q2 (QO (Q5 (Qa 2)) (.nm 1) [none,none,some 4,some 0,some 1,some 2] QR (dBf QgC (Qd (QO (Q5 (Qa 5)) (.nm 1) [none,none,some 2,some 1,some 3,some 4] QR (Qaq (Ql (Ql (Qa 4) (Qa 2)) (Qa 1)) (Ql (Ql (Qa 5) (Qa 1)) (Qa 3)))) Qg)))) Qi)) (Qf (QH (Qa 3)) Qi))))
theorem QiV{x:Nat}{fa:DE}{ρ:En}{d:D}{xs:List D}{Q:Out->Prop}(hx:ρ[x]? =some (some (.lst xs,true)))(ha:fa ρ=some ⟨d,true,[]⟩)(hl:xs.length<16777216)(q:Q (.nx (ρ.set x (some (.lst (xs++[d]),true))))):Run (QcP x Q2 fa) ρ Q:=by
 refine⟨_,?_,q⟩
 have hn:(HS.R.mk d true []).norm=⟨d,true,[]⟩:=by unfold R.norm;split<;>rfl
 unfold QcP
 rw[hx]
 simp only[Q2,Za,ha,Qax,Qh6,hn,QhR]
 simp[hl,kill,Qay]
theorem QiS{i n:Nat}{f:Nat->Nat->Int}:((List.range i).map λk=>Qe n (f k))++[Qe n (f i)]=(List.range (i+1)).map λk=>Qe n (f k):=by
 rw[ZbS,Zaz];rfl
def Qtv(d:Den):Prop:=∀(n:Nat) (f g:Nat->Nat->Int),n<=1000->QhO n f->QhO n g->d [Qc n n f,Qc n n g]=some (Qc n n (prodF n f g),true)
theorem Qx6:Qtv (Qq 5 Qlg):=λn f g hn hf hg=>by
 refine Q1 ?_
 refine run_seq (Qh (QaH rfl rfl) ?_)
 rw[Qn]
 refine run_seq (Qh rfl ?_)
 rw[Qn]
 refine Q0 (P:=λρ=>∃j4,ρ=[some (Qc n n f,false),some (Qc n n g,false),some (.int n,true),some (Qc n n (prodF n f g),true),j4]) ?_ ?_
 ·refine Qaj (List.range n) (λi ρ=>∃j4,ρ=[some (Qc n n f,false),some (Qc n n g,false),some (.int n,true),some (Qc i n (prodF n f g),true),j4]) (Qac rfl rfl (by omega)) rfl ⟨none,rfl⟩ ?_ ?_
  ·rintro i i' ρ hi ⟨j4,rfl⟩
   have hi':i<n/\i=i':=by
    obtain⟨h1,h2⟩:=Zd.mp hi
    simp at h1 h2;exact⟨h1,h2⟩
   obtain⟨him,rfl⟩:=hi'
   refine⟨[some (Qc n n f,false),some (Qc n n g,false),some (.int n,true),some (Qc i n (prodF n f g),true),some (.int i,true)],rfl,?_⟩
   refine run_seq (QiV (d:=Qe n (prodF n f g i)) rfl ?_ (by simp;omega) (Qr ⟨some (.int i,true),?_⟩))
   ·refine QL (List.range n) (Qac rfl rfl (by omega)) rfl λj hj=>⟨[none,some (.int j,true),some (.int i,true),some (Qc n n f,false),some (Qc n n g,false),some (.int n,true)],rfl,⟨.int (prodF n f g i j),true,[]⟩,?_,rfl,rfl⟩
    have hj:=Zr.mp hj
    refine Qo0 (QL (List.range n) (Qac rfl rfl (by omega)) rfl λk hk=>⟨[none,some (.int k,true),some (.int i,true),some (.int j,true),some (Qc n n f,false),some (Qc n n g,false)],rfl,⟨.int (f i k*g k j),true,[]⟩,?_,rfl,rfl⟩) rfl
    have hk:=Zr.mp hk
    exact Qap (Qam (Qcg rfl rfl rfl rfl (by omega) (by omega)) rfl rfl rfl hk) rfl (Qam (Qcg rfl rfl rfl rfl (by omega) (by omega)) rfl rfl rfl hj) rfl (QdN (hf i k him hk) (hg k j hk hj))
   ·rw[QiS];rfl
  ·rintro ρ ⟨j4,rfl⟩
   rw[Zo]
   exact⟨_,rfl⟩
 rintro ρ ⟨j4,rfl⟩
 exact QE rfl ⟨rfl,rfl⟩
noncomputable def Qiq:DS:=(Qf (QH (QO (Q4 (Qa 0)) (.nm 1) [none,none] QR (dList (Qd (Qa 1) Qg)))) Qi)
def QmL(d:Den):Prop:=∀(n m:Nat) (f:Nat->Nat->Int),d [Qc n m f]=some (Qc n m f,true)
theorem Qu4:QmL (Qq 1 Qiq):=λn m f=>
 Q1 (QE (QL (List.range n) (Qag rfl rfl) rfl λi _=>⟨_,rfl,⟨Qe m (f i),true,[]⟩,Qjh rfl rfl,rfl,rfl⟩) ⟨rfl,rfl⟩)
noncomputable def Qfb(Qcj:Den):DS:=(Qf (sIf (bOr (QdW (QM (Qhv "list" (Qa 0)))) (QM (dOp gNe (dBf Qat (Qd (Qa 0) Qg)) (Qa 1)))) (Qf (QH (dC (.bl false))) Qi) Qi) (Qf (QH (dOp gEq (dBf Qat (Qd (QO (Q4 (Qa 0)) (.nm 1) [none,none] (QM (Qk 1 Qcj [] (Qd (Qa 1) Qg))) (Qa 1)) Qg)) (Qa 1))) Qi))
def QnZ(d:Den):Prop:=∀(n:Nat) (a:Nat->Int),d [Qe n a,.int n]=some (.bl true,true)
theorem Quh{dw:Den}(hw:Qkz dw):QnZ (Qq 2 (Qfb dw)):=λn a=>by
 refine Q1 ?_
 refine Qw (QZ (Qd1 (Qc3 (b:=true) (QI rfl rfl)) (QI (r:=⟨.bl false,true,[]⟩) ((QbQ (QoP rfl rfl) rfl rfl rfl).trans (by simp)) rfl)) (λh=>by cases h) (λ_=>Qr ?_))
 have ec:=QkP (fi:=Q4 (Qa 0)) (t:= .nm 1) (cap:=[none,none]) (ft:=QM (Qk 1 dw [] (Qd (Qa 1) Qg))) (fe:=Qa 1) (ρ:=[some (Qe n a,false),some (.int n,true)]) (List.range n) (Qag rfl rfl) rfl λi _=>⟨[none,some (.int (a i),true)],rfl,QI (Qm rfl (hw (a i)) rfl) rfl,λ_=>⟨⟨.int (a i),true,[]⟩,rfl,rfl,rfl⟩⟩
 have el:=QjM ec rfl
 rw[Zx,List.filter_eq_self.mpr λ_ _=>rfl,Zo]at el
 exact QE (r:=⟨.bl true,true,[]⟩) ((Qa9 el rfl rfl rfl).trans (by simp)) ⟨rfl,rfl⟩
noncomputable def QfK(Qbn:Den):DS:=(Qf (sIf (bOr (QdW (QM (Qhv "list" (Qa 0)))) (QM (dOp gNe (dBf Qat (Qd (Qa 0) Qg)) (Qa 1)))) (Qf (QH (dC (.bl false))) Qi) Qi) (Qf (QaW (Q4 (Qa 0)) (.nm 2) (Qf (sIf (QdW (QM (Qk 2 Qbn [] (Qd (Qa 2) (Qd (Qa 1) Qg))))) (Qf (QH (dC (.bl false))) Qi) Qi) Qi)) (Qf (QH (dC (.bl true))) Qi)))
def QkI(d:Den):Prop:=∀(n:Nat) (f:Nat->Nat->Int),d [Qc n n f,.int n]=some (.bl true,true)
theorem Qtq{dn:Den}(hn:QnZ dn):QkI (Qq 3 (QfK dn)):=λn f=>by
 refine Q1 ?_
 refine Qw (QZ (Qd1 (Qc3 (QI rfl rfl)) (QI (r:=⟨.bl false,true,[]⟩) ((QbQ (QaH rfl rfl) rfl rfl rfl).trans (by simp)) rfl)) (λh=>by cases h) (λ_=>Qr ?_))
 refine Qw (Qaj (List.range n) (λ_ ρ=>∃j2,ρ=[some (Qc n n f,false),some (.int n,true),j2]) rfl rfl ⟨none,rfl⟩ ?_ ?_)
 ·rintro i i' ρ hi ⟨j2,rfl⟩
  refine⟨[some (Qc n n f,false),some (.int n,true),some (Qe n (f i'),false)],rfl,?_⟩
  exact Qw (QZ (Qc3 (QI (Qm rfl (hn n (f i')) rfl) rfl)) (λh=>by cases h) (λ_=>Qr (Qr ⟨_,rfl⟩)))
 ·rintro ρ ⟨j2,rfl⟩
  exact QE rfl ⟨rfl,rfl⟩
def InT(n:Nat)(far:Int)(f:Nat->Nat->Int):Prop:=∀i j,i<n->j<n-> -far<=f i j/\f i j<=far
set_option exponentiation.threshold 400 in
theorem InT.bits{n:Nat}{far:Int}{f:Nat->Nat->Int}(h:InT n far f)(hf:far<=10^70):QhO n f:=λi j hi hj=>by
 obtain⟨h1,h2⟩:=h i j hi hj
 refine Qpw ?_
 have h3:(f i j).natAbs<=10^70:=by
  have h4:(((10:Nat)^70:Nat):Int)=(10:Int)^70:=by decide+kernel
  rw[← h4]at hf
  generalize (10:Nat)^70=t at hf
  omega
 exact ZW h3 (by decide+kernel)
theorem QiM{fa fb:DE}{ρ:En}{ra rb:R}{m k:Nat}{f g:Nat->Int}(ha:fa ρ=some ra)(ea:ra.d=Qe m f)(hb:fb ρ=some rb)(eb:rb.d=Qe k g)(hl:m+k<=1000):Q8 fa fb ρ=some ⟨Qe (m+k) (λi=>if i<m then f i else g (i-m)),true,[]⟩:=by
 have e:Qe (m+k) (λi=>if i<m then f i else g (i-m))= .lst (((List.range m).map λi=>D.int (f i))++((List.range k).map λi=>D.int (g i))):=by
  unfold Qe
  rw[List.range_add,Zaz,ZaN]
  congr 2
  ·refine ZO λi hi=>?_
   show D.int (if i<m then f i else g (i-m))=_
   rw[if_pos (Zr.mp hi)]
  ·refine ZO λi hi=>?_
   show D.int (if m+i<m then f (m+i)else g (m+i-m))=_
   rw[if_neg (by omega),Nat.add_sub_cancel_left]
 rw[e]
 unfold Q8
 rw[ha,Za,hb,Za,ea,eb]
 simp only[Qe,Zx,Zo,QhR]
 rw[if_pos (by omega)]
 unfold Qbs
 rw[if_pos]
 rw[Qc0,Zj]
 exact⟨QbR (λ_=>rfl) _,QbR (λ_=>rfl) _⟩
theorem QhK(k n m:Nat)(f:Nat->Nat->Int):(Qc n m f).sim (k+2)=true:=by
 unfold Qc
 simp only[D.sim,ZbN,Zai]
 intro i _
 exact Qvg k m (f i)
noncomputable def sm:Nat->(Nat->Int)->Int
 | 0,_=>0
 | n+1,f=>sm n f+f n
theorem QaS{f g:Nat->Int}:∀{n:Nat},(∀i,i<n->f i=g i)->sm n f=sm n g
 | 0,_=>rfl
 | n+1,h=>by unfold sm;rw[QaS λi hi=>h i (by omega),h n (by omega)]
theorem QhG(x y:Int)(f g:Nat->Int):∀n,sm n (λi=>x*f i+y*g i)=x*sm n f+y*sm n g
 | 0=>by simp[sm]
 | n+1=>by
  unfold sm
  rw[QhG x y f g n,Zas,Zas]
  show _+(x*f n+y*g n)=_
  omega
theorem QhV{f:Nat->Int}:∀{n:Nat},(∀i,i<n->f i=0)->sm n f=0
 | 0,_=>rfl
 | n+1,h=>by unfold sm;rw[QhV λi hi=>h i (by omega),h n (by omega)];rfl
theorem Qdp{f:Nat->Int}{c:Nat}:∀{n:Nat},c<n->(∀i,i<n->i≠c->f i=0)->sm n f=f c
 | 0,hc,_=>by omega
 | n+1,hc,h=>by
  unfold sm
  by_cases e:c=n
  ·rw[QhV λi hi=>h i (by omega) (by omega),e];omega
  ·rw[Qdp (c:=c) (by omega) λi hi=>h i (by omega),h n (by omega) (Ne.symm e)];omega
theorem QjT{f:Nat->Int}{c d:Nat}:∀{n:Nat},c<d->d<n->(∀i,i<n->i≠c->i≠d->f i=0)->sm n f=f c+f d
 | 0,_,hc,_=>by omega
 | n+1,hcd,hd,h=>by
  unfold sm
  by_cases e:d=n
  ·rw[Qdp (c:=c) (by omega) λi hi ne=>h i (by omega) ne (by omega),e]
  ·rw[QjT (c:=c) (d:=d) hcd (by omega) λi hi=>h i (by omega),h n (by omega) (by omega) (by omega)];omega
theorem QkG(x:Int)(f:Nat->Int):∀n,sm n (λi=>f i*x)=sm n f*x
 | 0=>by simp[sm]
 | n+1=>by unfold sm;rw[QkG x f n,ZV]
noncomputable def skp(j c:Nat):Nat:=if c<j then c else c+1
noncomputable def sgn(j:Nat):Int:=if j % 2=0 then 1 else-1
theorem QiR(j:Nat):sgn (j+1)= -sgn j:=by
 unfold sgn
 by_cases h:j % 2=0
 ·rw[if_pos h,if_neg (by omega)]
 ·rw[if_neg h,if_pos (by omega)];rfl
noncomputable def det:Nat->(Nat->Nat->Int)->Int
 | 0,_=>1
 | n+1,m=>sm (n+1) λj=>sgn j*m j 0*det n λc r=>m (skp j c) (r+1)
noncomputable def cup(m:Nat->Nat->Int)(c:Nat)(a:Nat->Int):Nat->Nat->Int:=λj=>if j=c then a else m j
theorem QC(m:Nat->Nat->Int)(c:Nat)(a:Nat->Int):cup m c a c=a:=by unfold cup;rw[if_pos rfl]
theorem Qv(m:Nat->Nat->Int){c j:Nat}(a:Nat->Int)(h:j≠c):cup m c a j=m j:=by unfold cup;rw[if_neg h]
theorem QY(m:Nat->Nat->Int)(c:Nat):cup m c (m c)=m:=by
 funext j
 by_cases h:j=c
 ·rw[h,QC]
 ·rw[Qv _ _ h]
theorem Qgh(m:Nat->Nat->Int)(c:Nat)(a b:Nat->Int):cup (cup m c a) c b=cup m c b:=by
 funext j
 by_cases h:j=c
 ·rw[h,QC,QC]
 ·rw[Qv _ _ h,Qv _ _ h,Qv _ _ h]
theorem QW(m:Nat->Nat->Int){c d:Nat}(a b:Nat->Int)(h:c≠d):cup (cup m c a) d b=cup (cup m d b) c a:=by
 funext j
 by_cases h1:j=c
 ·subst h1;rw[Qv _ _ h,QC,QC]
 ·by_cases h2:j=d
  ·subst h2;rw[QC,Qv _ _ h1,QC]
  ·rw[Qv _ _ h2,Qv _ _ h1,Qv _ _ h1,Qv _ _ h2]
theorem QJ:∀{n:Nat}{m k:Nat->Nat->Int},(∀j,j<n->∀r,r<n->m j r=k j r)->det n m=det n k
 | 0,_,_,_=>rfl
 | n+1,m,k,h=>by
  unfold det
  refine QaS λj hj=>?_
  rw[h j hj 0 (by omega),QJ (n:=n) (m:=λc r=>m (skp j c) (r+1)) (k:=λc r=>k (skp j c) (r+1)) λc hc r hr=>h _ (by unfold skp;split<;>omega) _ (by omega)]
theorem Qg8(m:Nat->Nat->Int)(c:Nat)(v:Nat->Int):(λc' r=>cup m c v (skp c c') (r+1))=λc' r=>m (skp c c') (r+1):=by
 funext c' r
 rw[Qv _ _ (by unfold skp;split<;>omega)]
theorem Qgz(m:Nat->Nat->Int){c j:Nat}(v:Nat->Int)(h:c≠j):(λc' r=>cup m c v (skp j c') (r+1))=cup (λc' r=>m (skp j c') (r+1)) (if c<j then c else c-1) (λr=>v (r+1)):=by
 funext c' r
 by_cases e:c'=if c<j then c else c-1
 ·rw[e,QC]
  have:skp j (if c<j then c else c-1)=c:=by
   unfold skp
   by_cases q:c<j
   ·rw[if_pos q,if_pos q]
   ·rw[if_neg q,if_neg (by omega)];omega
  rw[this,QC]
 ·rw[Qv _ _ e,Qv]
  intro z
  refine e ?_
  unfold skp at z
  by_cases q:c'<j
  ·rw[if_pos q]at z;rw[if_pos (by omega)];omega
  ·rw[if_neg q]at z;rw[if_neg (by omega)];omega
theorem Qel(x y:Int)(a b:Nat->Int):∀(n:Nat) (m:Nat->Nat->Int) (c:Nat),c<n->∀(a b:Nat->Int),det n (cup m c λr=>x*a r+y*b r)=x*det n (cup m c a)+y*det n (cup m c b)
 | 0,_,_,h,_,_=>by omega
 | n+1,m,c,h,a,b=>by
  unfold det
  rw[← QhG]
  refine QaS λj hj=>?_
  by_cases e:j=c
  ·subst e
   rw[Qg8,Qg8,Qg8,QC,QC,QC]
   generalize det n _=q
   generalize sgn j=s
   simp only[Zas,ZV,ZI,ZK]
  ·rw[Qgz m _ (Ne.symm e),Qgz m _ (Ne.symm e),Qgz m _ (Ne.symm e),Qv _ _ e,Qv _ _ e,Qv _ _ e]
   rw[Qel x y a b n _ _ (by split<;>omega)]
   generalize det n _=q
   generalize det n _=q'
   generalize sgn j*m j 0=s
   simp only[Zas,ZK]
theorem QhX{n:Nat}{m:Nat->Nat->Int}{c:Nat}(h:c<n)(a b:Nat->Int):det n (cup m c λr=>a r+b r)=det n (cup m c a)+det n (cup m c b):=by
 have:=Qel 1 1 a b n m c h a b
 simpa only[ZQ]using this
theorem Qer{n:Nat}{m:Nat->Nat->Int}{c:Nat}(h:c<n)(x:Int)(a:Nat->Int):det n (cup m c λr=>x*a r)=x*det n (cup m c a):=by
 have:=Qel x 0 a a n m c h a a
 simpa only[ZD,Zba]using this
theorem Qh3:∀(n:Nat) (m:Nat->Nat->Int) (c:Nat),c+1<n->m c=m (c+1)->det n m=0
 | 0,_,_,h,_=>by omega
 | n+1,m,c,h,e=>by
  unfold det
  rw[QjT (c:=c) (d:=c+1) (by omega) h]
  ·have:(λc' r=>m (skp c c') (r+1))=λc' r=>m (skp (c+1) c') (r+1):=by
    funext c' r
    unfold skp
    by_cases q:c'<c
    ·rw[if_pos q,if_pos (by omega)]
    ·rw[if_neg q]
     by_cases q2:c'=c
     ·rw[if_pos (by omega),q2,e]
     ·rw[if_neg (by omega)]
   rw[this,QiR,e]
   generalize det n _=q
   rw[Zax,Zax];omega
  ·intro j hj h1 h2
   have:det n (λc' r=>m (skp j c') (r+1))=0:=by
    by_cases q:c<j
    ·refine Qh3 n _ c (by omega) ?_
     funext r
     show m (skp j c) (r+1)=m (skp j (c+1)) (r+1)
     unfold skp
     rw[if_pos q,if_pos (by omega),e]
    ·refine Qh3 n _ (c-1) (by omega) ?_
     funext r
     show m (skp j (c-1)) (r+1)=m (skp j (c-1+1)) (r+1)
     unfold skp
     rw[if_neg (by omega),if_neg (by omega),show c-1+1=c by omega,e]
   rw[this,Zu]
theorem Qiu{n:Nat}{m:Nat->Nat->Int}{c d:Nat}(hc:c<n)(hd:d<n)(hcd:c≠d)(hz:∀k:Nat->Nat->Int,k c=k d->det n k=0)(a b:Nat->Int):det n (cup (cup m c a) d b)= -det n (cup (cup m c b) d a):=by
 have z:=hz (cup (cup m c λr=>a r+b r) d λr=>a r+b r) (by rw[QC,Qv _ _ hcd,QC])
 have za:=hz (cup (cup m c a) d a) (by rw[QC,Qv _ _ hcd,QC])
 have zb:=hz (cup (cup m c b) d b) (by rw[QC,Qv _ _ hcd,QC])
 rw[QhX hd,QW _ _ _ hcd,QhX hc,QW _ _ _ hcd,QhX hc,QW _ _ _ (Ne.symm hcd),QW _ _ _ (Ne.symm hcd),QW _ _ _ (Ne.symm hcd),QW _ _ _ (Ne.symm hcd),za,zb]at z
 omega
theorem QkL:∀(g n:Nat) (m:Nat->Nat->Int) (i:Nat),i+g+1<n->m i=m (i+g+1)->det n m=0
 | 0,n,m,i,h,e=>Qh3 n m i h e
 | g+1,n,m,i,h,e=>by
  have:=Qiu (m:=m) (c:=i+g+1) (by omega) (by omega) (by omega) (λk hk=>Qh3 n k _ (by omega) hk) (m (i+g+1)) (m (i+g+1+1))
  rw[QY,QY]at this
  rw[this,QkL g n _ i (by omega)]
  ·rfl
  ·rw[Qv _ _ (by omega),Qv _ _ (by omega),Qv _ _ (by omega),QC]
   exact e
theorem QeB{n:Nat}{m:Nat->Nat->Int}{i j:Nat}(hi:i<n)(hj:j<n)(hij:i≠j)(e:m i=m j):det n m=0:=by
 rcases Nat.lt_or_gt_of_ne hij with h | h
 ·exact QkL (j-i-1) n m i (by omega) (by rw[show i+(j-i-1)+1=j by omega];exact e)
 ·exact QkL (i-j-1) n m j (by omega) (by rw[show j+(i-j-1)+1=i by omega];exact e.symm)
theorem Qbu{n:Nat}{m:Nat->Nat->Int}{c d:Nat}(hc:c<n)(hd:d<n)(hcd:c≠d)(a b:Nat->Int):det n (cup (cup m c a) d b)= -det n (cup (cup m c b) d a):=Qiu hc hd hcd (λk hk=>QeB hc hd hcd hk) a b
theorem QeY{n:Nat}{m:Nat->Nat->Int}{c:Nat}(h:c<n)(x:Nat->Int)(E:Nat->Nat->Int):∀k,det n (cup m c λr=>sm k λs=>x s*E s r)=sm k λs=>x s*det n (cup m c (E s))
 | 0=>by
  have:=Qer (m:=m) h 0 λ_=>0
  rw[ZD]at this
  unfold sm
  simpa using this
 | k+1=>by
  unfold sm
  rw[QhX h,QeY h x E k,Qer h]
theorem Qm9:∀{n:Nat}(σ:Nat->Nat),(∀j,j<n+1->σ j<n)->∃i j,i<n+1/\j<n+1/\i≠j/\σ i=σ j
 | 0,σ,h=>absurd (h 0 (by omega)) (by omega)
 | n+1,σ,h=>by
  by_cases q:∃i,i<n+1/\σ i=σ (n+1)
  ·obtain⟨i,hi,e⟩:=q
   exact⟨i,n+1,by omega,by omega,by omega,e⟩
  ·have ne:∀i,i<n+1->σ i≠σ (n+1):=λi hi e=>q ⟨i,hi,e⟩
   have hv:=h (n+1) (by omega)
   obtain⟨i,j,hi,hj,hij,e⟩:=Qm9 (n:=n) (λj=>if σ (n+1)<σ j then σ j-1 else σ j) λj hj=>by
    have:=h j (by omega)
    have:=ne j hj
    show(if σ (n+1)<σ j then σ j-1 else σ j)<n
    by_cases c:σ (n+1)<σ j
    ·rw[if_pos c];omega
    ·rw[if_neg c];omega
   refine⟨i,j,by omega,by omega,hij,?_⟩
   have a:=ne i hi
   have b:=ne j hj
   have e:(if σ (n+1)<σ i then σ i-1 else σ i)=(if σ (n+1)<σ j then σ j-1 else σ j):=e
   by_cases c:σ (n+1)<σ i
   ·rw[if_pos c]at e
    by_cases d:σ (n+1)<σ j
    ·rw[if_pos d]at e;omega
    ·rw[if_neg d]at e;omega
   ·rw[if_neg c]at e
    by_cases d:σ (n+1)<σ j
    ·rw[if_pos d]at e;omega
    ·rw[if_neg d]at e;omega
theorem QnP{n:Nat}{E:Nat->Nat->Int}{x:Nat->Nat->Int}:∀(k:Nat) (W:Nat->Nat->Int) (σ:Nat->Nat),k<=n+1->(∀j,j<n+1->σ j<n)->(∀j,j<k->W j=λr=>sm n λs=>x j s*E s r)->(∀j,k<=j->j<n+1->W j=E (σ j))->det (n+1) W=0
 | 0,W,σ,hk,hσ,_,h2=>by
  obtain⟨i,j,hi,hj,hij,e⟩:=Qm9 σ hσ
  exact QeB hi hj hij (by rw[h2 i (by omega) hi,h2 j (by omega) hj,e])
 | k+1,W,σ,hk,hσ,h1,h2=>by
  have:=QeY (n:=n+1) (m:=W) (c:=k) (by omega) (x k) E n
  rw[← h1 k (by omega),QY]at this
  rw[this]
  refine QhV λs hs=>?_
  rw[QnP k (cup W k (E s)) (λj=>if j=k then s else σ j) (by omega) (λj hj=>by show(if j=k then s else σ j)<n;by_cases e:j=k;(rw[if_pos e];exact hs);(rw[if_neg e];exact hσ j hj)) (λj hj=>by rw[Qv _ _ (by omega)];exact h1 j (by omega)) λj h3 h4=>?_,Zu]
  show cup W k (E s) j=E (if j=k then s else σ j)
  by_cases e:j=k
  ·rw[e,QC,if_pos rfl]
  ·rw[Qv _ _ e,if_neg e];exact h2 j (by omega) h4
noncomputable def cyc(m:Nat->Nat->Int)(a:Nat->Int)(l k:Nat):Nat->Nat->Int:=λc=>if c<k then m c else if c=k then a else if c<=l then m (c-1)else m c
theorem QrS{n:Nat}(m:Nat->Nat->Int)(a:Nat->Int){l k:Nat}(hk:k<l)(hl:l<n):det n (cyc m a l k)= -det n (cyc m a l (k+1)):=by
 have h:=Qbu (n:=n) (m:=cyc m a l k) (c:=k) (d:=k+1) (by omega) (by omega) (by omega) a (m k)
 have e1:cup (cup (cyc m a l k) k a) (k+1) (m k)=cyc m a l k:=by
  have q1:cyc m a l k k=a:=by unfold cyc;rw[if_neg (by omega),if_pos rfl]
  have q2:cyc m a l k (k+1)=m k:=by unfold cyc;rw[if_neg (by omega),if_neg (by omega),if_pos (by omega),ZaP]
  have:=QY (cyc m a l k) k
  rw[q1]at this
  rw[this,← q2,QY]
 have e2:cup (cup (cyc m a l k) k (m k)) (k+1) a=cyc m a l (k+1):=by
  funext c
  by_cases h1:c=k+1
  ·subst h1;rw[QC];unfold cyc;rw[if_neg (by omega),if_pos rfl]
  ·rw[Qv _ _ h1]
   by_cases h2:c=k
   ·subst h2;rw[QC];unfold cyc;rw[if_pos (by omega)]
   ·rw[Qv _ _ h2]
    unfold cyc
    by_cases h3:c<k
    ·rw[if_pos h3,if_pos (by omega)]
    ·rw[if_neg h3,if_neg h2,if_neg (show ¬c<k+1 by omega),if_neg h1]
 rw[e1,e2]at h
 exact h
theorem QoT{n:Nat}(m:Nat->Nat->Int)(a:Nat->Int){l:Nat}(hl:l<n):∀g k,k+g=l->det n (cyc m a l k)=sgn g*det n (cup m l a)
 | 0,k,h=>by
  have:cyc m a l k=cup m l a:=by
   funext c
   unfold cyc cup
   by_cases h1:c=l
   ·rw[if_neg (by omega),if_pos (by omega),if_pos h1]
   ·rw[if_neg h1]
    by_cases h2:c<k
    ·rw[if_pos h2]
    ·rw[if_neg h2,if_neg (by omega),if_neg (by omega)]
  rw[this];unfold sgn;simp
 | g+1,k,h=>by
  rw[QrS m a (by omega) hl,QoT m a hl g (k+1) (by omega),QiR,Zax]
theorem Qwu(j:Nat):sgn j*sgn j=1:=by unfold sgn;split<;>rfl
noncomputable def bE(r s q:Nat):Int:=if q=0 then(if s=r then 1 else 0)else if s=q-1 then 1 else 0
theorem Qny{n:Nat}(m:Nat->Nat->Int)(a:Nat->Int){r:Nat}(hr:r<n):det n m*a r=sm n λl=>det n (cup m l a)*m l r:=by
 have v0:∃v:Nat->Nat->Int,v=λj=>if j=0 then a else m (j-1):=⟨_,rfl⟩
 obtain⟨v,hv⟩:=v0
 have hv0:v 0=a:=by rw[hv];rfl
 have hvs:∀j,v (j+1)=m j:=λj=>by rw[hv];show(if j+1=0 then a else m (j+1-1))=_;rw[if_neg (by omega),ZaP]
 have z:det (n+1) (λj s=>if s=0 then v j r else v j (s-1))=0:=by
  have key:det (n+1) (λj q=>sm n λs=>v j s*bE r s q)=0:=
   QnP (n+1) _ (λ_=>r) (by omega) (λ_ _=>hr) (λj _=>rfl) (λj h1 h2=>by omega)
  rw[← key]
  refine QJ λj hj s hs=>?_
  by_cases e:s=0
  ·subst e
   rw[if_pos rfl,Qdp hr]
   ·unfold bE;rw[if_pos rfl,if_pos rfl,ZX]
   ·intro i _ ne;unfold bE;rw[if_pos rfl,if_neg ne,Zu]
  ·rw[if_neg e,Qdp (c:=s-1) (by omega)]
   ·unfold bE;rw[if_neg e,if_pos rfl,ZX]
   ·intro i _ ne;unfold bE;rw[if_neg e,if_neg ne,Zu]
 unfold det at z
 have term:∀j,(sgn j*(if(0:Nat)=0 then v j r else v j (0-1))*det n λc q=>if q+1=0 then v (skp j c) r else v (skp j c) (q+1-1))=sgn j*v j r*det n λc=>v (skp j c):=λj=>by
  rw[if_pos rfl]
  congr 1
 have first:∀(k:Nat) (f:Nat->Int),sm (k+1) f=f 0+sm k λi=>f (i+1):=λk f=>by
  induction k with
  | zero=>show 0+f 0=f 0+0;omega
  | succ k ih=>show sm (k+1) f+f (k+1)=_;rw[ih];show _=f 0+(sm k (λi=>f (i+1))+f (k+1));omega
 rw[QaS λj _=>term j,first]at z
 have t0:(λc=>v (skp 0 c))=m:=by funext c;unfold skp;rw[if_neg (by omega),hvs]
 have tl:∀l,l<n->sgn (l+1)*v (l+1) r*det n (λc=>v (skp (l+1) c))= -(det n (cup m l a)*m l r):=λl hl=>by
  have:(λc=>v (skp (l+1) c))=cyc m a l 0:=by
   funext c
   unfold skp cyc
   by_cases h0:c=0
   ·subst h0;rw[if_pos (show 0<l+1 by omega),if_neg (show ¬0<0 by omega),if_pos rfl,hv0]
   ·obtain⟨c',rfl⟩:∃c',c=c'+1:=⟨c-1,by omega⟩
    rw[if_neg (show ¬c'+1<0 by omega),if_neg h0]
    by_cases h1:c'+1<=l
    ·rw[if_pos (show c'+1<l+1 by omega),if_pos h1,hvs,ZaP]
    ·rw[if_neg (show ¬c'+1<l+1 by omega),if_neg h1,hvs]
  rw[this,QoT m a hl l 0 (by omega),hvs,QiR]
  have q:=Qwu l
  generalize det n (cup m l a)=d at *
  generalize m l r=x at *
  have: -sgn l*x*(sgn l*d)= -(sgn l*sgn l*(d*x)):=by
   rw[Zax,Zax,ZI,ZK x,← ZI,Zab x d]
  rw[this,q,ZQ]
 rw[t0,hv0]at z
 have neg:=QhG (-1) 0 (λl=>det n (cup m l a)*m l r) (λ_=>0) n
 rw[QaS (g:=λl=> -1*(det n (cup m l a)*m l r)+0*0) λl hl=>by rw[tl l hl];omega]at z
 have s0:sgn 0=1:=rfl
 rw[neg,s0,ZQ]at z
 rw[Zab]
 omega
theorem QsS{n:Nat}(m:Nat->Nat->Int)(u a:Nat->Int){k i:Nat}(hk:k<n)(hi:i<n)(hki:k≠i):det n m*det n (cup (cup m k u) i a)=det n (cup m k u)*det n (cup m i a)-det n (cup m i u)*det n (cup m k a):=by
 have h1:det n m*det n (cup (cup m k u) i a)=det n (cup (cup m i a) k λr=>det n m*u r):=by
  rw[Qer hk,QW _ _ _ hki]
 have h2:det n (cup (cup m i a) k λr=>det n m*u r)=det n (cup (cup m i a) k λr=>sm n λl=>det n (cup m l u)*m l r):=by
  refine QJ λj hj r hr=>?_
  by_cases e:j=k
  ·subst e;rw[QC,QC];exact Qny m u hr
  ·rw[Qv _ _ e,Qv _ _ e]
 rw[h1,h2,QeY hk (λl=>det n (cup m l u)) m n]
 have tk:det n (cup (cup m i a) k (m k))=det n (cup m i a):=by rw[QW _ _ _ (Ne.symm hki),QY]
 have ti:det n (cup (cup m i a) k (m i))= -det n (cup m k a):=by
  rw[Qbu hi hk (Ne.symm hki),QY]
 have tn:∀l,l<n->l≠k->l≠i->det n (cup (cup m i a) k (m l))=0:=λl hl h1 h2=>QeB hk hl (Ne.symm h1) (by rw[QC,Qv _ _ h1,Qv _ _ h2])
 rcases Nat.lt_or_gt_of_ne hki with h | h
 ·rw[QjT h hi λl hl a b=>by rw[tn l hl a b,Zu],tk,ti,Int.mul_neg];omega
 ·rw[QjT h hk λl hl a b=>by rw[tn l hl b a,Zu],tk,ti,Int.mul_neg];omega
noncomputable def Qy(j r:Nat):Int:=if j=r then 1 else 0
theorem Qc2:∀n,det n Qy=1
 | 0=>rfl
 | n+1=>by
  unfold det
  rw[Qdp (c:=0) (by omega) λi _ ne=>by unfold Qy;rw[if_neg ne,Zu,ZD]]
  have:(λc r=>Qy (skp 0 c) (r+1))=Qy:=by
   funext c r
   have e:skp 0 c=c+1:=by unfold skp;rw[if_neg (by omega)]
   rw[e]
   unfold Qy
   by_cases h:c=r
   ·rw[if_pos h,if_pos (by omega)]
   ·rw[if_neg h,if_neg (by omega)]
  rw[this,Qc2 n]
  unfold Qy sgn
  simp
theorem QmR{n:Nat}(a:Nat->Int){i:Nat}(hi:i<n):det n (cup Qy i a)=a i:=by
 have:=Qny Qy a hi
 rw[Qc2,ZQ,Qdp (c:=i) hi λl _ ne=>by rw[show Qy l i=0 by unfold Qy;rw[if_neg ne],Zu]]at this
 rw[this,show Qy i i=1 by unfold Qy;rw[if_pos rfl],ZX]
structure Clr (n N k:Nat) (A m R:Nat->Nat->Int) (d:Int):Prop where
 le:k<=n
 det:HS.det n m=d
 nz:d≠0
 ent:∀i j,i<n->j<N->R i j=HS.det n (cup m i (A j))
 own:∀j,j<k->m j=A j
theorem Clr.start(n N:Nat)(A:Nat->Nat->Int):Clr n N 0 A Qy (λi j=>A j i) 1:=⟨by omega,Qc2 n,by decide,λi j hi _=>(QmR (A j) hi).symm,λj hj=>by omega⟩
theorem Clr.exact{n N k:Nat}{A m R:Nat->Nat->Int}{d:Int}(h:Clr n N k A m R d)(hk:k<n)(kN:k<N){i j:Nat}(hi:i<n)(hj:j<N)(ne:i≠k):R k k*R i j-R i k*R k j=d*HS.det n (cup (cup m k (A k)) i (A j)):=by
 rw[h.ent k k hk kN,h.ent i j hi hj,h.ent i k hi kN,h.ent k j hk hj,← QsS m (A k) (A j) hk hi (Ne.symm ne),h.det]
theorem Clr.step{n N k:Nat}{A m R R':Nat->Nat->Int}{d:Int}(h:Clr n N k A m R d)(hk:k<n)(kN:k<N)(hp:R k k≠0)(h1:∀j,j<N->R' k j=R k j)(h2:∀i j,i<n->i≠k->j<N->∀q,R k k*R i j-R i k*R k j=d*q->R' i j=q):Clr n N (k+1) A (cup m k (A k)) R' (R k k):=by
 refine⟨hk,(h.ent k k hk kN).symm,hp,λi j hi hj=>?_,λj hj=>?_⟩
 ·by_cases e:i=k
  ·subst e
   rw[h1 j hj,h.ent i j hi hj,Qgh]
  ·exact h2 i j hi e hj _ (h.exact hk kN hi hj e)
 ·by_cases e:j=k
  ·subst e;rw[QC]
  ·rw[Qv _ _ e];exact h.own j (by omega)
theorem Clr.swap{n N k:Nat}{A m R R':Nat->Nat->Int}{d:Int}(h:Clr n N k A m R d){i:Nat}(hk:k<n)(hi:i<n)(hki:k<i)(h1:∀j,j<N->R' k j=R i j)(h2:∀j,j<N->R' i j= -R k j)(h3:∀l j,l<n->l≠k->l≠i->j<N->R' l j=R l j):∃m',Clr n N k A m' R' d:=by
 have ne:k≠i:=by omega
 have neg:∀(c:Nat),c<n->∀(M:Nat->Nat->Int) (a:Nat->Int),HS.det n (cup M c λr=> -a r)= -HS.det n (cup M c a):=λc hc M a=>by
  have:=Qer (m:=M) hc (-1) a
  simpa only[Zax,ZQ]using this
 refine⟨cup (cup m k (m i)) i λr=> -m k r,h.le,?_,h.nz,λl j hl hj=>?_,λj hj=>?_⟩
 ·rw[neg i hi,Qbu hk hi ne,Zbu,QY,QY];exact h.det
 ·by_cases e1:l=k
  ·subst e1
   rw[h1 j hj,h.ent i j hi hj,QW _ _ _ (Ne.symm ne),Qgh,neg i hi,Qbu hl hi ne,Zbu,QY]
  ·by_cases e2:l=i
   ·subst e2
    rw[h2 j hj,h.ent k j hk hj,Qgh,Qbu hk hl ne,QW _ _ _ ne]
    have:=QY m l
    rw[this]
   ·rw[h3 l j hl e1 e2 hj,h.ent l j hl hj,QW _ _ _ (Ne.symm e2),neg i hi,QW _ _ _ (Ne.symm e1),Qbu hk hi ne,Zbu]
    rw[QW _ _ _ e1,QY,QW _ _ _ e2,QY]
 ·rw[Qv _ _ (by omega),Qv _ _ (by omega)];exact h.own j hj
theorem Clr.tell{n N k:Nat}{A m R:Nat->Nat->Int}{d:Int}(h:Clr n N k A m R d){j r:Nat}(hj:j<N)(hr:r<n):d*A j r=sm n λl=>R l j*m l r:=by
 have:=Qny m (A j) hr
 rw[h.det]at this
 rw[this]
 exact QaS λl hl=>by rw[h.ent l j hl hj]
noncomputable def bnd(B:Nat):Nat->Nat
 | 0=>1
 | n+1=>(n+1)*(B*bnd B n)
theorem Qq4{f:Nat->Int}{C:Nat}:∀{n:Nat},(∀i,i<n->(f i).natAbs<=C)->(sm n f).natAbs<=n*C
 | 0,_=>by simp[sm]
 | n+1,h=>by
  unfold sm
  have h1:=Qq4 (n:=n) λi hi=>h i (by omega)
  have h2:=h n (by omega)
  have:=ZaU (sm n f) (f n)
  rw[ZbL]
  omega
theorem Qvb(j:Nat):(sgn j).natAbs=1:=by unfold sgn;split<;>rfl
theorem QdM{B:Nat}:∀{n:Nat}{m:Nat->Nat->Int},(∀j,j<n->∀r,r<n->(m j r).natAbs<=B)->(det n m).natAbs<=bnd B n
 | 0,_,_=>by show(1:Int).natAbs<=1;decide
 | n+1,m,h=>by
  unfold det bnd
  refine Qq4 λj hj=>?_
  rw[ZT,ZT,Qvb,Nat.one_mul]
  refine ZaL (h j hj 0 (by omega)) (QdM λc hc r hr=>h _ ?_ _ (by omega))
  unfold skp
  split<;>omega
theorem Qq7{n:Nat}(hn:n<=8):bnd (2^200) n<2^2000:=by
 have h:∀k,k<9->bnd (2^200) k<2^2000:=by decide+kernel
 exact h n (by omega)
def QpN(n:Nat)(m:Nat->Nat->Int):Prop:=∀j,j<n->∀r,r<n->(m j r).natAbs<=2^200
structure QiC (n N k:Nat) (A m R:Nat->Nat->Int) (d:Int):Prop where
 clr:Clr n N k A m R d
 unit:∀l,k<=l->l<n->m l=Qy l
 col:QpN n m
theorem QpN.put{n:Nat}{m:Nat->Nat->Int}(h:QpN n m){i:Nat}{a:Nat->Int}(ha:∀r,r<n->(a r).natAbs<=2^200):QpN n (cup m i a):=λj hj r hr=>by
 by_cases e:j=i
 ·subst e;rw[QC];exact ha r hr
 ·rw[Qv _ _ e];exact h j hj r hr
theorem QiC.start(n N:Nat)(A:Nat->Nat->Int):QiC n N 0 A Qy (λi j=>A j i) 1:=⟨Clr.start n N A,λ_ _ _=>rfl,λj _ r _=>by unfold Qy;split<;>decide⟩
theorem QiC.small{n N k:Nat}{A m R:Nat->Nat->Int}{d:Int}(h:QiC n N k A m R d)(hn:n<=8)(hA:∀j,j<N->∀r,r<n->(A j r).natAbs<=2^200):d.natAbs<2^2000/\∀i j,i<n->j<N->(R i j).natAbs<2^2000:=by
 have b:=Qq7 hn
 refine⟨?_,λi j hi hj=>?_⟩
 ·rw[← h.clr.det];exact ZW (QdM h.col) b
 ·rw[h.clr.ent i j hi hj];exact ZW (QdM (h.col.put (hA j hj))) b
theorem QmJ{f:Nat->Int}{k:Nat}:∀{n:Nat},k<=n->(∀i,k<=i->i<n->f i=0)->sm n f=sm k f
 | 0,h,_=>by rw[Nat.le_zero.mp h]
 | n+1,h,z=>by
  by_cases e:k=n+1
  ·rw[e]
  ·show sm n f+f n=sm k f
   rw[QmJ (n:=n) (by omega) λi h1 h2=>z i h1 (by omega),z n (by omega) (by omega),Zba]
theorem QiC.step{n N k:Nat}{A m R R':Nat->Nat->Int}{d:Int}(h:QiC n N k A m R d)(hk:k<n)(kN:k<N)(hA:∀j,j<N->∀r,r<n->(A j r).natAbs<=2^200)(hp:R k k≠0)(h1:∀j,j<N->R' k j=R k j)(h2:∀i j,i<n->i≠k->j<N->∀q,R k k*R i j-R i k*R k j=d*q->R' i j=q):QiC n N (k+1) A (cup m k (A k)) R' (R k k):=
 ⟨h.clr.step hk kN hp h1 h2,λl h3 h4=>by rw[Qv _ _ (by omega)];exact h.unit l (by omega) h4,h.col.put (hA k kN)⟩
theorem QaN{i:Int}(h:i.natAbs<2^2000):QbL i:=Zk (Zbj h) (by decide)
theorem Qpf{a d q:Int}(hd:d≠0)(h:a=d*q):Qdo a d=q:=by
 rw[QhZ,h,Int.mul_fdiv_cancel_left q hd]
theorem Qdr{fa fb:DE}{ρ:En}{ra rb:R}{a b:Int}(ha:fa ρ=some ra)(ea:ra.d= .int a)(hb:fb ρ=some rb)(eb:rb.d= .int b):dOp QaP fa fb ρ=some ⟨.int (a-b),true,[]⟩:=by
 refine QbX ha hb ?_
 rw[ea,eb];rfl
theorem Qf9{fa fb:DE}{ρ:En}{ra rb:R}{a b q:Int}(ha:fa ρ=some ra)(ea:ra.d= .int a)(hb:fb ρ=some rb)(eb:rb.d= .int b)(hz:b≠0)(h2:b.natAbs<2^2000)(h:a=b*q):dOp Qcq fa fb ρ=some ⟨.int q,true,[]⟩:=by
 refine QbX ha hb ?_
 rw[ea,eb]
 show(if Qbx b=true then some (D.int (Qdo a b))else none)=_
 have:Qbx b=true:=by
  unfold Qbx
  simp only[Zj,decide_eq_true_eq]
  exact⟨hz,Zp h2 (ZH (by decide) (by decide))⟩
 rw[if_pos this,Qpf hz h]
noncomputable def Qin:DS:=(Qf (QH (QO (QdU (Qa 0) (Qa 1)) (.tp [1,2]) [none,none,none,some 2,some 3,some 0,some 1] QR (dOp Qcq (dOp QaP (Qaq (Ql (Qa 6) (Qa 3)) (Qa 1)) (Qaq (Ql (Qa 5) (Qa 3)) (Qa 2))) (Qa 4)))) Qi)
def QkR(d:Den):Prop:=∀(N k:Nat) (a p q:Nat->Int) (b:Int),k<N->b≠0->b.natAbs<2^2000->(∀j,j<N->(a j).natAbs<2^2000/\(p j).natAbs<2^2000)->(∀j,j<N->p k*a j-a k*p j=b*q j)->d [Qe N a,Qe N p,.int k,.int b]=some (Qe N q,true)
theorem Qs2:QkR (Qq 4 Qin):=λN k a p q b hk hb hb2 hs hq=>
 Q1 (QE (QL (List.range N) (Qen rfl rfl rfl rfl) rfl λi hi=>⟨[none,some (.int (a i),true),some (.int (p i),true),some (.int k,true),some (.int b,true),some (Qe N a,false),some (Qe N p,false)],rfl,⟨.int (q i),true,[]⟩,by
  have hi':=Zr.mp hi
  refine Qf9 (Qdr (Qap (Qam rfl rfl rfl rfl hk) rfl rfl rfl (QdN (QaN (hs k hk).2) (QaN (hs i hi').1))) rfl (Qap (Qam rfl rfl rfl rfl hk) rfl rfl rfl (QdN (QaN (hs k hk).1) (QaN (hs i hi').2))) rfl) rfl rfl rfl hb hb2 (hq i hi'),rfl,rfl⟩) ⟨rfl,rfl⟩)
noncomputable def QfM(Qcd:Den)(QcL:Den):DS:=(Qf (Qu 1 (Qao (Qa 0))) (Qf (Qu 2 (dC (.int 1))) (Qf (QaW (Q5 (dBf Qat (Qd (Qa 0) Qg))) (.nm 3) (Qf (Qu 1 (Qk 2 Qcd [] (Qd (Qa 1) (Qd (Qa 3) Qg)))) (Qf (Qu 4 (Qao (Ql (Qa 1) (Qa 3)))) (Qf (sIf (QM (dOp gEq (Ql (Qa 4) (Qa 3)) (dC (.int 0)))) (Qf (QH (Qe3 (Qd (Qa 1) (Qd (dC (.int 0)) Qg)))) Qi) Qi) (Qf (Qu 1 (QO (Q4 (Qa 1)) (.nm 1) [none,none,some 3,some 2,some 4] QR (Qk 4 QcL [] (Qd (Qa 1) (Qd (Qa 4) (Qd (Qa 2) (Qd (Qa 3) Qg))))))) (Qf (Qbf 1 Q2 (Qa 3) (Qa 4)) (Qf (Qu 2 (Qao (Ql (Qa 4) (Qa 3)))) Qi))))))) (Qf (QH (Qe3 (Qd (Qa 1) (Qd (Qa 2) Qg)))) Qi))))
theorem Qi9{n:Nat}{den:Den}{dfl:List D}{fs:DA}{ρ:En}{r:RA}{d:D}(h:fs ρ=some r)(e:den (r.ds++dfl)=some (d,false))(hn:r.ds.length+dfl.length=n):Qk n den dfl fs ρ=some (R.norm ⟨d,false,r.M⟩):=by
 unfold Qk
 rw[h,Za,if_pos hn,e]
 rfl
theorem Qp6{x n N k:Nat}{g:Nat->Nat->Int}{p:Nat->Int}{fi fa:DE}{ρ:En}{Q:Out->Prop}(hx:ρ[x]? =some (some (Qc n N g,true)))(hi:fi ρ=some ⟨.int k,true,[]⟩)(ha:fa ρ=some ⟨Qe N p,false,[]⟩)(hk:k<n)
  (q:Q (.nx (ρ.set x (some (Qc n N (λi j=>if i=k then p j else g i j),false))))):Run (Qbf x Q2 fi fa) ρ Q:=by
 refine⟨_,?_,q⟩
 unfold Qbf
 rw[ha,Za,hx]
 have hn:(HS.R.mk (Qe N p) false []).norm=⟨Qe N p,false,[]⟩:=by unfold R.norm Qe;rfl
 simp only[Q2,Za,hi,Qc,Qax,Zx,Zo,hn]
 rw[Qcf (show(0:Int)<=k by omega) (by omega)]
 simp only[Za,ZC]
 have e:((List.range n).map λi=>Qe N (g i)).set k (Qe N p)=(List.range n).map λi=>Qe N (λj=>if i=k then p j else g i j):=by
  refine ZaT λi=>?_
  rw[ZbC]
  by_cases h:k=i
  ·subst h
   rw[if_pos rfl,if_pos (by simpa using hk),Zl,ZG hk]
   simp
  ·rw[if_neg h,Zl,Zl]
   by_cases h2:i<n
   ·rw[ZG h2]
    simp only[ZY,if_neg (Ne.symm h)]
   ·rw[Zs (by simpa using h2)];rfl
 rw[e]
 rfl
theorem QhU(f:Nat->Int):∀n,sm n f=Qp n f
 | 0=>rfl
 | n+1=>by rw[QS,← QhU f n];rfl
theorem Qt8{m:Nat}{f:Nat->Int}(h:∀i,i<m->0<=f i):0<=Qp m f:=by
 have:=Qkh h
 rw[QbP]at this
 exact this
noncomputable def Qju:DS:=(Qf (QH (QO (Q4 (Qa 0)) (.nm 1) [none,none] QR (dOp QaP (dC (.int 0)) (Qa 1)))) Qi)
def QpG(d:Den):Prop:=∀(n:Nat) (a:Nat->Int),d [Qe n a]=some (Qe n λi=>0-a i,true)
theorem QwF:QpG (Qq 1 Qju):=λn a=>Q1 (QE (QL (List.range n) (Qag rfl rfl) rfl λi _=>⟨[none,some (.int (a i),true)],rfl,⟨.int (0-a i),true,[]⟩,rfl,rfl,rfl⟩) ⟨rfl,rfl⟩)
noncomputable def Qgt:DS:=(Qf (Qu 1 (dC (.int 0))) (Qf (QaW (Q4 (Qa 0)) (.nm 2) (Qf (Qu 3 (Qao (Qa 2))) (Qf (Qck (QM (dOp gNe (Qa 3) (dC (.int 0)))) (Qf (Qu 4 (dOp QaJ (Qa 1) (Qa 3))) (Qf (Qu 1 (Qao (Qa 3))) (Qf (Qu 3 (Qao (Qa 4))) Qi)))) Qi))) (Qf (QH (dBf Qho (Qd (Qa 1) Qg))) Qi)))
theorem Qsa{a b t:Int}:(t∣b/\t∣QcN a b)↔(t∣a/\t∣b):=by
 have e:QcN a b=a-b*Qdo a b:=by
  rw[QhZ,show QcN a b=a.fmod b from QhJ a b,Int.fmod_def]
 rw[e]
 constructor
 ·rintro⟨h1,h2⟩
  refine⟨?_,h1⟩
  have:=Zat h2 (Zap (c:=Qdo a b) h1)
  rwa[ZaA]at this
 ·rintro⟨h1,h2⟩
  exact⟨h2,ZaW h1 (Zap h2)⟩
theorem QuT{a b:Int}(h:b≠0):(QcN a b).natAbs<b.natAbs:=by
 rw[show QcN a b=a.fmod b from QhJ a b]
 by_cases hb:0<b
 ·have h1:=ZbO a hb
  have h2:=Int.fmod_lt_of_pos a hb
  omega
 ·have hb':0< -b:=by omega
  have h1:=ZbO (-a) hb'
  have h2:=Int.fmod_lt_of_pos (-a) hb'
  have h3:=Int.neg_fmod_neg a b
  omega
def QiK(d:Den):Prop:=∀(xs:List Int),∃g:Int,d [QB xs]=some (.int g,true)/\0<=g/\∀t,t∣g↔∀x∈xs,t∣x
theorem Qqz:QiK (Qq 5 Qgt):=λxs=>by
 have key:Run Qgt [some (QB xs,false),none,none,none,none] λo=>match o with | .rt d fr=>fr=true/\∃g,d= .int g/\0<=g/\∀t,t∣g↔∀x∈xs,t∣x | _=>False:=by
  refine run_seq (Qh rfl ?_)
  rw[Qn]
  refine Qw (Qaj xs (λk ρ=>∃g j2 j3 j4,(∀t,t∣g↔∀x∈xs.take k,t∣x)/\ρ=[some (QB xs,false),some (.int g,true),j2,j3,j4]) (Qag rfl rfl) rfl ⟨0,none,none,none,λt=>by simp,rfl⟩ ?_ ?_)
  ·rintro k x ρ hk ⟨g,j2,j3,j4,hg,rfl⟩
   refine⟨[some (QB xs,false),some (.int g,true),some (.int x,true),j3,j4],rfl,?_⟩
   refine run_seq (Qh rfl ?_)
   rw[Qbt rfl]
   refine Q0 (P:=λρ=>∃g' j4,(∀t,t∣g'↔(t∣g/\t∣x))/\ρ=[some (QB xs,false),some (.int g',true),some (.int x,true),some (.int 0,true),j4]) ?_ ?_
   ·refine Qfy (λn ρ=>∃g' r j4,n=r.natAbs/\(∀t,(t∣g'/\t∣r)↔(t∣g/\t∣x))/\ρ=[some (QB xs,false),some (.int g',true),some (.int x,true),some (.int r,true),j4]) ?_ x.natAbs _ ⟨g,x,j4,rfl,λ_=>Iff.rfl,rfl⟩
    rintro n ρ ⟨g',r,j4,rfl,hd,rfl⟩
    refine⟨!decide (r=0),QI (QbQ rfl rfl rfl rfl) rfl,λh=>?_,λh=>?_⟩
    ·have hr:r=0:=by simpa using h
     subst hr
     exact⟨g',j4,λt=>by rw[← hd t];simp,rfl⟩
    ·have hr:r≠0:=by simpa using h
     refine run_seq (Qh (QbX rfl rfl (by show(if r≠0 then some (D.int (QcN g' r))else none)=_;rw[if_pos hr])) ?_)
     rw[Qn]
     refine run_seq (Qh rfl ?_)
     rw[Qbt rfl]
     refine run_seq (Qh rfl (Qr ?_))
     rw[Qbt rfl]
     exact⟨_,QuT hr,r,QcN g' r,_,rfl,λt=>Qsa.trans (hd t),rfl⟩
   ·rintro ρ ⟨g',j4,hd,rfl⟩
    refine Qr ⟨g',_,_,_,λt=>?_,rfl⟩
    rw[hd t,hg t,List.take_succ,hk]
    simp only[ZJ,Option.toList_some,ZA]
    exact⟨λ⟨a,b⟩ y hy=>hy.elim (a y) λe=>e▸b,λa=>⟨λy hy=>a y (.inl hy),a x (.inr rfl)⟩⟩
  ·rintro ρ ⟨g,j2,j3,j4,hg,rfl⟩
   rw[List.take_length]at hg
   refine QE rfl ⟨rfl,_,rfl,by split<;>omega,λt=>?_⟩
   rw[← hg t]
   split
   ·exact Int.dvd_neg
   ·exact Iff.rfl
 obtain⟨o,h1,h2⟩:=key
 cases o with
 | rt d fr=>
  obtain⟨rfl,g,rfl,g0,hg⟩:=h2
  exact⟨g,by show Option.bind (Qgt [some (QB xs,false),none,none,none,none]) outD=_;rw[h1];rfl,g0,hg⟩
 | _=>exact h2.elim
noncomputable def QfF(QdQ:Den):DS:=(Qf (Qu 1 (Qk 1 QdQ [] (Qd (Qa 0) Qg))) (Qf (sIf (QM (dOp gEq (Ql (Qa 1) (dC (.int 1))) (dC (.int 0)))) (Qf QF Qi) Qi) (Qf (QH (Qa 1)) Qi)))
theorem Qr0{fa fb:DE}{ρ:En}{ra:R}{m:Nat}{f:Nat->Int}{x:Int}(ha:fa ρ=some ra)(ea:ra.d=Qe m f)(hb:fb ρ=some ⟨.int x,true,[]⟩)(hm:m<=1000):Q8 fa (Qav (Qd fb Qg)) ρ=some ⟨Qe (m+1) (up f m x),true,[]⟩:=by
 have hb:Qav (Qd fb Qg) ρ=some ⟨.lst [.int x],true,[]⟩:=(Qe6 (rs:=⟨[.int x],true,[]⟩) (Qs hb (QP _)) (by simp)).trans rfl
 unfold Q8
 rw[ha,Za,hb,Za,ea]
 simp only[Qe,Zx,Zo,QhR]
 rw[if_pos (by simp;omega)]
 unfold Qbs
 rw[if_pos (by rw[Qc0,Zj];exact⟨QbR (λ_=>rfl) _,rfl⟩)]
 congr 3
 rw[ZbS,Zaz]
 congr 1
 ·refine ZO λi hi=>?_
  rw[Qew,if_neg (by have:=Zr.mp hi;omega)]
 ·show _=[D.int (up f m x m)]
  rw[Qew,if_pos rfl]
theorem Qnl(n:Nat)(f:Nat->Int):Qe n f=QB ((List.range n).map f):=by unfold Qe QB;rw[ZaN];rfl
theorem Qu9{fa fb:DE}{ρ:En}{ra rb:R}{a b:Int}(ha:fa ρ=some ra)(ea:ra.d= .int a)(hb:fb ρ=some rb)(eb:rb.d= .int b)(h:0<b)(h2:b.natAbs<2^2000):dOp Qcq fa fb ρ=some ⟨.int (a / b),true,[]⟩:=by
 refine QbX ha hb ?_
 rw[ea,eb]
 show(if Qbx b=true then some (D.int (Qdo a b))else none)=_
 have:Qbx b=true:=by
  unfold Qbx
  simp only[Zj,decide_eq_true_eq]
  exact⟨by omega,Zp h2 (ZH (by decide) (by decide))⟩
 rw[if_pos this,Qiw _ _ (by omega)]
noncomputable def QX(m:Nat)(T:Nat->Nat->Int)(v:Nat->Int):Nat->Int:=λj=>2*(0-T j j)-QG m T (λj=>2*(0-T j j)) v j
theorem QlC{m:Nat}{T:Nat->Nat->Int}{v:Nat->Int}(j:Nat):QX m T v j= -Qp m λi=>v i*T i j:=by
 unfold QX QG;show 2*(0-T j j)-(2*(0-T j j)+_)=_;omega
def Rec(m:Nat)(T:Nat->Nat->Int)(v x:Nat->Int):Prop:=∃(y u:Nat->Int),(∀j,j<m->0<=y j)/\Told m T (λj=>y j+QX m T v j) u/\∀j,j<m->x j=QG m T (λj=>y j+QX m T v j) u j
structure Dbl (m:Nat) (T:Nat->Nat->Int) (v:Nat->Int):Prop where
 told:Told m T (λj=>2*(0-T j j)) v
theorem Dbl.big{m:Nat}{T:Nat->Nat->Int}{v:Nat->Int}(h:Dbl m T v){j:Nat}(hj:j<m):(0-T j j)+1<=QX m T v j/\QX m T v j<=2*(0-T j j):=by
 have h1:=h.told.stb j hj
 have h2:=h.told.pos j hj
 unfold QX
 omega
theorem Dbl.round{m:Nat}{T:Nat->Nat->Int}{v:Nat->Int}(h:Dbl m T v)(tp:TP m T){y u:Nat->Int}(y0:∀j,j<m->0<=y j)(hu:Told m T (λj=>y j+QX m T v j) u):Told m T (λj=>y j+QX m T v j+QX m T v j) (λi=>v i+u i)/\∀j,j<m->QG m T (λj=>y j+QX m T v j) u j=QG m T (λj=>y j+QX m T v j+QX m T v j) (λi=>v i+u i) j:=by
 refine h.told.lay (λj hj=>?_) (λj hj=>?_) hu
 ·have b:=h.big hj
  have:=h.told.stb j hj
  have e:QX m T v j=2*(0-T j j)-QG m T (λj=>2*(0-T j j)) v j:=rfl
  have:=y0 j hj
  omega
 ·have e:QX m T v j=2*(0-T j j)-QG m T (λj=>2*(0-T j j)) v j:=rfl
  omega
theorem Rec.comes{m:Nat}{T:Nat->Nat->Int}{v x w:Nat->Int}(tp:TP m T)(h:Dbl m T v)(hr:Rec m T v x)(hw:Told m T (λj=>x j+QX m T v j) w):∀j,j<m->QG m T (λj=>x j+QX m T v j) w j=x j:=λj hj=>by
 obtain⟨y,u,y0,hu,ex⟩:=hr
 obtain⟨t2,e2⟩:=h.round tp y0 hu
 obtain⟨t1,e1⟩:=hu.lay (F':=λj=>y j+QX m T v j+QX m T v j) (λj hj=>by have:=h.big hj;have:=tp.neg j hj;show _<=y j+QX m T v j+QX m T v j;omega) (λj hj=>by show x j+_=_;rw[ex j hj];omega) hw
 have one:=t1.one tp t2
 rw[e1 j hj,ex j hj,e2 j hj]
 exact QdO j rfl one
theorem Dbl.pos{m:Nat}{T:Nat->Nat->Int}{v:Nat->Int}(tp:TP m T)(h:Dbl m T v){j:Nat}(hj:j<m):1<=v j:=by
 refine ZaC λz=>?_
 have v0:v j=0:=by have:=h.told.leg.nonneg j;omega
 have s:=h.told.stb j hj
 have:0<=Qp m λi=>v i*T i j:=Qt8 λi hi=>by
  by_cases e:i=j
  ·rw[e,v0,ZD];exact ZbV _
  ·exact ZbA (h.told.leg.nonneg i) (tp.pos i j hi hj e)
 have e:QG m T (λj=>2*(0-T j j)) v j=2*(0-T j j)+Qp m λi=>v i*T i j:=rfl
 have:=tp.neg j hj
 omega
theorem Rec.QtY{m:Nat}{T:Nat->Nat->Int}{v y u:Nat->Int}(tp:TP m T)(h:Dbl m T v)(y0:∀j,j<m->0<=y j)(hu:Told m T (λj=>y j+QX m T v j) u):∀N:Nat,Told m T (λj=>(y j+N*QX m T v j)+QX m T v j) (λi=>u i+N*v i)/\∀j,j<m->QG m T (λj=>(y j+N*QX m T v j)+QX m T v j) (λi=>u i+N*v i) j=QG m T (λj=>y j+QX m T v j) u j
 | 0=>by
  have e1:(λj=>(y j+((0:Nat):Int)*QX m T v j)+QX m T v j)=λj=>y j+QX m T v j:=by funext j;simp
  have e2:(λi=>u i+((0:Nat):Int)*v i)=u:=by funext i;simp
  rw[e1,e2]
  exact⟨hu,λ_ _=>rfl⟩
 | N+1=>by
  obtain⟨t,e⟩:=Rec.QtY tp h y0 hu N
  obtain⟨t2,e2⟩:=h.round tp (λj hj=>by
   have:=h.big hj
   have:=tp.neg j hj
   have:=ZbA (show(0:Int)<=N by omega) (show 0<=QX m T v j by omega)
   have:=y0 j hj
   show 0<=y j+N*QX m T v j
   omega) t
  have e3:(λj=>(y j+((N+1:Nat):Int)*QX m T v j)+QX m T v j)=λj=>y j+N*QX m T v j+QX m T v j+QX m T v j:=by
   funext j;rw[ZaF,ZV];simp;omega
  have e4:(λi=>u i+((N+1:Nat):Int)*v i)=λi=>v i+(u i+N*v i):=by
   funext i;rw[ZaF,ZV];simp;omega
  rw[e3,e4]
  exact⟨t2,λj hj=>by rw[← e2 j hj,e j hj]⟩
theorem Qoz{m:Nat}{T:Nat->Nat->Int}{f c d:Nat->Int}(j:Nat):QG m T (QG m T f c) d j=QG m T f (λi=>c i+d i) j:=by
 unfold QG
 have:(λi=>(c i+d i)*T i j)=λi=>c i*T i j+d i*T i j:=by funext i;rw[ZV]
 rw[this,QaA]
 omega
theorem Qr2{m:Nat}(d:Nat->Int):∃N:Nat,∀i,i<m-> -(N:Int)<=d i:=by
 induction m with
 | zero=>exact⟨0,λi hi=>by omega⟩
 | succ m ih=>
  obtain⟨N,h⟩:=ih
  refine⟨N+(d m).natAbs,λi hi=>?_⟩
  by_cases e:i=m
  ·subst e;omega
  ·have:=h i (by omega);omega
theorem Rec.least{m:Nat}{T:Nat->Nat->Int}{v x d:Nat->Int}(tp:TP m T)(h:Dbl m T v)(hr:Rec m T v x)(hs:Stb m T (QG m T x d)):∀i,i<m->0<=d i:=by
 obtain⟨y,u,y0,hu,ex⟩:=hr
 obtain⟨N,hN⟩:=Qr2 d
 obtain⟨t,e⟩:=Rec.QtY tp h y0 hu N
 have:=t.leg.least tp (c':=λi=>(u i+N*v i)+d i) (λi hi=>by
  have h1:=h.pos tp hi
  have h2:=hu.leg.nonneg i
  have h3:=hN i hi
  have h4:=Int.mul_le_mul_of_nonneg_left h1 (show(0:Int)<=N by omega)
  show 0<=u i+N*v i+d i
  omega) (λp hp=>by
  have:=hs p hp
  rw[← Qoz]
  have e2:QG m T (QG m T (λj=>(y j+N*QX m T v j)+QX m T v j) λi=>u i+N*v i) d p=QG m T x d p:=QdO p (by rw[e p hp,ex p hp]) λ_ _=>rfl
  rw[e2];exact this)
 intro i hi
 have:=this i hi
 omega
theorem Rec.one{m:Nat}{T:Nat->Nat->Int}{v v' x x' d:Nat->Int}(tp:TP m T)(h:Dbl m T v)(h':Dbl m T v')(hr:Rec m T v x)(hr':Rec m T v' x')(sx:Stb m T x)(sx':Stb m T x')(e:∀j,j<m->x' j=QG m T x d j):∀i,i<m->d i=0:=λi hi=>by
 have a:=hr.least tp h (λp hp=>by rw[← e p hp];exact sx' p hp) i hi
 have b:=hr'.least tp h' (λp hp=>by
  have:QG m T x' (λi=> -d i) p=x p:=by
   have q:QG m T x' (λi=> -d i) p=QG m T (QG m T x d) (λi=> -d i) p:=QdO p (e p hp) λ_ _=>rfl
   rw[q,Qoz]
   unfold QG
   rw[Qj λi _=>by show(d i+ -d i)*T i p=0;rw[Int.add_right_neg,ZD],QbP]
   omega
  rw[this];exact sx p hp) i hi
 omega
theorem Rec.of{m:Nat}{T:Nat->Nat->Int}{v v' x:Nat->Int}(tp:TP m T)(h:Dbl m T v)(h':Dbl m T v'):∀j,QX m T v' j=QX m T v j:=λj=>by
 have e:=h.told.one tp h'.told
 rw[QlC,QlC]
 exact congrArg (λz=> -z) (Qj λi hi=>by rw[e i hi])
structure Qzv (m:Nat) (T:Nat->Nat->Int) (f k:Nat->Int):Prop where
 ex:∃v,Dbl m T v/\Rec m T v (QG m T f k)
 stb:Stb m T (QG m T f k)
 nn:∀j,j<m->0<=QG m T f k j
def HpB(m:Nat)(h:Nat->Int):Prop:=∀j,j<m->0<=h j/\h j<=2^62
theorem HpB.up{m:Nat}{h:Nat->Int}(b:HpB m h):∀j,j<m->0<=h j/\h j<=2^100:=λj hj=>by
 have:=b j hj
 have:(2:Int)^62<=2^100:=by decide
 omega
theorem QnF{fa fb:DE}{ρ:En}{ra rb:R}{m n:Nat}{f:Nat->Int}(ha:fa ρ=some ra)(ea:ra.d=Qe m f)(hb:fb ρ=some rb)(eb:rb.d= .int n)(h:n<=m):QcV fa (Qbd fb) QcS ρ=some ⟨Qe (m-n) λi=>f (n+i),true,[]⟩:=by
 have cut:cutD ((List.range m).map λi=>D.int (f i)) (some (n:Int)) none=(List.range (m-n)).map λi=>D.int (f (n+i)):=by
  unfold cutD
  simp only[Zx,Zo,HT.Qji,HT.QhN]
  rw[ZbT h,← List.map_drop,← List.map_take]
  have e:((List.range m).drop n).take (m-n)=(List.range (m-n)).map λi=>n+i:=by
   rw[ZaM (by simp)]
   refine ZaT λi=>?_
   rw[List.getElem?_drop,Zl]
   by_cases hi:i<m-n
   ·rw[ZG (by omega),ZG hi];rfl
   ·rw[Zs (by simp;omega),Zs (by simp;omega)];rfl
  rw[e,ZaN]
  rfl
 unfold QcV QcS Qbd
 simp only[ha,hb,Za,ea,eb,Qe,cut,Qbs]
 have:Qae ((List.range (m-n)).map λi=>D.int (f (n+i)))=true:=by
  have:=QjA ((List.range (m-n)).map λi=>f (n+i))
  rw[ZaN]at this
  exact this
 rw[if_pos this]
theorem Qn0(ds:List D)(M:List Nat):(Qbs ds M).d= .lst ds:=by unfold Qbs;split<;>rfl
theorem Qsg{fa fb:DE}{ρ:En}{ra rb:R}{xs:List D}{n:Nat}(ha:fa ρ=some ra)(ea:ra.d= .lst xs)(hb:fb ρ=some rb)(eb:rb.d= .int n)(h:n<=xs.length):∃r:HS.R,QcV fa QcS (Qbd fb) ρ=some r/\r.d= .lst (xs.take n):=by
 unfold QcV QcS Qbd
 simp only[ha,hb,Za,ea,eb]
 refine⟨_,rfl,?_⟩
 rw[Qn0]
 unfold cutD
 simp only[HT.Qji,HT.QhN,List.drop_zero,Nat.sub_zero]
 rw[ZbT h]
theorem QrR{fa fb:DE}{ρ:En}{ra rb:R}{xs:List D}{n:Nat}(ha:fa ρ=some ra)(ea:ra.d= .lst xs)(hb:fb ρ=some rb)(eb:rb.d= .int n)(h:n<=xs.length):∃r:HS.R,QcV fa (Qbd fb) QcS ρ=some r/\r.d= .lst (xs.drop n):=by
 unfold QcV QcS Qbd
 simp only[ha,hb,Za,ea,eb]
 refine⟨_,rfl,?_⟩
 rw[Qn0]
 unfold cutD
 simp only[HT.Qji,HT.QhN]
 rw[ZbT h,ZaM (by simp)]
theorem Qsw{fa fb:DE}{ρ:En}{ra rb:R}{xs ys:List D}(ha:fa ρ=some ra)(ea:ra.d= .lst xs)(hb:fb ρ=some rb)(eb:rb.d= .lst ys)(h:xs.length+ys.length<=1000):∃r:HS.R,Q8 fa fb ρ=some r/\r.d= .lst (xs++ys):=by
 unfold Q8
 rw[ha,Za,hb,Za,ea,eb]
 refine⟨_,if_pos (Zk h (by decide)),Qn0 _ _⟩
theorem Qtp{n k:Nat}(hk:k<n+1)(g:Nat->D):((List.range (n+1)).map g).take k++((List.range (n+1)).map g).drop (k+1)=(List.range n).map λc=>g (skp k c):=by
 refine ZaT λi=>?_
 by_cases hi:i<n
 ·rw[Zl,ZG hi,List.getElem?_append]
  have l1:(((List.range (n+1)).map g).take k).length=k:=by rw[ZaY,Zx,Zo];omega
  rw[l1]
  unfold skp
  by_cases q:i<k
  ·rw[if_pos q,List.getElem?_take,if_pos q,Zl,ZG (by omega)]
   simp[q]
  ·rw[if_neg q,List.getElem?_drop,Zl,show k+1+(i-k)=i+1 by omega,ZG (by omega)]
   simp[q]
 ·rw[Zs (by simp;omega),Zs (by simp;omega)]
noncomputable def Qb9(Qb8:Den):DS:=(Qf (sIf (QM (dOp gEq (dBf Qat (Qd (Qa 0) Qg)) (dC (.int 1)))) (Qf (QH (Ql (Ql (Qa 0) (dC (.int 0))) (dC (.int 0)))) Qi) Qi) (Qf (Qu 1 (dC (.int 0))) (Qf (QaW (Q5 (dBf Qat (Qd (Qa 0) Qg))) (.nm 2) (Qf (sIf (QM (dOp gNe (Ql (Ql (Qa 0) (Qa 2)) (dC (.int 0))) (dC (.int 0)))) (Qf (Qu 3 (Qk 1 Qb8 [] (Qd (QO (Q4 (Q8 (QcV (Qa 0) QcS (Qbd (Qa 2))) (QcV (Qa 0) (Qbd (Q8 (Qa 2) (dC (.int 1)))) QcS))) (.nm 1) [none,none] QR (QcV (Qa 1) (Qbd (dC (.int 1))) QcS)) Qg))) (Qf (Qu 1 (Q8 (Qa 1) (Qaq (Qaq (dOp QaP (dC (.int 1)) (Qaq (dC (.int 2)) (dOp QaJ (Qa 2) (dC (.int 2))))) (Ql (Ql (Qa 0) (Qa 2)) (dC (.int 0)))) (Qa 3)))) Qi)) Qi) Qi)) (Qf (QH (Qa 1)) Qi))))
theorem Qwf(k:Nat):1-2*((k:Int) % 2)=sgn k:=by
 unfold sgn
 split<;>omega
theorem QfP.small{m:Nat}{R L:List (Int×Int)}(hw:QfP m R L){i j:Nat}(hi:i<m)(hj:j<m):(Qdb m (QcA R L) i j).natAbs<=600:=by
 have g:=hw.good
 have gs:=QgH g.1 g.2.1
 rw[Qfn hi hj λs hs=>⟨(gs s hs).1,(gs s hs).2.1⟩]
 refine Zk (QfO i j _) ?_
 unfold QcA
 rw[Zt,Zt,Zx]
 omega
noncomputable def QvK(T:Nat->Nat->Int):Nat->Nat->Int:=λi j=>0-T i j
theorem QfP.big{m:Nat}{R L:List (Int×Int)}(hw:QfP m R L):∀j,j<m->∀r,r<m->(QvK (Qdb m (QcA R L)) j r).natAbs<=2^200:=λj hj r hr=>by
 have:=hw.small hj hr
 have:(600:Nat)<=2^200:=by decide
 unfold QvK
 omega
noncomputable def Qjm:DS:=(Qf (QH (QO (Q5 (Qa 0)) (.nm 1) [none,none,some 1] QR (dIf (QM (dOp gEq (Qa 1) (Qa 2))) (dC (.int 1)) (dC (.int 0))))) Qi)
def Qjz(d:Den):Prop:=∀(n p:Nat),n<=1000->d [.int n,.int p]=some (Qe n λi=>if i=p then 1 else 0,true)
theorem Qud:Qjz (Qq 2 Qjm):=λn p hn=>by
 refine Q1 (QE (r:=⟨Qe n λi=>if i=p then 1 else 0,true,[]⟩) (QL (toD:=λ(i:Nat)=> .int (i:Int)) (out:=λ(i:Nat)=> .int (if i=p then 1 else 0)) (List.range n) (Qac (n:=n) (r:=⟨.int n,true,[]⟩) rfl rfl (by omega)) rfl λi _=>⟨[none,some (.int i,true),some (.int p,true)],rfl,⟨.int (if i=p then 1 else 0),true,[]⟩,?_,rfl,rfl⟩) ⟨rfl,rfl⟩)
 unfold dIf
 rw[QI (Qa9 (a:=(i:Int)) (b:=(p:Int)) (ra:=⟨.int i,true,[]⟩) (rb:=⟨.int p,true,[]⟩) rfl rfl rfl rfl) rfl,Za]
 by_cases z:i=p
 ·rw[if_pos z,if_pos (by rw[z];simp)];rfl
 ·rw[if_neg z,if_neg (by simp;omega)];rfl
structure Alt (n:Nat) (φ:(Nat->Nat->Int)->Int):Prop where
 congr:∀{m k:Nat->Nat->Int},(∀j,j<n->∀r,r<n->m j r=k j r)->φ m=φ k
 lin:∀(m:Nat->Nat->Int) (c:Nat),c<n->∀(x y:Int) (a b:Nat->Int),φ (cup m c λr=>x*a r+y*b r)=x*φ (cup m c a)+y*φ (cup m c b)
 alt:∀{m:Nat->Nat->Int}{i j:Nat},i<n->j<n->i≠j->m i=m j->φ m=0
section
variable {n:Nat}{φ:(Nat->Nat->Int)->Int}{m:Nat->Nat->Int}
theorem Alt.add(h:Alt n φ){c:Nat}(hc:c<n)(a b:Nat->Int):φ (cup m c λr=>a r+b r)=φ (cup m c a)+φ (cup m c b):=by
 have:=h.lin m c hc 1 1 a b
 simpa only[ZQ]using this
theorem Alt.mul(h:Alt n φ){c:Nat}(hc:c<n)(x:Int)(a:Nat->Int):φ (cup m c λr=>x*a r)=x*φ (cup m c a):=by
 have:=h.lin m c hc x 0 a a
 simpa only[ZD,Zba]using this
theorem Alt.swap(h:Alt n φ){c d:Nat}(hc:c<n)(hd:d<n)(hcd:c≠d)(a b:Nat->Int):φ (cup (cup m c a) d b)= -φ (cup (cup m c b) d a):=by
 have z:=h.alt (m:=cup (cup m c λr=>a r+b r) d λr=>a r+b r) hc hd hcd (by rw[QC,Qv _ _ hcd,QC])
 have za:=h.alt (m:=cup (cup m c a) d a) hc hd hcd (by rw[QC,Qv _ _ hcd,QC])
 have zb:=h.alt (m:=cup (cup m c b) d b) hc hd hcd (by rw[QC,Qv _ _ hcd,QC])
 rw[h.add hd,QW _ _ _ hcd,h.add hc,QW _ _ _ hcd,h.add hc,QW _ _ _ (Ne.symm hcd),QW _ _ _ (Ne.symm hcd),QW _ _ _ (Ne.symm hcd),QW _ _ _ (Ne.symm hcd),za,zb]at z
 omega
theorem Alt.sum(h:Alt n φ){c:Nat}(hc:c<n)(x:Nat->Int)(E:Nat->Nat->Int):∀k,φ (cup m c λr=>sm k λs=>x s*E s r)=sm k λs=>x s*φ (cup m c (E s))
 | 0=>by
  have:=h.mul (m:=m) hc 0 λ_=>0
  rw[ZD]at this
  unfold sm
  simpa using this
 | k+1=>by
  unfold sm
  rw[h.add hc,h.sum hc x E k,h.mul hc]
theorem QoM(n:Nat):Alt n (det n):=⟨QJ,λm c hc x y a b=>Qel x y a b n m c hc a b,λhi hj hij e=>QeB hi hj hij e⟩
theorem QiA(h:Alt n φ):∀(g t:Nat) (σ:Nat->Nat),t+g=n->(∀j,j<t->σ j=j)->(∀j,j<n->σ j<n)->φ (λj=>Qy (σ j))=det n (λj=>Qy (σ j))*φ Qy
 | 0,t,σ,e,hp,hn=>by
  have h1:∀j,j<n->∀r,r<n->Qy (σ j) r=Qy j r:=λj hj r _=>by rw[hp j (by omega)]
  rw[h.congr h1,QJ h1,Qc2,ZQ]
 | g+1,t,σ,e,hp,hn=>by
  by_cases ht:σ t=t
  ·exact QiA h g (t+1) σ (by omega) (λj hj=>by
    by_cases z:j=t
    ·rw[z];exact ht
    ·exact hp j (by omega)) hn
  ·by_cases ex:∃i,i<n/\σ i=t
   ·obtain⟨i,hi,hs⟩:=ex
    have hti:t<i:=by
     rcases Nat.lt_trichotomy i t with z | z | z
     ·have:=hp i z;omega
     ·subst z;exact absurd hs ht
     ·exact z
    have hne:t≠i:=by omega
    have sw:∀{ψ:(Nat->Nat->Int)->Int},Alt n ψ->ψ (λj=>Qy (σ j))= -ψ (λj=>Qy (if j=t then σ i else if j=i then σ t else σ j)):=λ{ψ} hψ=>by
     have:=hψ.swap (m:=λj=>Qy (σ j)) (by omega) hi hne (Qy (σ t)) (Qy (σ i))
     have e1:cup (cup (λj=>Qy (σ j)) t (Qy (σ t))) i (Qy (σ i))=λj=>Qy (σ j):=by
      rw[QY (λj=>Qy (σ j)) t,QY (λj=>Qy (σ j)) i]
     have e2:cup (cup (λj=>Qy (σ j)) t (Qy (σ i))) i (Qy (σ t))=λj=>Qy (if j=t then σ i else if j=i then σ t else σ j):=by
      funext j
      by_cases z1:j=i
      ·subst z1;rw[QC,if_neg (Ne.symm hne),if_pos rfl]
      ·rw[Qv _ _ z1]
       by_cases z2:j=t
       ·subst z2;rw[QC,if_pos rfl]
       ·rw[Qv _ _ z2,if_neg z2,if_neg z1]
     rw[e1,e2]at this
     exact this
    rw[sw h,sw (QoM n),Zax]
    congr 1
    refine QiA h g (t+1) _ (by omega) (λj hj=>?_) (λj hj=>?_)
    ·by_cases z:j=t
     ·rw[if_pos z,hs,z]
     ·rw[if_neg z,if_neg (by omega)];exact hp j (by omega)
    ·split
     ·exact hn i hi
     ·split
      ·exact hn t (by omega)
      ·exact hn j hj
   ·obtain⟨k,hk⟩:∃k,n=k+1:=⟨n-1,by omega⟩
    obtain⟨i,j,hi,hj,hij,he⟩:=Qm9 (n:=k) (λj=>if σ j<t then σ j else σ j-1) λj hj=>by
     have h1:=hn j (by omega)
     have h2:σ j≠t:=λz=>ex ⟨j,by omega,z⟩
     split<;>omega
    have hs:σ i=σ j:=by
     have h1:σ i≠t:=λz=>ex ⟨i,by omega,z⟩
     have h2:σ j≠t:=λz=>ex ⟨j,by omega,z⟩
     split at he<;>split at he<;>omega
    have e1:(λj=>Qy (σ j)) i=(λj=>Qy (σ j)) j:=by show Qy (σ i)=Qy (σ j);rw[hs]
    rw[h.alt (by omega) (by omega) hij e1,(QoM n).alt (by omega) (by omega) hij e1,ZD]
theorem Qgm(h:Alt n φ)(m:Nat->Nat->Int):φ m=det n m*φ Qy:=by
 have key:∀k,k<=n->∀m:Nat->Nat->Int,(∃σ:Nat->Nat,∀j,k<=j->j<n->σ j<n/\m j=Qy (σ j))->φ m=det n m*φ Qy:=by
  intro k
  induction k with
  | zero=>
   rintro _ m ⟨σ,hσ⟩
   have h1:∀j,j<n->∀r,r<n->m j r=(λj=>Qy (σ j)) j r:=λj hj r _=>by rw[(hσ j (by omega) hj).2]
   rw[h.congr h1,QJ h1]
   exact QiA h n 0 σ (by omega) (λj hj=>by omega) λj hj=>(hσ j (by omega) hj).1
  | succ k ih=>
   rintro hk m ⟨σ,hσ⟩
   have hcol:∀j,j<n->∀r,r<n->m j r=cup m k (λr=>sm n λs=>m k s*Qy s r) j r:=λj hj r hr=>by
    by_cases z:j=k
    ·subst z
     rw[QC,Qdp hr λi _ ne=>by rw[show Qy i r=0 by unfold Qy;rw[if_neg ne],Zu],show Qy r r=1 by unfold Qy;rw[if_pos rfl],ZX]
    ·rw[Qv _ _ z]
   rw[h.congr hcol,QJ hcol,h.sum (by omega),QeY (by omega),← QkG]
   refine QaS λs hs=>?_
   rw[ZI]
   congr 1
   refine ih (by omega) _ ⟨λj=>if j=k then s else σ j,λj h1 h2=>?_⟩
   show(if j=k then s else σ j)<n/\cup m k (Qy s) j=Qy (if j=k then s else σ j)
   by_cases z:j=k
   ·subst z;rw[if_pos rfl,QC];exact⟨hs,rfl⟩
   ·rw[if_neg z,Qv _ _ z];exact hσ j (by omega) h2
 exact key n (Zi n) m ⟨id,λj h1 h2=>by omega⟩
end
theorem QtK(n:Nat)(x E:Nat->Nat->Int):det n (λj r=>sm n λs=>x j s*E s r)=det n x*det n E:=by
 have h:Alt n λx=>det n λj r=>sm n λs=>x j s*E s r:=by
  have hcup:∀(m:Nat->Nat->Int) (c:Nat) (a:Nat->Int),(λj r=>sm n λs=>cup m c a j s*E s r)=cup (λj r=>sm n λs=>m j s*E s r) c λr=>sm n λs=>a s*E s r:=λm c a=>by
   funext j r
   by_cases z:j=c
   ·subst z;rw[QC,QC]
   ·rw[Qv _ _ z,Qv _ _ z]
  refine⟨λhm=>QJ λj hj r hr=>QaS λs hs=>by rw[hm j hj s hs],λm c hc x y a b=>?_,λ{m i j} hi hj hij e=>QeB hi hj hij (by funext r;rw[e])⟩
  rw[hcup,hcup,hcup,← Qel x y (λr=>sm n λs=>a s*E s r) (λr=>sm n λs=>b s*E s r) n _ c hc]
  congr 2
  funext r
  rw[← QhG]
  exact QaS λs hs=>by rw[ZV,ZI,ZI]
 have:=Qgm h x
 rw[this]
 congr 1
 refine QJ λj hj r hr=>?_
 rw[Qdp hj λs _ ne=>by rw[show Qy j s=0 by unfold Qy;rw[if_neg (Ne.symm ne)],ZD],show Qy j j=1 by unfold Qy;rw[if_pos rfl],ZQ]
noncomputable def rup(m:Nat->Nat->Int)(c:Nat)(a:Nat->Int):Nat->Nat->Int:=λj r=>if r=c then a j else m j r
theorem QoJ(x y:Int):∀(n:Nat) (m:Nat->Nat->Int) (c:Nat),c<n->∀(a b:Nat->Int),det n (rup m c λj=>x*a j+y*b j)=x*det n (rup m c a)+y*det n (rup m c b)
 | 0,_,_,h,_,_=>by omega
 | n+1,m,c,h,a,b=>by
  unfold det
  rw[← QhG]
  refine QaS λj hj=>?_
  cases c with
  | zero=>
   have e:∀a:Nat->Int,(λc' r=>rup m 0 a (skp j c') (r+1))=λc' r=>m (skp j c') (r+1):=λa=>by
    funext c' r
    unfold rup
    rw[if_neg (by omega)]
   rw[e,e,e]
   unfold rup
   simp only[if_pos]
   generalize det n _=q
   generalize sgn j=s
   simp only[Zas,ZV,ZI,ZK]
  | succ c=>
   have e:∀a:Nat->Int,(λc' r=>rup m (c+1) a (skp j c') (r+1))=rup (λc' r=>m (skp j c') (r+1)) c λc'=>a (skp j c'):=λa=>by
    funext c' r
    unfold rup
    by_cases z:r=c
    ·rw[if_pos (by omega),if_pos z]
    ·rw[if_neg (by omega),if_neg z]
   rw[e,e,e,QoJ x y n _ c (by omega) (λc'=>a (skp j c')) λc'=>b (skp j c')]
   have e0:∀a:Nat->Int,rup m (c+1) a j 0=m j 0:=λa=>by unfold rup;rw[if_neg (by omega)]
   rw[e0,e0,e0]
   generalize det n _=q
   generalize det n _=q'
   generalize sgn j*m j 0=s
   simp only[Zas,ZK]
noncomputable def trp(a b r:Nat):Nat:=if r=a then b else if r=b then a else r
theorem QtH{n:Nat}(m:Nat->Nat->Int){a b:Nat}(ha:a<n)(hb:b<n)(hab:a≠b):det n (λj r=>m j (trp a b r))= -det n m:=by
 have tb:∀r,r<n->trp a b r<n:=λr hr=>by
  unfold trp
  split
  ·exact hb
  ·split
   ·exact ha
   ·exact hr
 have h:Alt n λm=>det n λj r=>m j (trp a b r):=by
  have hcup:∀(m:Nat->Nat->Int) (c:Nat) (v:Nat->Int),(λj r=>cup m c v j (trp a b r))=cup (λj r=>m j (trp a b r)) c λr=>v (trp a b r):=λm c v=>by
   funext j r
   by_cases z:j=c
   ·subst z;rw[QC,QC]
   ·rw[Qv _ _ z,Qv _ _ z]
  refine⟨λhm=>QJ λj hj r hr=>hm j hj _ (tb r hr),λm c hc x y v w=>?_,λ{m i j} hi hj hij e=>QeB hi hj hij (by funext r;rw[e])⟩
  rw[hcup,hcup,hcup,← Qel x y (λr=>v (trp a b r)) (λr=>w (trp a b r)) n _ c hc]
 have e:=Qgm h m
 rw[e]
 have u:det n (λj r=>Qy j (trp a b r))= -1:=by
  have e1:=Qbu (m:=Qy) ha hb hab (Qy b) (Qy a)
  rw[show cup (cup Qy a (Qy a)) b (Qy b)=Qy by rw[QY,QY],Qc2]at e1
  rw[← e1]
  refine QJ λj hj r hr=>?_
  by_cases z1:j=b
  ·subst z1
   rw[QC]
   unfold Qy trp
   by_cases q1:r=a
   ·rw[if_pos q1,if_pos rfl,if_pos q1.symm]
   ·rw[if_neg q1]
    by_cases q2:r=j
    ·rw[if_pos q2,if_neg (Ne.symm hab),if_neg (by omega)]
    ·rw[if_neg q2,if_neg (λz=>q2 z.symm),if_neg (λz=>q1 z.symm)]
  ·rw[Qv _ _ z1]
   by_cases z2:j=a
   ·subst z2
    rw[QC]
    unfold Qy trp
    by_cases q1:r=j
    ·rw[if_pos q1,if_neg hab,if_neg (by omega)]
    ·rw[if_neg q1]
     by_cases q2:r=b
     ·rw[if_pos q2,if_pos rfl,if_pos q2.symm]
     ·rw[if_neg q2,if_neg (λz=>q1 z.symm),if_neg (λz=>q2 z.symm)]
   ·rw[Qv _ _ z2]
    unfold Qy trp
    by_cases q1:r=a
    ·rw[if_pos q1,if_neg z1,if_neg (by omega)]
    ·rw[if_neg q1]
     by_cases q2:r=b
     ·rw[if_pos q2,if_neg z2,if_neg (by omega)]
     ·rw[if_neg q2]
 rw[u];omega
theorem Qwd{n:Nat}{m:Nat->Nat->Int}{a b:Nat}(ha:a<n)(hb:b<n)(hab:a≠b)(e:∀j,j<n->m j a=m j b):det n m=0:=by
 have h:=QtH m ha hb hab
 have:det n (λj r=>m j (trp a b r))=det n m:=QJ λj hj r hr=>by
  unfold trp
  split
  ·rename_i z;rw[z];exact(e j hj).symm
  ·split
   ·rename_i z;rw[z];exact e j hj
   ·rfl
 omega
theorem QgI(n:Nat)(m:Nat->Nat->Int):det n (λj r=>m r j)=det n m:=by
 have h:Alt n λm=>det n λj r=>m r j:=by
  have hcup:∀(m:Nat->Nat->Int) (c:Nat) (v:Nat->Int),(λj r=>cup m c v r j)=rup (λj r=>m r j) c v:=λm c v=>by
   funext j r
   unfold rup
   by_cases z:r=c
   ·subst z;rw[QC,if_pos rfl]
   ·rw[Qv _ _ z,if_neg z]
  refine⟨λhm=>QJ λj hj r hr=>hm r hr j hj,λm c hc x y v w=>?_,λ{m i j} hi hj hij e=>Qwd hi hj hij λk _=>by rw[e]⟩
  rw[hcup,hcup,hcup,QoJ x y n _ c hc v w]
 have e:=Qgm h m
 rw[e,QJ (m:=λj r=>Qy r j) (k:=Qy) λj _ r _=>by
  unfold Qy
  by_cases z:r=j
  ·rw[if_pos z,if_pos z.symm]
  ·rw[if_neg z,if_neg (Ne.symm z)],Qc2,ZX]
noncomputable def dia(m:Nat->Nat->Int):Nat->Int
 | 0=>1
 | n+1=>m 0 0*dia (λj r=>m (j+1) (r+1)) n
theorem QgD:∀(n:Nat) (m:Nat->Nat->Int),(∀j r,j<n->r<n->r<j->m j r=0)->det n m=dia m n
 | 0,m,_=>rfl
 | n+1,m,h=>by
  unfold det dia
  rw[Qdp (c:=0) (by omega) λj hj ne=>by rw[h j 0 hj (by omega) (by omega),Zu,ZD]]
  have e:(λc r=>m (skp 0 c) (r+1))=λc r=>m (c+1) (r+1):=by
   funext c r
   unfold skp
   rw[if_neg (by omega)]
  rw[e,QgD n _ λj r hj hr hjr=>h (j+1) (r+1) (by omega) (by omega) (by omega)]
  unfold sgn
  simp
end HS
namespace HS
open PySem L2
theorem Qyf{g1 g2:DT}{ρ:En}(h:g1 ρ=some true):bOr g1 g2 ρ=some true:=by unfold bOr;rw[h];rfl
noncomputable def Qdl(f:Nat->Nat->Int)(k:Nat)(p:Nat->Int)(i:Nat)(q:Nat->Int):Nat->Nat->Int:=λl j=>if l=i then q j else if l=k then p j else f l j
theorem Qc9{n N k:Nat}{g:Nat->Nat->Int}{p:Nat->Int}(hk:k<n):((List.range n).map λi=>Qe N (g i)).set k (Qe N p)=(List.range n).map λi=>Qe N (λj=>if i=k then p j else g i j):=by
 refine ZaT λi=>?_
 rw[ZbC]
 by_cases h:k=i
 ·subst h
  rw[if_pos rfl,if_pos (by simpa using hk),Zl,ZG hk]
  simp
 ·rw[if_neg h,Zl,Zl]
  by_cases h2:i<n
  ·rw[ZG h2]
   simp only[ZY,if_neg (Ne.symm h)]
  ·rw[Zs (by simpa using h2)];rfl
theorem Qu2{x n N k i:Nat}{f:Nat->Nat->Int}{p q:Nat->Int}{fy f1 g1 f2 g2:DE}{ρ:En}{by' b1 b2:Bool}{Q:Out->Prop}(hx:x<ρ.length)(ey:fy (ρ.set x none)=some ⟨Qc n N f,by',[]⟩)(e1:f1 (ρ.set x none)=some ⟨.int k,true,[]⟩)(e2:g1 (ρ.set x none)=some ⟨Qe N p,b1,[]⟩)(e3:f2 (ρ.set x none)=some ⟨.int i,true,[]⟩)(e4:g2 (ρ.set x none)=some ⟨Qe N q,b2,[]⟩)(hk:k<n)(hi:i<n)
  (h:Q (.nx ((ρ.set x none).set x (some (Qc n N (Qdl f k p i q),false))))):Run (QiE x fy f1 g1 f2 g2) ρ Q:=by
 refine⟨_,?_,h⟩
 unfold QiE QpB
 rw[if_pos (by simpa using hx),ey,Za]
 simp only[Qc,e1,e2,e3,e4,Za,Zx,Zo]
 rw[Qcf (show(0:Int)<=k by omega) (by omega),Qcf (show(0:Int)<=i by omega) (by omega)]
 simp only[Za,ZC,Qc9 hk]
 rw[Qc9 hi]
 rfl
noncomputable def Qge(Qc7:Den):DS:=(Qf (Qu 2 (QO (Qea (Qa 1) (dBf Qat (Qd (Qa 0) Qg))) (.nm 1) [none,none,some 1,some 0] (QM (dOp gNe (Ql (Ql (Qa 3) (Qa 1)) (Qa 2)) (dC (.int 0)))) (Qa 1))) (Qf (sIf (bOr (QdW (QM (Qa 2))) (QM (dOp gEq (Ql (Qa 2) (dC (.int 0))) (Qa 1)))) (Qf (QH (Qa 0)) Qi) Qi) (Qf (QiE 3 (Qa 0) (Qa 1) (Ql (Qa 0) (Ql (Qa 2) (dC (.int 0)))) (Ql (Qa 2) (dC (.int 0))) (Qk 1 Qc7 [] (Qd (Ql (Qa 0) (Qa 1)) Qg))) (Qf (QH (Qa 3)) Qi))))
def Qi6(d:Den):Prop:=∀(n N k:Nat) (f:Nat->Nat->Int),k<n->n<=1000->k<N->∃g,d [Qc n N f,.int k]=some (Qc n N g,false)∧
 ((g=f/\(f k k=0->∀i,k<=i->i<n->f i k=0))∨∃i,k<i/\i<n/\f i k≠0/\g=Qdl f k (f i) i λj=>0-f k j)
theorem Qrb{dop:Den}(ho:QpG dop):Qi6 (Qq 4 (Qge dop)):=λn N k f hk hn kN=>by
 have eI:=QkP (fi:=Qea (Qa 1) (dBf Qat (Qd (Qa 0) Qg))) (t:= .nm 1) (cap:=[none,none,some 1,some 0]) (ft:=QM (dOp gNe (Ql (Ql (Qa 3) (Qa 1)) (Qa 2)) (dC (.int 0)))) (fe:=Qa 1) (ρ:=[some (Qc n N f,false),some (.int k,true),none,none])
  (toD:=λ(i:Nat)=> .int ((k:Int)+i)) (keep:=λi=> !decide (f (k+i) k=0)) (out:=λ(i:Nat)=> .int ((k:Int)+i)) (List.range (n-k)) (Qlq (i:=k) (j:=n) (n:=n-k) (ra:=⟨.int k,true,[]⟩) rfl rfl (QaH (n:=n) (m:=N) (f:=f) (r:=⟨Qc n N f,false,[]⟩) rfl rfl) rfl (by omega) (by omega) (by omega) (by omega)) rfl λi hi=>⟨[none,some (.int ((k:Int)+i),true),some (.int k,true),some (Qc n N f,false)],rfl,by
   have hi':=Zr.mp hi
   refine QI (QbQ (a:=f (k+i) k) (b:=0) (Qam (m:=N) (f:=f (k+i)) (i:=k) ((Qcg (m:=n) (n:=N) (f:=f) (i:=(k:Int)+i) (ra:=⟨Qc n N f,false,[]⟩) (rb:=⟨.int ((k:Int)+i),true,[]⟩) rfl rfl rfl rfl (by omega) (by omega)).trans (by rw[show((k:Int)+i).toNat=k+i by omega])) rfl (rb:=⟨.int k,true,[]⟩) rfl rfl kN) rfl rfl rfl) rfl,λ_=>⟨⟨.int ((k:Int)+i),true,[]⟩,rfl,rfl,rfl⟩⟩
 have hmem:∀i,i∈(List.range (n-k)).filter (λi=> !decide (f (k+i) k=0))↔i<n-k/\f (k+i) k≠0:=λi=>by simp
 have hfst:∀i,f (k+i) k≠0->i<n-k->∀a l,(List.range (n-k)).filter (λi=> !decide (f (k+i) k=0))=a::l->f k k≠0->a=0:=λi _ hi a l e h0=>by
  have hr:List.range (n-k)=0::(List.range (n-k-1)).map (· +1):=by
   rw[show n-k=(n-k-1)+1 by omega,ZaO];rfl
  rw[hr,List.filter_cons,if_pos (by show(!decide (f (k+0) k=0))=true;rw[Nat.add_zero,decide_eq_false h0];rfl)]at e
  exact(List.cons.inj e).1.symm
 generalize (List.range (n-k)).filter (λi=> !decide (f (k+i) k=0))=xs at eI hmem hfst
 cases xs with
 | nil=>
  refine⟨f,?_,.inl ⟨rfl,λ_ i h1 h2=>?_⟩⟩
  ·refine Q1 ?_
   refine run_seq (Qh eI ?_)
   rw[Qn]
   refine Qw (QZ (b:=true) ((Qyf (Qc3 (b:=false) (show QM (Qa 2) _=some false from rfl)))) (λ_=>?_) (λh=>by cases h))
   exact Qw (QaY (r:=⟨Qc n N f,false,[]⟩) rfl ⟨rfl,rfl⟩)
  ·by_cases z:f i k=0
   ·exact z
   ·have:=(hmem (i-k)).mpr ⟨by omega,by rw[show k+(i-k)=i by omega];exact z⟩
    simp at this
 | cons a l=>
  obtain⟨ha,hz⟩:=(hmem a).mp Zq
  have eidx:∀ρ:En,ρ[2]? =some (some (.lst ((a::l).map λ(i:Nat)=>D.int ((k:Int)+i)),true))->Ql (Qa 2) (dC (.int 0)) ρ=some ⟨.int ((k:Int)+a),true,[]⟩:=λρ hρ=>by
   unfold Ql
   rw[show Qa 2 ρ=some ⟨.lst ((a::l).map λ(i:Nat)=>D.int ((k:Int)+i)),true,[2]⟩ by unfold Qa;rw[hρ];rfl,Za,show dC (.int 0) ρ=some ⟨.int 0,true,[]⟩from rfl,Za]
   dsimp only
   simp only[D.items,ZL,Za]
   rw[Qh2 (show(0:Int)<=0 by decide) (by simp)]
   rfl
  by_cases h0:a=0
  ·subst h0
   refine⟨f,?_,.inl ⟨rfl,λz=>absurd z (by simpa using hz)⟩⟩
   refine Q1 ?_
   refine run_seq (Qh eI ?_)
   rw[Qn]
   refine Qw (QZ (b:=true) ((Qd1 (a:=false) (b:=true) (Qc3 (b:=true) (show QM (Qa 2) _=some true from rfl)) (QI (b:=true) (Qa9 (a:=k) (b:=k) (ra:=⟨.int k,true,[]⟩) ?_ rfl (rb:=⟨.int k,true,[]⟩) rfl rfl) (by simp))).trans rfl) (λ_=>?_) (λh=>by cases h))
   ·rw[eidx _ rfl]
    show some (HS.R.mk (.int ((k:Int)+(0:Nat))) true [])=_
    rw[show(k:Int)+(0:Nat)=k by omega]
   ·exact Qw (QaY (r:=⟨Qc n N f,false,[]⟩) rfl ⟨rfl,rfl⟩)
  ·have hkk:f k k=0:=by
    by_cases z:f k k=0
    ·exact z
    ·exact absurd (hfst a hz ha a l rfl z) h0
   refine⟨_,?_,.inr ⟨k+a,by omega,by omega,hz,rfl⟩⟩
   refine Q1 ?_
   refine run_seq (Qh eI ?_)
   rw[Qn]
   refine Qw (QZ (b:=false) ((Qd1 (a:=false) (b:=false) (Qc3 (show QM (Qa 2) _=some true from rfl)) (QI (Qa9 (eidx _ rfl) rfl rfl rfl) ?_)).trans rfl) (λh=>by cases h) (λ_=>Qr ?_))
   ·show D.bl _=_
    rw[decide_eq_false (by omega)]
   refine run_seq (Qu2 (i:=k+a) (p:=f (k+a)) (q:=λj=>0-f k j) (by':=false) (b1:=false) (b2:=true) (show 3<4 by decide) rfl rfl ?_ ?_ ?_ hk (by omega) ?_)
   ·exact(Qcg rfl rfl (eidx _ rfl) rfl (by omega) (by omega)).trans (by rw[show((k:Int)+a).toNat=k+a by omega])
   ·exact(eidx _ rfl).trans (by rw[show((k+a:Nat):Int)=(k:Int)+a by simp])
   ·exact Qm (r:=⟨[Qe N (f k)],false,[]⟩) (Qs ((Qcg (i:=k) (ra:=⟨Qc n N f,false,[]⟩) rfl rfl rfl rfl (by omega) (by omega)).trans (by rw[ZC])) (QP _)) (ho N (f k)) rfl
   ·exact Qw (QaY rfl ⟨rfl,rfl⟩)
def Qpc(n:Nat)(m:Nat->Nat->Int):Prop:=∀j,j<n->∀r,r<n->(m j r).natAbs<=2^240
theorem Qjy{n:Nat}(hn:n<=8):bnd (2^240) n<2^2000:=by
 have h:∀k,k<9->bnd (2^240) k<2^2000:=by decide+kernel
 exact h n (by omega)
theorem Qpc.put{n:Nat}{m:Nat->Nat->Int}(h:Qpc n m){i:Nat}{a:Nat->Int}(ha:∀r,r<n->(a r).natAbs<=2^240):Qpc n (cup m i a):=λj hj r hr=>by
 by_cases e:j=i
 ·subst e;rw[QC];exact ha r hr
 ·rw[Qv _ _ e];exact h j hj r hr
structure QcR (n N k:Nat) (A m R:Nat->Nat->Int) (d:Int):Prop where
 clr:Clr n N k A m R d
 col:Qpc n m
theorem QcR.start(n N:Nat)(A:Nat->Nat->Int):QcR n N 0 A Qy (λi j=>A j i) 1:=⟨Clr.start n N A,λj _ r _=>by unfold Qy;split<;>decide⟩
theorem QcR.small{n N k:Nat}{A m R:Nat->Nat->Int}{d:Int}(h:QcR n N k A m R d)(hn:n<=8)(hA:∀j,j<N->∀r,r<n->(A j r).natAbs<=2^240):d.natAbs<2^2000/\∀i j,i<n->j<N->(R i j).natAbs<2^2000:=by
 have b:=Qjy hn
 refine⟨?_,λi j hi hj=>?_⟩
 ·rw[← h.clr.det];exact ZW (QdM h.col) b
 ·rw[h.clr.ent i j hi hj];exact ZW (QdM (h.col.put (hA j hj))) b
theorem QcR.step{n N k:Nat}{A m R R':Nat->Nat->Int}{d:Int}(h:QcR n N k A m R d)(hk:k<n)(kN:k<N)(hA:∀j,j<N->∀r,r<n->(A j r).natAbs<=2^240)(hp:R k k≠0)(h1:∀j,j<N->R' k j=R k j)(h2:∀i j,i<n->i≠k->j<N->∀q,R k k*R i j-R i k*R k j=d*q->R' i j=q):QcR n N (k+1) A (cup m k (A k)) R' (R k k):=
 ⟨h.clr.step hk kN hp h1 h2,h.col.put (hA k kN)⟩
theorem QcR.swap{n N k:Nat}{A m R:Nat->Nat->Int}{d:Int}(h:QcR n N k A m R d){i:Nat}(hk:k<n)(hi:i<n)(hki:k<i):∃m',QcR n N k A m' (Qdl R k (R i) i λj=>0-R k j) d:=by
 have ne:k≠i:=by omega
 have neg:∀(c:Nat),c<n->∀(M:Nat->Nat->Int) (a:Nat->Int),HS.det n (cup M c λr=> -a r)= -HS.det n (cup M c a):=λc hc M a=>by
  have:=Qer (m:=M) hc (-1) a
  simpa only[Zax,ZQ]using this
 obtain⟨c1,c2⟩:=h
 refine⟨cup (cup m k (m i)) i λr=> -m k r,⟨c1.le,?_,c1.nz,λl j hl hj=>?_,λj hj=>?_⟩,λj hj r hr=>?_⟩
 ·rw[neg i hi,Qbu hk hi ne,Zbu,QY,QY];exact c1.det
 ·unfold Qdl
  by_cases e2:l=i
  ·subst e2
   rw[if_pos rfl]
   show 0-R k j=_
   rw[c1.ent k j hk hj,Qgh,Qbu hk hl ne,QW _ _ _ ne]
   have:=QY m l
   rw[this];omega
  ·rw[if_neg e2]
   by_cases e1:l=k
   ·subst e1
    rw[if_pos rfl,c1.ent i j hi hj,QW _ _ _ (Ne.symm ne),Qgh,neg i hi,Qbu hl hi ne,Zbu,QY]
   ·rw[if_neg e1,c1.ent l j hl hj,QW _ _ _ (Ne.symm e2),neg i hi,QW _ _ _ (Ne.symm e1),Qbu hk hi ne,Zbu]
    rw[QW _ _ _ e1,QY,QW _ _ _ e2,QY]
 ·rw[Qv _ _ (by omega),Qv _ _ (by omega)];exact c1.own j hj
 ·by_cases e1:j=i
  ·subst e1;rw[QC,Int.natAbs_neg];exact c2 k hk r hr
  ·rw[Qv _ _ e1]
   by_cases e2:j=k
   ·subst e2;rw[QC];exact c2 i hi r hr
   ·rw[Qv _ _ e2];exact c2 j hj r hr
theorem Clr.stuck{n N k:Nat}{A m R:Nat->Nat->Int}{d:Int}(h:Clr n N k A m R d)(hk:k<n)(kN:k<N)(hz:∀i,k<=i->i<n->R i k=0):HS.det n A=0:=by
 have t:∀r,r<n->d*A k r=sm k λl=>R l k*A l r:=λr hr=>by
  rw[h.tell kN hr,QmJ (k:=k) (by omega) λl h1 h2=>by rw[hz l h1 h2,ZD]]
  exact QaS λl hl=>by rw[h.own l hl]
 have e:d*HS.det n A=0:=by
  have e1:HS.det n (cup A k λr=>d*A k r)=d*HS.det n A:=by rw[Qer hk,QY]
  rw[← e1]
  have e2:HS.det n (cup A k λr=>d*A k r)=HS.det n (cup A k λr=>sm k λl=>R l k*A l r):=QJ λj hj r hr=>by
   by_cases q:j=k
   ·subst q;rw[QC,QC];exact t r hr
   ·rw[Qv _ _ q,Qv _ _ q]
  rw[e2,QeY hk (λl=>R l k) A k]
  exact QhV λi hi=>by rw[QeB (show i<n by omega) hk (by omega) (by rw[QC,Qv _ _ (by omega)]),Zu]
 rcases Int.mul_eq_zero.mp e with z | z
 ·exact absurd z h.nz
 ·exact z
theorem Clr.all{n N:Nat}{A m R:Nat->Nat->Int}{d:Int}(h:Clr n N n A m R d):d=HS.det n A:=by
 rw[← h.det]
 exact QJ λj hj r _=>by rw[h.own j hj]
def QgJ(d:Den):Prop:=∀(n N:Nat) (A:Nat->Nat->Int),n<=8->n<=N->(∀j,j<N->∀r,r<n->(A j r).natAbs<=2^240)->∃R,d [Qc n N (λi j=>A j i)]=some (.tup [Qc n N R,.int (det n A)],false)/\(det n A≠0->∃m,QcR n N n A m R (det n A))
theorem Qog{dp dt:Den}(hp:Qi6 dp)(ht:QkR dt):QgJ (Qq 5 (QfM dp dt)):=λn N A n8 hN hA=>by
 have key:Run (QfM dp dt) [some (Qc n N (λi j=>A j i),false),none,none,none,none] λo=>match o with | .rt d fr=>fr=false/\∃R,d= .tup [Qc n N R,.int (det n A)]/\(det n A≠0->∃m,QcR n N n A m R (det n A)) | _=>False:=by
  refine run_seq (Qh (QaT rfl) ?_)
  refine run_seq (Qh rfl ?_)
  rw[Qn]
  refine Qw (Qaj (List.range n) (λk ρ=>∃m R b j3 j4,QcR n N k A m R b/\ρ=[some (Qc n N (λi j=>A j i),false),some (Qc n N R,false),some (.int b,true),j3,j4]) (Qac (QaH rfl rfl) rfl (by omega)) rfl ⟨_,_,_,none,none,QcR.start n N A,rfl⟩ ?_ ?_)
  ·rintro k k' ρ hk ⟨m0,R0,b,j3,j4,C0,rfl⟩
   have hk':k<n/\k=k':=by
    obtain⟨h1,h2⟩:=Zd.mp hk
    simp at h1 h2;exact⟨h1,h2⟩
   obtain⟨hkn,rfl⟩:=hk'
   have kN:k<N:=by omega
   obtain⟨R,ep,hR⟩:=hp n N k R0 hkn (by omega) kN
   have hC:∃m,QcR n N k A m R b/\(R k k=0->det n A=0):=by
    rcases hR with⟨rfl,hz⟩ | ⟨i,h1,h2,h3,rfl⟩
    ·exact⟨m0,C0,λz=>C0.clr.stuck hkn kN (hz z)⟩
    ·obtain⟨m',C'⟩:=C0.swap hkn h2 h1
     refine⟨m',C',λz=>absurd z ?_⟩
     unfold Qdl
     rw[if_neg (by omega),if_pos rfl]
     exact h3
   obtain⟨m,C,hzero⟩:=hC
   obtain⟨sb,sR⟩:=C.small n8 hA
   refine⟨[some (Qc n N (λi j=>A j i),false),some (Qc n N R0,false),some (.int b,true),some (.int k,true),j4],rfl,?_⟩
   refine run_seq (Qh (r:=⟨Qc n N R,false,[]⟩) ((Qi9 (r:=⟨[Qc n N R0,.int k],false,[]⟩) rfl ep rfl).trans rfl) ?_)
   refine run_seq (Qh ((QaT (Qcg rfl rfl rfl rfl (by omega) (by omega))).trans rfl) ?_)
   refine Qw (QZ (QI (Qa9 (Qam rfl rfl rfl rfl kN) rfl rfl rfl) rfl) (λh=>?_) (λh=>Qr ?_))
   ·have dz:=hzero (of_decide_eq_true h)
    refine Qw (QaY rfl ?_)
    exact⟨rfl,R,by rw[dz],λz=>absurd dz z⟩
   have pv:R k k≠0:=of_decide_eq_false h
   have ex:∀i j,∃q,i<n->i≠k->j<N->R k k*R i j-R i k*R k j=b*q:=λi j=>by
    by_cases h:i<n/\i≠k/\j<N
    ·exact⟨_,λh1 h2 h3=>C.clr.exact hkn kN h1 h3 h2⟩
    ·exact⟨0,λh1 h2 h3=>absurd ⟨h1,h2,h3⟩ h⟩
   have zz:∀j,R k k*R k j-R k k*R k j=b*0:=λj=>by rw[Zby,Zu]
   have eT:∀i,i<n->dt [Qe N (R i),Qe N (R k),.int k,.int b]=some (Qe N (λj=>if i=k then 0 else(ex i j).choose),true):=λi hi=>
    ht N k (R i) (R k) _ b kN C.clr.nz sb (λj hj=>⟨sR i j hi hj,sR k j hkn hj⟩) λj hj=>by
     by_cases e:i=k
     ·rw[if_pos e,e];exact zz j
     ·rw[if_neg e];exact(ex i j).choose_spec hi e hj
   refine run_seq (Qh (QL (List.range n) (Qag rfl rfl) rfl λi hi=>⟨[none,some (Qe N (R i),false),some (.int k,true),some (.int b,true),some (Qe N (R k),false)],rfl,⟨Qe N (λj=>if i=k then 0 else(ex i j).choose),true,[]⟩,Qm rfl (eT i (Zr.mp hi)) rfl,rfl,rfl⟩) ?_)
   rw[Qn]
   refine run_seq (Qp6 rfl rfl rfl hkn ?_)
   refine run_seq (Qh ((QaT (Qam rfl rfl rfl rfl kN)).trans rfl) (Qr ?_))
   rw[Qbt rfl]
   refine⟨_,_,_,_,_,C.step (R':=λi j=>if i=k then R k j else(λi j=>if i=k then 0 else(ex i j).choose) i j) hkn kN hA pv (λj _=>by show(if k=k then R k j else _)=_;rw[if_pos rfl]) (λi j hi ne hj q hq=>?_),rfl⟩
   show(if i=k then R k j else if i=k then 0 else(ex i j).choose)=q
   rw[if_neg ne,if_neg ne]
   exact Zav C.clr.nz (((ex i j).choose_spec hi ne hj).symm.trans hq)
  ·rintro ρ ⟨m,R,b,j3,j4,C,rfl⟩
   rw[Zo]at C
   have hb:=C.clr.all
   subst hb
   exact QE rfl ⟨rfl,R,rfl,λ_=>⟨m,C⟩⟩
 obtain⟨o,h1,h2⟩:=key
 cases o with
 | rt d fr=>
  obtain⟨rfl,R,rfl,C⟩:=h2
  exact⟨R,by show Option.bind (QfM dp dt [some (Qc n N (λi j=>A j i),false),none,none,none,none]) outD=_;rw[h1];rfl,C⟩
 | _=>exact h2.elim
def QdL(N:Nat)(d:Den):Prop:=∀(n:Nat) (A:Nat->Nat->Int),1<=n->n<=N->n<=8->(∀j,j<n->∀r,r<n->(A j r).natAbs<=2^240)->d [Qc n n A]=some (.int (det n A),true)
theorem Qu8:QdL 0 (λ_=>none):=λn A h1 h2=>by omega
set_option maxHeartbeats 0 in
theorem QeT{N:Nat}{d:Den}(ih:QdL N d):QdL (N+1) (Qq 4 (Qb9 d)):=λn A h1 hN h8 hA=>by
 have len:∀{ρ:En},ρ[0]? =some (some (Qc n n A,false))->dBf Qat (Qd (Qa 0) Qg) ρ=some ⟨.int n,true,[]⟩:=λ{ρ} h=>QaH (n:=n) (m:=n) (f:=A) (Qhc h) rfl
 have entry:∀{ρ:En}{fk:DE}{k:Nat},ρ[0]? =some (some (Qc n n A,false))->fk ρ=some ⟨.int k,true,[]⟩->k<n->Ql (Ql (Qa 0) fk) (dC (.int 0)) ρ=some ⟨.int (A k 0),true,[]⟩:=λ{ρ fk k} h hk hkn=>Qam (m:=n) (f:=A k) (i:=0) (Qcg (m:=n) (n:=n) (f:=A) (i:=k) (Qhc h) rfl hk rfl (by omega) (by omega)) rfl (QU _ _) rfl (by omega)
 refine Q1 ?_
 refine Qw (QZ (QI (Qa9 (a:=n) (b:=1) (len rfl) rfl (QU _ _) rfl) rfl) (λh=>?_) (λh=>Qr ?_))
 ·have e:n=1:=by have:=of_decide_eq_true h;omega
  subst e
  refine Qw (QaY (entry (k:=0) rfl (QU _ _) (by decide)) ⟨?_,rfl⟩)
  show D.int (A 0 0)= .int (sm 1 λj=>sgn j*A j 0*1)
  congr 1
  show A 0 0=0+1*A 0 0*1
  omega
 have n2:2<=n:=by have:=of_decide_eq_false h;omega
 obtain⟨p,rfl⟩:∃p,n=p+1:=⟨n-1,by omega⟩
 refine run_seq (Qh (r:=⟨.int 0,true,[]⟩) rfl ?_)
 rw[Qn]
 refine Q0 (P:=λρ=>∃j2 j3,ρ=[some (Qc (p+1) (p+1) A,false),some (.int (det (p+1) A),true),j2,j3]) ?_ ?_
 ·refine Qaj (toD:=λ(k:Nat)=> .int (k:Int)) (List.range (p+1)) (λi ρ=>∃j2 j3,ρ=[some (Qc (p+1) (p+1) A,false),some (.int (sm i λj=>sgn j*A j 0*det p λc r=>A (skp j c) (r+1)),true),j2,j3]) (Qac (n:=p+1) (len rfl) rfl (by omega)) rfl ⟨none,none,rfl⟩ ?_ ?_
  ·rintro k k' ρ hk ⟨j2,j3,rfl⟩
   have hk':k<p+1/\k=k':=by
    obtain⟨h1,h2⟩:=Zd.mp hk
    simp at h1 h2;exact⟨h1,h2⟩
   obtain⟨hkp,rfl⟩:=hk'
   have bm:(det p λc r=>A (skp k c) (r+1)).natAbs<2^2000:=ZW (QdM λc hc r hr=>hA (skp k c) (by unfold skp;split<;>omega) (r+1) (by omega)) (Qjy (by omega))
   refine⟨_,rfl,?_⟩
   refine run_seq (QZ (QI (QbQ (a:=A k 0) (b:=0) (entry (k:=k) rfl rfl hkp) rfl (QU _ _) rfl) rfl) (λh=>?_) (λh=>?_))
   ·obtain⟨r1,q1,d1⟩:=Qsg (fa:=Qa 0) (fb:=Qa 2) (ρ:=[some (Qc (p+1) (p+1) A,false),some (.int (sm k λj=>sgn j*A j 0*det p λc r=>A (skp j c) (r+1)),true),some (.int k,true),j3]) (ra:=⟨Qc (p+1) (p+1) A,false,[]⟩) (xs:=(List.range (p+1)).map λi=>Qe (p+1) (A i)) (n:=k) rfl rfl (rb:=⟨.int k,true,[]⟩) rfl rfl (by simp;omega)
    obtain⟨r2,q2,d2⟩:=QrR (fa:=Qa 0) (fb:=Q8 (Qa 2) (dC (.int 1))) (ρ:=[some (Qc (p+1) (p+1) A,false),some (.int (sm k λj=>sgn j*A j 0*det p λc r=>A (skp j c) (r+1)),true),some (.int k,true),j3]) (ra:=⟨Qc (p+1) (p+1) A,false,[]⟩) (xs:=(List.range (p+1)).map λi=>Qe (p+1) (A i)) (n:=k+1) rfl rfl (Qaz (a:=(k:Int)) (b:=1) (ra:=⟨.int k,true,[]⟩) rfl rfl (QU _ _) rfl) rfl (by simp;omega)
    obtain⟨r3,q3,d3⟩:=Qsw q1 d1 q2 d2 (by simp;omega)
    rw[Qtp hkp]at d3
    refine run_seq (Qh (Qm (Qs (QL (toD:=λ(c:Nat)=>Qe (p+1) (A (skp k c))) (out:=λ(c:Nat)=>Qe p λr=>A (skp k c) (1+r)) (List.range p) (Qag q3 d3) rfl λc _=>⟨[none,some (Qe (p+1) (A (skp k c)),false)],rfl,⟨Qe p λr=>A (skp k c) (1+r),true,[]⟩,QnF (m:=p+1) (n:=1) (f:=A (skp k c)) (ra:=⟨Qe (p+1) (A (skp k c)),false,[]⟩) rfl rfl (QU _ _) rfl (by omega),rfl,rfl⟩) (QP _)) (d:= .int (det p λc r=>A (skp k c) (r+1))) ?_ rfl) ?_)
    ·have:=ih p (λc r=>A (skp k c) (r+1)) (by omega) (by omega) (by omega) λc hc r hr=>hA (skp k c) (by unfold skp;split<;>omega) (r+1) (by omega)
     have e:(List.range p).map (λc=>Qe p λr=>A (skp k c) (1+r))=(List.range p).map λc=>Qe p λr=>A (skp k c) (r+1):=ZO λc _=>QcE λr _=>by rw[Nat.add_comm]
     show d [.lst ((List.range p).map λc=>Qe p λr=>A (skp k c) (1+r))]=_
     rw[e]
     exact this
    rw[Qn]
    refine run_seq (Qh (Qaz (a:=sm k λj=>sgn j*A j 0*det p λc r=>A (skp j c) (r+1)) (b:=sgn k*A k 0*det p λc r=>A (skp k c) (r+1)) rfl rfl (Qap (a:=sgn k*A k 0) (b:=det p λc r=>A (skp k c) (r+1)) (Qap (a:=sgn k) (b:=A k 0) ((Qdr (a:=1) (b:=2*((k:Int) % 2)) (ra:=⟨.int 1,true,[]⟩) rfl rfl (Qap (a:=2) (b:=(k:Int) % 2) rfl rfl (QaF (a:=(k:Int)) (b:=2) (ra:=⟨.int k,true,[]⟩) rfl rfl (QU _ _) rfl (by decide)) rfl (QbE (by decide))) rfl).trans (by rw[Qwf])) rfl (entry (k:=k) rfl rfl hkp) rfl (QbE (by unfold sgn;split<;>decide))) rfl (rb:=⟨.int (det p λc r=>A (skp k c) (r+1)),true,[]⟩) rfl rfl (QdN (QaN ?_) (QaN bm))) rfl) (Qr (Qr ?_)))
    ·have:=hA k hkp 0 (by omega)
     have b:(2:Nat)^200<2^2000:=Nat.pow_lt_pow_right (by decide) (by decide)
     rw[ZT]
     have s:(sgn k).natAbs=1:=by unfold sgn;split<;>rfl
     rw[s,Nat.one_mul]
     omega
    rw[Qn]
    exact⟨_,_,rfl⟩
   ·have z:A k 0=0:=by simpa using h
    refine Qr (Qr ⟨some (.int k,true),j3,?_⟩)
    have e:(sm (k+1) λj=>sgn j*A j 0*det p λc r=>A (skp j c) (r+1))=sm k λj=>sgn j*A j 0*det p λc r=>A (skp j c) (r+1):=by
     show(sm k λj=>sgn j*A j 0*det p λc r=>A (skp j c) (r+1))+sgn k*A k 0*(det p λc r=>A (skp k c) (r+1))=_
     rw[z,Zu,ZD,Zba]
    rw[e]
    rfl
  ·rintro ρ ⟨j2,j3,rfl⟩
   rw[Zo]
   exact⟨_,_,rfl⟩
 rintro ρ ⟨j2,j3,rfl⟩
 exact QE (r:=⟨.int (det (p+1) A),true,[]⟩) rfl ⟨rfl,rfl⟩
end HS
namespace HS
open PySem PySem.Spec L2
end HS
namespace HS
open PySem L2
def QfR(d:Den):Prop:=∀(n N:Nat) (A:Nat->Nat->Int),n<=8->n<=N->(∀j,j<N->∀r,r<n->(A j r).natAbs<=2^240)->det n A≠0->∃m R b,d [Qc n N (λi j=>A j i)]=some (.tup [Qc n N R,.int b],false)/\QcR n N n A m R b
theorem Qnv{dc:Den}(hc:QgJ dc):QfR (Qq 2 (QfF dc)):=λn N A n8 hN hA hd=>by
 obtain⟨R,ec,hC⟩:=hc n N A n8 hN hA
 obtain⟨m,C⟩:=hC hd
 refine⟨m,R,det n A,Q1 ?_,C⟩
 refine run_seq (Qh ((Qi9 (r:=⟨[Qc n N (λi j=>A j i)],false,[]⟩) rfl ec rfl).trans rfl) ?_)
 refine Qw (QZ (b:=false) (QI (Qa9 rfl rfl rfl rfl) (by simp[hd])) (λh=>by cases h) (λ_=>Qr ?_))
 exact QE rfl ⟨rfl,rfl⟩
structure Qzl (xd:List D->Option Str):Prop where
 row:∀(n:Nat) (f:Nat->Nat->Int) (xs:List D),xs.length≠n->xd [Qc n n f,.lst xs]=some "NoRow"
 rings:∀(n:Nat) (f:Nat->Nat->Int) (row:Nat->Int),n<=8->(∀j r,j<n->r<n->(f j r).natAbs<=2^240)->(∀r,r<n->(row r).natAbs<=2^240)->det n f=0->xd [Qc n n f,Qe n row]=some "NoRings"
noncomputable def QeL:DS:=(Qf (QH (dOp QaP (dOp QaJ (Qa 0) (Q8 (Qaq (dC (.int 2)) (Qa 1)) (dC (.int 1)))) (Qa 1))) Qi)
def Qkr(d:Den):Prop:=∀c far:Int,0<=far->d [.int c,.int far]=some (.int (c % (2*far+1)-far),true)
theorem QsE:Qkr (Qq 2 QeL):=λc far h0=>by
 refine Q1 (QE (Qdr (a:=c % (2*far+1)) (b:=far) (QaF (a:=c) (b:=2*far+1) (ra:=⟨.int c,true,[]⟩) rfl rfl (Qaz (a:=2*far) (b:=1) (Qap (a:=2) (b:=far) rfl rfl (rb:=⟨.int far,true,[]⟩) rfl rfl (QbE (by decide))) rfl rfl rfl) rfl (by omega)) rfl (rb:=⟨.int far,true,[]⟩) rfl rfl) ⟨rfl,rfl⟩)
theorem QvP{c far:Int}(h0:0<=far): -far<=c % (2*far+1)-far/\c % (2*far+1)-far<=far:=by
 have h1:=ZM c (by omega:2*far+1≠0)
 have h2:=ZF c (by omega:0<2*far+1)
 omega
noncomputable def Qe4(Qbz:Den):DS:=(Qf (Qu 4 (Qav Qg)) (Qf (QaW (Q5 (Qa 2)) (.nm 5) (Qf (QcP 4 Q2 (QO (Q5 (Qa 2)) (.nm 1) [none,none,some 0,some 3,some 5,some 2,some 1] QR (Qk 2 Qbz [] (Qd (Ql (Qa 2) (Q8 (Q8 (Qa 6) (Qaq (Qa 4) (Qa 5))) (Qa 1))) (Qd (Qa 3) Qg))))) Qi)) (Qf (QH (Qa 4)) Qi)))
def QfB(d:Den):Prop:=∀(cs:List Int) (a n:Nat) (far:Int),a+n*n<=cs.length->a<=100->n<=5->0<=far->∃f,d [QB cs,.int a,.int n,.int far]=some (Qc n n f,true)/\InT n far f
theorem QpU{dn:Den}(hn:Qkr dn):QfB (Qq 6 (Qe4 dn)):=λcs a n far hl ha hn8 h0=>by
 refine⟨λi j=>cs.getD (a+i*n+j) 0 % (2*far+1)-far,Q1 ?_,λi j hi hj=>QvP h0⟩
 generalize hf:(λi j=>cs.getD (a+i*n+j) 0 % (2*far+1)-far)=f
 refine run_seq (Qh (r:=⟨Qc 0 n f,true,[]⟩) rfl ?_)
 rw[Qn]
 refine Q0 (P:=λρ=>∃j5,ρ=[some (QB cs,false),some (.int a,true),some (.int n,true),some (.int far,true),some (Qc n n f,true),j5]) ?_ ?_
 ·refine Qaj (toD:=λ(k:Nat)=> .int (k:Int)) (List.range n) (λi ρ=>∃j5,ρ=[some (QB cs,false),some (.int a,true),some (.int n,true),some (.int far,true),some (Qc i n f,true),j5]) (Qac (n:=n) (r:=⟨.int n,true,[]⟩) rfl rfl (by omega)) rfl ⟨none,rfl⟩ ?_ ?_
  ·rintro i i' ρ hi ⟨j5,rfl⟩
   have hi':i<n/\i=i':=by
    obtain⟨h1,h2⟩:=Zd.mp hi
    simp at h1 h2;exact⟨h1,h2⟩
   obtain⟨him,rfl⟩:=hi'
   refine⟨[some (QB cs,false),some (.int a,true),some (.int n,true),some (.int far,true),some (Qc i n f,true),some (.int i,true)],rfl,?_⟩
   refine run_seq (QiV (xs:=(List.range i).map λk=>Qe n (f k)) (d:=Qe n (f i)) rfl ?_ (by simp;omega) (Qr ⟨some (.int i,true),?_⟩))
   ·refine QL (toD:=λ(k:Nat)=> .int (k:Int)) (out:=λ(j:Nat)=> .int (f i j)) (List.range n) (Qac (n:=n) (r:=⟨.int n,true,[]⟩) rfl rfl (by omega)) rfl λj hj=>⟨[none,some (.int j,true),some (QB cs,false),some (.int far,true),some (.int i,true),some (.int n,true),some (.int a,true)],rfl,⟨.int (f i j),true,[]⟩,?_,rfl,rfl⟩
    have hj:=Zr.mp hj
    have hin:i*n+j<n*n:=by
     have h1:(i+1)*n<=n*n:=ZaX n (by omega)
     rw[ZbL]at h1
     omega
    have hk:a+i*n+j<cs.length:=by omega
    have ei:Q8 (Q8 (Qa 6) (Qaq (Qa 4) (Qa 5))) (Qa 1) [none,some (.int j,true),some (QB cs,false),some (.int far,true),some (.int i,true),some (.int n,true),some (.int a,true)]=some ⟨.int ((a+i*n+j:Nat):Int),true,[]⟩:=by
     refine(Qaz (a:=a+i*n) (b:=j) (Qaz (a:=a) (b:=i*n) rfl rfl (Qap (a:=i) (b:=n) rfl rfl rfl rfl (QbE (by omega))) rfl) rfl rfl rfl).trans ?_
     rw[show((a+i*n+j:Nat):Int)=(a:Int)+i*n+j by simp]
    have e1:=Qdk (ns:=cs) (i:=((a+i*n+j:Nat):Int)) (v:=cs.getD (a+i*n+j) 0) (fa:=Qa 2) (ρ:=[none,some (.int j,true),some (QB cs,false),some (.int far,true),some (.int i,true),some (.int n,true),some (.int a,true)]) (ra:=⟨QB cs,false,[]⟩) rfl rfl ei rfl (by omega) (by rw[ZC,Zar,Zam hk];rfl)
    refine(Qm (Qs e1 (Qs (r:=⟨.int far,true,[]⟩) rfl (QP _))) (hn _ far h0) rfl).trans ?_
    rw[← hf]
   ·rw[QiS];rfl
  ·rintro ρ ⟨j5,rfl⟩
   rw[Zo]
   exact⟨_,rfl⟩
 rintro ρ ⟨j5,rfl⟩
 exact QE (r:=⟨Qc n n f,true,[4]⟩) rfl ⟨rfl,rfl⟩
noncomputable def Qdi:DS:=(Qf (Qu 0 (dBf Qho (Qd (Qa 0) Qg))) (Qf (Qu 1 (dBf Qho (Qd (Qa 1) Qg))) (Qf (Qck (QM (dOp gGt (Qa 1) (dC (.int 0)))) (Qf (Qu 2 (dOp QaJ (Qa 0) (Qa 1))) (Qf (Qu 0 (Qao (Qa 1))) (Qf (Qu 1 (Qao (Qa 2))) Qi)))) (Qf (QH (Qa 0)) Qi))))
def QkA(d:Den):Prop:=∀a b:Int,∃g,d [.int a,.int b]=some (.int g,true)/\0<=g/\∀t,t∣g↔(t∣a/\t∣b)
theorem Qrc{fa:DE}{ρ:En}{a:Int}{r:R}(h:fa ρ=some r)(e:r.d= .int a):dBf Qho (Qd fa Qg) ρ=some ⟨.int (if a<0 then-a else a),true,[]⟩:=by
 unfold dBf
 rw[Qs h (QP _),Za,e];rfl
theorem QtJ:QkA (Qq 3 Qdi):=λa b=>by
 have key:Run Qdi [some (.int a,true),some (.int b,true),none] λo=>match o with | .rt d fr=>fr=true/\∃g,d= .int g/\0<=g/\∀t,t∣g↔(t∣a/\t∣b) | _=>False:=by
  refine run_seq (Qh (Qrc (a:=a) (r:=⟨.int a,true,[]⟩) rfl rfl) ?_)
  rw[Qn]
  refine run_seq (Qh (Qrc (a:=b) (r:=⟨.int b,true,[]⟩) rfl rfl) ?_)
  rw[Qn]
  have da:∀(x t:Int),t∣(if x<0 then-x else x)↔t∣x:=λx t=>by
   split
   ·exact Int.dvd_neg
   ·exact Iff.rfl
  have a0:0<=(if a<0 then-a else a):=by split<;>omega
  have b0:0<=(if b<0 then-b else b):=by split<;>omega
  have hab:∀t,(t∣(if a<0 then-a else a)/\t∣(if b<0 then-b else b))↔(t∣a/\t∣b):=λt=>by rw[da a,da b]
  generalize (if a<0 then-a else a)=x at a0 hab
  generalize (if b<0 then-b else b)=y at b0 hab
  refine Q0 (P:=λρ=>∃g j2,0<=g/\(∀t,t∣g↔(t∣a/\t∣b))/\ρ=[some (.int g,true),some (.int 0,true),j2]) ?_ ?_
  ·refine Qfy (λn ρ=>∃g r j2,n=r.natAbs/\0<=g/\0<=r/\(∀t,(t∣g/\t∣r)↔(t∣a/\t∣b))/\ρ=[some (.int g,true),some (.int r,true),j2]) ?_ y.natAbs _ ⟨x,y,none,rfl,a0,b0,hab,rfl⟩
   rintro n ρ ⟨g,r,j2,rfl,g0,r0,hd,rfl⟩
   refine⟨decide (0<r),QI (QbX (d:= .bl (decide (0<r))) (ra:=⟨.int r,true,[]⟩) (rb:=⟨.int 0,true,[]⟩) rfl rfl rfl) rfl,λh=>?_,λh=>?_⟩
   ·have hr:r=0:=by have:=of_decide_eq_false h;omega
    subst hr
    exact⟨g,j2,g0,λt=>by rw[← hd t];simp,rfl⟩
   ·have hr:0<r:=of_decide_eq_true h
    refine run_seq (Qh (QaF (a:=g) (b:=r) (ra:=⟨.int g,true,[]⟩) rfl rfl (rb:=⟨.int r,true,[]⟩) rfl rfl hr) ?_)
    rw[Qn]
    refine run_seq (Qh (r:=⟨.int r,false,[]⟩) rfl ?_)
    rw[Qbt rfl]
    refine run_seq (Qh (r:=⟨.int (g % r),false,[]⟩) rfl (Qr ?_))
    rw[Qbt rfl]
    have l1:=ZM g (by omega:r≠0)
    have l2:=ZF g hr
    refine⟨_,by omega,r,g % r,_,rfl,r0,l1,λt=>?_,rfl⟩
    rw[← hd t]
    refine⟨λ⟨h1,h2⟩=>⟨?_,h1⟩,λ⟨h1,h2⟩=>⟨h2,?_⟩⟩
    ·have:=Int.mul_ediv_add_emod g r
     rw[← this]
     exact Zat (Int.dvd_trans h1 ⟨_,rfl⟩) h2
    ·have:=Int.mul_ediv_add_emod g r
     have e:g % r=g-r*(g / r):=by omega
     rw[e]
     exact ZaW h1 (Int.dvd_trans h2 ⟨_,rfl⟩)
  ·rintro ρ ⟨g,j2,g0,hg,rfl⟩
   exact QE (r:=⟨.int g,true,[]⟩) rfl ⟨rfl,g,rfl,g0,hg⟩
 obtain⟨o,h1,h2⟩:=key
 cases o with
 | rt d fr=>
  obtain⟨rfl,g,rfl,g0,hg⟩:=h2
  exact⟨g,by show Option.bind (Qdi [some (.int a,true),some (.int b,true),none]) outD=_;rw[h1];rfl,g0,hg⟩
 | _=>exact h2.elim
structure Qzq (n:Nat) (f:Nat->Nat->Int) (row tops:Nat->Int) (q:Int):Prop where
 pos:0<q
 sq:q.natAbs<2^2000
 eq:∀r,r<n->q*row r=sm n λl=>tops l*f l r
 st:∀l,l<n->(tops l).natAbs<2^2000
 low:∀t,t∣q->(∀l,l<n->t∣tops l)->t.natAbs=1
structure Drawn (n:Nat) (f:Nat->Nat->Int) (row:Nat->Int):Prop where
 n1:1<=n
 n8:n<=8
 tab:∀i j,i<n->j<n->(f i j).natAbs<=2^240
 row:∀j,j<n->(row j).natAbs<=2^240
theorem QrK{x n k:Nat}{f:Nat->Nat->Int}{p:Nat->Int}{fi fa:DE}{ρ:En}{Q:Out->Prop}(hx:ρ[x]? =some (some (Qc n n f,true)))(hi:fi ρ=some ⟨.int k,true,[]⟩)(ha:fa ρ=some ⟨Qe n p,true,[]⟩)(hk:k<n)
  (q:Q (.nx (ρ.set x (some (Qc n n (λi j=>if i=k then p j else f i j),true))))):Run (Qbf x Q2 fi fa) ρ Q:=by
 refine⟨_,?_,q⟩
 have hn:(HS.R.mk (Qe n p) true []).norm=⟨Qe n p,true,[]⟩:=by unfold R.norm;split<;>rfl
 unfold Qbf
 rw[ha,Za,hx]
 simp only[Q2,Za,hi,Qc,Qax,Zx,Zo,hn]
 rw[Qcf (show(0:Int)<=k by omega) (by omega)]
 simp only[Za,ZC,Qc9 hk]
 simp[kill,Qay]
structure Qzr (sub:Str->Str->Option Bool):Prop where
 rh:sub "NoRow" "HeapError" =some true
 rv:sub "NoRow" "ValueError" =some true
 rr:sub "NoRow" "NoRow" =some true
 rg:sub "NoRow" "NoRings" =some false
 gh:sub "NoRings" "HeapError" =some true
 gv:sub "NoRings" "ValueError" =some true
 gr:sub "NoRings" "NoRow" =some false
 gg:sub "NoRings" "NoRings" =some true
theorem QsP{n:Nat}{f g:Nat->Int}{a b:Nat}(ha:a<n)(hb:b<n)(hab:a≠b)(h:∀k,k<n->k≠a->k≠b->f k=g k)(e:f a+f b=g a+g b):Qp n f=Qp n g:=by
 have e1:Qp n f=Qp n λk=>g k+((if k=a then f a-g a else 0)*1+(if k=b then f b-g b else 0)*1):=Qj λk hk=>by
  by_cases k1:k=a
  ·subst k1;rw[if_pos rfl,if_neg hab];omega
  ·by_cases k2:k=b
   ·subst k2;rw[if_neg k1,if_pos rfl];omega
   ·rw[if_neg k1,if_neg k2,h k hk k1 k2];omega
 rw[e1,QaA,QaA,Qa0 ha _ λ_=>1,Qa0 hb _ λ_=>1]
 omega
theorem QbS{n:Nat}{f:Nat->Int}{a:Nat}(ha:a<n)(h:∀k,k<n->k≠a->f k=0):Qp n f=f a:=by
 have e1:Qp n f=Qp n λk=>(if k=a then f a else 0)*1:=Qj λk hk=>by
  by_cases k1:k=a
  ·subst k1;rw[if_pos rfl];omega
  ·rw[if_neg k1,h k hk k1];omega
 rw[e1,Qa0 ha _ λ_=>1];omega
theorem QlE(n:Nat)(c:Int)(f:Nat->Int):Qp n (λi=>f i*c)=Qp n f*c:=by
 rw[Zab,← Qaf]
 exact Qj λi _=>Zab _ _
theorem Qi7(n:Nat)(f g:Nat->Int):Qp n (λi=>f i-g i)=Qp n f-Qp n g:=by
 have:=QaA n (λi=>f i-g i) g
 rw[Qj (g:=f) λi _=>by omega]at this
 omega
theorem Qcy{n:Nat}{f:Nat->Int}{t:Int}(h:∀k,k<n->t∣f k):t∣Qp n f:=by
 induction n with
 | zero=>exact Int.dvd_zero t
 | succ n ih=>rw[QS];exact Zat (ih λk hk=>h k (by omega)) (h n (by omega))
theorem Qr4{n:Nat}{f:Nat->Int}{C:Nat}(h:∀k,k<n->(f k).natAbs<=C):(Qp n f).natAbs<=n*C:=by
 induction n with
 | zero=>exact ZS _
 | succ n ih=>
  rw[QS,ZbL]
  have h1:=ih λk hk=>h k (by omega)
  have h2:=h n (by omega)
  have h3:=ZaU (Qp n f) (f n)
  omega
noncomputable def idF(i j:Nat):Int:=if i=j then 1 else 0
theorem Q3(n:Nat)(a b c:Nat->Nat->Int):prodF n (prodF n a b) c=prodF n a (prodF n b c):=by
 funext i j
 unfold prodF
 have e1:(Qp n λk=>(Qp n λl=>a i l*b l k)*c k j)=Qp n λk=>Qp n λl=>a i l*(b l k*c k j):=Qj λk _=>by
  rw[← QlE];exact Qj λl _=>ZI _ _ _
 rw[e1,Qhu]
 exact Qj λl _=>Qaf n _ _
theorem Qaa{n:Nat}{a a' b b':Nat->Nat->Int}{i j:Nat}(h1:∀k,k<n->a i k=a' i k)(h2:∀k,k<n->b k j=b' k j):prodF n a b i j=prodF n a' b' i j:=
 Qj λk hk=>by rw[h1 k hk,h2 k hk]
theorem Qad{n:Nat}(a:Nat->Nat->Int){i:Nat}(j:Nat)(hi:i<n):prodF n idF a i j=a i j:=by
 unfold prodF idF
 rw[QbS hi λk _ hk=>by rw[if_neg (Ne.symm hk),ZD],if_pos rfl,ZQ]
theorem Qej{n:Nat}(a:Nat->Nat->Int)(i:Nat){j:Nat}(hj:j<n):prodF n a idF i j=a i j:=by
 unfold prodF idF
 rw[QbS hj λk _ hk=>by rw[if_neg hk,Zu],if_pos rfl,ZX]
def Q9(n:Nat)(a b:Nat->Nat->Int):Prop:=∀i j,i<n->j<n->prodF n a b i j=idF i j
theorem Q9.prod{n:Nat}{a b c d:Nat->Nat->Int}(h1:Q9 n a b)(h2:Q9 n c d):Q9 n (prodF n a c) (prodF n d b):=λi j hi hj=>by
 rw[Q3,Qaa (a':=a) (b':=prodF n (prodF n c d) b) (λ_ _=>rfl) λk hk=>by rw[Q3]]
 rw[Qaa (a':=a) (b':=b) (λ_ _=>rfl) λk hk=>?_]
 ·exact h1 i j hi hj
 ·rw[Qaa (a':=idF) (b':=b) (λl hl=>h2 k l hk hl) λ_ _=>rfl,Qad b j hk]
theorem split_len:∀(L h:Nat),0<L->∃L1 L2 N,L=L1*L2/\Nat.Coprime L1 h/\L2∣h^N:=by
 intro L
 induction L using Nat.strongRecOn with
 | _ L ih=>
  intro h hL
  by_cases g:Nat.gcd L h=1
  ·exact⟨L,1,0,by omega,g,Nat.one_dvd _⟩
  ·have hg:0<Nat.gcd L h:=Nat.gcd_pos_of_pos_left h hL
   obtain⟨M,hM⟩:=Nat.gcd_dvd_left L h
   have hM0:0<M:=by
    rcases Nat.eq_zero_or_pos M with z | z
    ·rw[z,Nat.mul_zero]at hM;omega
    ·exact z
   have hlt:M<L:=by
    have:2*M<=Nat.gcd L h*M:=ZaX M (by omega)
    omega
   obtain⟨L1,L2,N,e,c,d⟩:=ih M hlt h hM0
   refine⟨L1,Nat.gcd L h*L2,N+1,?_,c,?_⟩
   ·rw[Nat.mul_left_comm,← e];exact hM
   ·rw[Zbb,ZaH (h^N)]
    exact Nat.mul_dvd_mul (Nat.gcd_dvd_right L h) d
theorem QeD{t:Nat}{x:Int}:(t:Int)∣x↔t∣x.natAbs:=by rw[← Zal,Int.natAbs_natCast]
noncomputable def Qbw:Nat->(Nat->Int)->Nat
 | 0,_=>0
 | n+1,u=>Nat.gcd (Qbw n u) (u n).natAbs
theorem Qbg{u:Nat->Int}{t:Nat}:∀{n:Nat},t∣Qbw n u↔∀i,i<n->(t:Int)∣u i
 | 0=>⟨λ_ i hi=>by omega,λ_=>Nat.dvd_zero t⟩
 | n+1=>by
  unfold Qbw
  rw[Nat.dvd_gcd_iff,Qbg (n:=n)]
  constructor
  ·rintro⟨h1,h2⟩ i hi
   by_cases e:i=n
   ·subst e;exact QeD.mpr h2
   ·exact h1 i (by omega)
  ·exact λh=>⟨λi hi=>h i (by omega),QeD.mp (h n (by omega))⟩
theorem Qts{n:Nat}{u v:Nat->Int}{L:Nat}(hL:0<L)(hc:∀t:Nat,t∣L->(∀i,i<n->(t:Int)∣u i)->(∀i,i<n->(t:Int)∣v i)->t=1):
  ∃T:Nat,∀t:Nat,t∣L->(∀i,i<n->(t:Int)∣u i+T*v i)->t=1:=by
 obtain⟨L1,L2,N,e,c,d⟩:=split_len L (Nat.gcd (Qbw n u) L) hL
 refine⟨L1,λt ht hu=>?_⟩
 have c1:Nat.Coprime t L1:=by
  have a1:Nat.gcd t L1∣t:=Nat.gcd_dvd_left _ _
  have a2:Nat.gcd t L1∣L1:=Nat.gcd_dvd_right _ _
  have hui:∀i,i<n->((Nat.gcd t L1:Nat):Int)∣u i:=λi hi=>by
   have h1:=Int.dvd_trans (Int.natCast_dvd_natCast.mpr a1) (hu i hi)
   have h2:((Nat.gcd t L1:Nat):Int)∣(L1:Int)*v i:=Zap (Int.natCast_dvd_natCast.mpr a2)
   have:=ZaW h1 h2
   rwa[Int.add_sub_cancel]at this
  have h3:Nat.gcd t L1∣Nat.gcd (Qbw n u) L:=Nat.dvd_gcd (Qbg.mpr hui) (Nat.dvd_trans a1 ht)
  exact Nat.eq_one_of_dvd_one (by rw[← c];exact Nat.dvd_gcd a2 h3)
 have t2:t∣L2:=by
  rw[e]at ht
  exact Nat.Coprime.dvd_of_dvd_mul_left c1 ht
 have c2:Nat.Coprime t (Nat.gcd (Qbw n u) L):=by
  have a1:Nat.gcd t (Nat.gcd (Qbw n u) L)∣t:=Nat.gcd_dvd_left _ _
  have a2:Nat.gcd t (Nat.gcd (Qbw n u) L)∣Qbw n u:=Nat.dvd_trans (Nat.gcd_dvd_right _ _) (Nat.gcd_dvd_left _ _)
  show Nat.gcd t (Nat.gcd (Qbw n u) L)=1
  generalize Nat.gcd t (Nat.gcd (Qbw n u) L)=D at a1 a2 ⊢
  have hui:=Qbg.mp a2
  have cD:Nat.Coprime D L1:=Nat.Coprime.coprime_dvd_left a1 c1
  refine hc D (Nat.dvd_trans a1 ht) hui λi hi=>?_
  have h1:=ZaW (Int.dvd_trans (Int.natCast_dvd_natCast.mpr a1) (hu i hi)) (hui i hi)
  rw[show u i+(L1:Int)*v i-u i=(L1:Int)*v i by omega]at h1
  have h2:=QeD.mp h1
  rw[ZT,Int.natAbs_natCast]at h2
  exact QeD.mpr (Nat.Coprime.dvd_of_dvd_mul_left cD h2)
 exact Nat.Coprime.eq_one_of_dvd (Nat.Coprime.pow_right N c2) (Nat.dvd_trans t2 d)
theorem Qwl{n:Nat}(u v:Nat->Int){L:Nat}(hL:0<L):
  ∃T:Nat,∀t:Nat,t∣L->(∀i,i<n->(t:Int)∣u i+T*v i)->(∀i,i<n->(t:Int)∣u i)/\∀i,i<n->(t:Int)∣v i:=by
 obtain⟨g,hg⟩:∃g,g=Nat.gcd (Nat.gcd (Qbw n u) (Qbw n v)) L:=⟨_,rfl⟩
 have gL:g∣L:=by rw[hg];exact Nat.gcd_dvd_right _ _
 have gu:∀i,i<n->(g:Int)∣u i:=Qbg.mp (by rw[hg];exact Nat.dvd_trans (Nat.gcd_dvd_left _ _) (Nat.gcd_dvd_left _ _))
 have gv:∀i,i<n->(g:Int)∣v i:=Qbg.mp (by rw[hg];exact Nat.dvd_trans (Nat.gcd_dvd_left _ _) (Nat.gcd_dvd_right _ _))
 have g0:0<g:=Nat.pos_of_dvd_of_pos gL hL
 obtain⟨L',eL⟩:=gL
 have hL':0<L':=by
  rcases Nat.eq_zero_or_pos L' with z | z
  ·rw[z,Nat.mul_zero]at eL;omega
  ·exact z
 have eu:∀i,i<n->u i=(g:Int)*(u i / g):=λi hi=>(Int.mul_ediv_cancel' (gu i hi)).symm
 have ev:∀i,i<n->v i=(g:Int)*(v i / g):=λi hi=>(Int.mul_ediv_cancel' (gv i hi)).symm
 have gz:(g:Int)≠0:=by omega
 obtain⟨T,hT⟩:=Qts hL' λt h1 h2 h3=>by
  have a1:g*t∣L:=by rw[eL];exact Nat.mul_dvd_mul_left g h1
  have a2:g*t∣Qbw n u:=Qbg.mpr λi hi=>by rw[eu i hi,Zac];exact Int.mul_dvd_mul_left _ (h2 i hi)
  have a3:g*t∣Qbw n v:=Qbg.mpr λi hi=>by rw[ev i hi,Zac];exact Int.mul_dvd_mul_left _ (h3 i hi)
  have a4:g*t∣g:=by
   have:=Nat.dvd_gcd (Nat.dvd_gcd a2 a3) a1
   rwa[← hg]at this
  exact Nat.eq_one_of_dvd_one (Nat.dvd_of_mul_dvd_mul_left g0 (by rw[Nat.mul_one];exact a4))
 refine⟨T,λt ht hu=>?_⟩
 have hD:Nat.gcd (Qbw n λi=>u i+T*v i) L∣g:=by
  obtain⟨D',hD'⟩:g∣Nat.gcd (Qbw n λi=>u i+T*v i) L:=Nat.dvd_gcd (Qbg.mpr λi hi=>Zat (gu i hi) (Int.dvd_mul_of_dvd_right (gv i hi))) ⟨L',eL⟩
  have b1:D'∣L':=by
   have:=Nat.gcd_dvd_right (Qbw n λi=>u i+T*v i) L
   rw[hD',eL]at this
   exact Nat.dvd_of_mul_dvd_mul_left g0 this
  have b2:=hT D' b1 λi hi=>by
   have h1:((g*D':Nat):Int)∣u i+T*v i:=by rw[← hD'];exact(Qbg).mp (Nat.gcd_dvd_left _ _) i hi
   rw[eu i hi,ev i hi,show(g:Int)*(u i / g)+T*((g:Int)*(v i / g))=g*(u i / g+T*(v i / g)) by rw[Zas,ZK],Zac]at h1
   exact Int.dvd_of_mul_dvd_mul_left gz h1
  rw[hD',b2,Nat.mul_one];exact Nat.dvd_refl g
 have tg:t∣g:=Nat.dvd_trans (Nat.dvd_gcd (Qbg.mpr hu) ht) hD
 exact⟨λi hi=>Int.dvd_trans (Int.natCast_dvd_natCast.mpr tg) (gu i hi),λi hi=>Int.dvd_trans (Int.natCast_dvd_natCast.mpr tg) (gv i hi)⟩
theorem Qvu{L g y:Int}(h:∀t:Int,t∣L->t∣g->t.natAbs=1)(hd:L∣g*y):L∣y:=by
 have c:Nat.Coprime L.natAbs g.natAbs:=by
  have:=h (Nat.gcd L.natAbs g.natAbs) (QeD.mpr (Nat.gcd_dvd_left _ _)) (QeD.mpr (Nat.gcd_dvd_right _ _))
  rwa[Int.natAbs_natCast]at this
 have h2:=Zal.mpr hd
 rw[ZT]at h2
 exact Zal.mp (Nat.Coprime.dvd_of_dvd_mul_left c h2)
structure QhT (n:Nat) (A P:Nat->Nat->Int) (w:Int) (R Rb:Nat->Nat->Int) (len:Nat->Int):Prop where
 u1:Q9 n R Rb
 u2:Q9 n Rb R
 pos:∀j,j<n->0<len j
 col:∀i j,i<n->j<n->len j∣prodF n A R i j
 row:∀i j,i<n->j<n->w∣len j*prodF n Rb P j i
 nxt:∀j,j+1<n->len j∣len (j+1)
structure RT (n k:Nat) (A P:Nat->Nat->Int) (w c L:Int) (R Rb S:Nat->Nat->Int) (len:Nat->Int):Prop where
 kn:k<=n
 u1:Q9 n R Rb
 u2:Q9 n Rb R
 L0:0<L
 cL:c*L=w
 low:∀i j,k<=i->i<n->j<n->S i j=0
 i1:∀i j,i<n->j<n->L∣prodF n (prodF n A R) S i j
 i2:∀i j,i<k->j<n->w∣prodF n Rb P i j-c*S i j
 one:∀j,j<k->len j=1
 pos:∀j,k<=j->j<n->0<len j
 col:∀i j,k<=j->j<n->i<n->len j∣prodF n A R i j
 row:∀i j,k<=j->j<n->i<n->w∣len j*prodF n Rb P j i
 nxt:∀j,k<=j->j+1<n->len j∣len (j+1)
 top:k<n->len k=L
theorem RT.stop{n k:Nat}{A P:Nat->Nat->Int}{w c L:Int}{R Rb S:Nat->Nat->Int}{len:Nat->Int}(h:RT n k A P w c L R Rb S len)(hp:∀i j,i<n->j<n->L∣S i j):QhT n A P w R Rb len where
 u1:=h.u1
 u2:=h.u2
 pos:=λj hj=>by
  by_cases z:j<k
  ·rw[h.one j z];decide
  ·exact h.pos j (by omega) hj
 col:=λi j hi hj=>by
  by_cases z:j<k
  ·rw[h.one j z];exact Int.one_dvd _
  ·exact h.col i j (by omega) hj hi
 row:=λi j hi hj=>by
  by_cases z:j<k
  ·rw[h.one j z,ZQ]
   have h1:=h.i2 j i z hi
   have h2:w∣c*S j i:=by rw[← h.cL];exact Int.mul_dvd_mul_left c (hp j i hj hi)
   have:=Zat h1 h2
   rwa[ZaA]at this
  ·exact h.row i j (by omega) hj hi
 nxt:=λj hj=>by
  by_cases z:j<k
  ·rw[h.one j z];exact Int.one_dvd _
  ·exact h.nxt j (by omega) hj
theorem RT.done{n:Nat}{A P:Nat->Nat->Int}{w c L:Int}{R Rb S:Nat->Nat->Int}{len:Nat->Int}(h:RT n 0 A P w c L R Rb S len):QhT n A P w R Rb len:=
 ⟨h.u1,h.u2,λj hj=>h.pos j (by omega) hj,λi j hi hj=>h.col i j (by omega) hj hi,λi j hi hj=>h.row i j (by omega) hj hi,λj hj=>h.nxt j (by omega) hj⟩
structure Ql7 (n last:Nat) (x:Nat->Int) (T B:Nat->Nat->Int) (g:Int):Prop where
 u1:Q9 n T B
 u2:Q9 n B T
 tl:∀i j,last<i->i<n->j<n->T i j=idF i j
 tu:∀i j,i<=last->last<j->j<n->T i j=0
 bl:∀i j,i<n->last<j->j<n->B i j=idF i j
 hit:∀i,i<=last->Qp n (λj=>T i j*x j)=if i=last then g else 0
theorem RT.step{n last:Nat}{A P:Nat->Nat->Int}{w c L part L':Int}{R Rb S Sq S1:Nat->Nat->Int}{len x cc:Nat->Int}{T B:Nat->Nat->Int}{g:Int}(h:RT n (last+1) A P w c L R Rb S len)
  (p0:0<part) (eL:L=part*L') (hS:∀i j,i<n->j<n->S i j=part*Sq i j) (h1:∀i j,i<n->j<n->L'∣Sq i j-S1 i j) (hz:∀i j,last<i->i<n->j<n->S1 i j=0)
  (cop:∀t,t∣L'->(∀i j,i<n->j<n->t∣Sq i j)->t.natAbs=1) (hx:∀i,i<n->L'∣x i-Qp n λj=>cc j*S1 i j) (hx0:∀i,last<i->i<n->x i=0)
  (hxc:∀t,t∣L'->(∀i,i<n->t∣x i)->∀i j,i<n->j<n->t∣S1 i j) (sp:Ql7 n last x T B g):
  RT n last A P w (c*part) L' (prodF n R B) (prodF n T Rb) (λi j=>if i=last then 0 else prodF n T S1 i j) (λj=>if j=last then L' else len j):=by
 have hn:last<n:=h.kn
 have L0':0<L':=by
  refine ZaC λz=>?_
  have:=Zbg (a:=part) (b:=L') (by omega) (by omega)
  have:=h.L0
  omega
 have pz:part≠0:=by omega
 have ew:w=c*part*L':=by rw[← h.cL,eL,ZI]
 obtain⟨M,hM⟩:∃M,M=prodF n A R:=⟨_,rfl⟩
 obtain⟨Q,hQ⟩:∃Q,Q=prodF n Rb P:=⟨_,rfl⟩
 have aM:prodF n A (prodF n R B)=prodF n M B:=by rw[hM,Q3]
 have aQ:prodF n (prodF n T Rb) P=prodF n T Q:=by rw[hQ,Q3]
 have i1:=h.i1
 have i2:=h.i2
 have col:=h.col
 have row:=h.row
 rw[← hM]at i1 col
 rw[← hQ]at i2 row
 have F1:∀i j,i<n->j<n->L'∣prodF n M S1 i j:=λi j hi hj=>by
  have a1:=i1 i j hi hj
  have a2:prodF n M S i j=part*prodF n M Sq i j:=by
   unfold prodF
   rw[← Qaf]
   exact Qj λl hl=>by rw[hS l j hl hj,ZK]
  rw[a2,eL]at a1
  have a3:=Int.dvd_of_mul_dvd_mul_left pz a1
  have a4:L'∣Qp n λl=>M i l*(Sq l j-S1 l j):=Qcy λl hl=>Int.dvd_mul_of_dvd_right (h1 l j hl hj)
  have a5:(Qp n λl=>M i l*(Sq l j-S1 l j))=prodF n M Sq i j-prodF n M S1 i j:=by
   unfold prodF
   rw[← Qi7]
   exact Qj λl _=>ZbW _ _ _
  rw[a5]at a4
  have:=ZaW a3 a4
  rwa[Int.sub_sub_self]at this
 have F2:∀i,i<n->L'∣Qp n λl=>M i l*x l:=λi hi=>by
  have a1:L'∣Qp n λl=>M i l*(x l-Qp n λj=>cc j*S1 l j):=Qcy λl hl=>Int.dvd_mul_of_dvd_right (hx l hl)
  have a2:L'∣Qp n λj=>cc j*prodF n M S1 i j:=Qcy λj hj=>Int.dvd_mul_of_dvd_right (F1 i j hi hj)
  have a3:(Qp n λj=>cc j*prodF n M S1 i j)=Qp n λl=>M i l*Qp n λj=>cc j*S1 l j:=by
   unfold prodF
   rw[Qj (g:=λj=>Qp n λl=>M i l*(cc j*S1 l j)) λj _=>by rw[← Qaf];exact Qj λl _=>ZK _ _ _,Qhu]
   exact Qj λl _=>Qaf n _ _
  rw[a3]at a2
  have:=Zat a1 a2
  rw[← QaA,Qj λl _=>by rw[← Zas,ZaA]]at this
  exact this
 have F3:∀l,l<n->x l=g*B l last:=λl hl=>by
  have a1:(Qp n λj=>prodF n B T l j*x j)=x l:=by
   rw[QbS hl λj hj e=>by rw[sp.u2 l j hl hj];unfold idF;rw[if_neg (Ne.symm e),ZD],sp.u2 l l hl hl]
   unfold idF
   rw[if_pos rfl,ZQ]
  have a2:(Qp n λj=>prodF n B T l j*x j)=Qp n λm=>B l m*Qp n λj=>T m j*x j:=by
   unfold prodF
   rw[Qj (g:=λj=>Qp n λm=>B l m*(T m j*x j)) λj _=>by rw[← QlE];exact Qj λm _=>ZI _ _ _,Qhu]
   exact Qj λm _=>Qaf n _ _
  rw[← a1,a2,QbS hn λm hm ne=>?_]
  ·rw[sp.hit last (Zi _),if_pos rfl,Zab]
  ·by_cases z:m<=last
   ·rw[sp.hit m z,if_neg ne,Zu]
   ·have:(Qp n λj=>T m j*x j)=0:=by
     rw[QbS hm λj hj e=>by rw[sp.tl m j (by omega) hm hj];unfold idF;rw[if_neg (Ne.symm e),ZD],hx0 m (by omega) hm,Zu]
    rw[this,Zu]
 have F4:∀t,t∣L'->t∣g->t.natAbs=1:=λt t1 t2=>cop t t1 λi j hi hj=>by
  have a1:=hxc t t1 (λl hl=>by rw[F3 l hl];exact Zap t2) i j hi hj
  have a2:=Zat (Int.dvd_trans t1 (h1 i j hi hj)) a1
  rwa[ZaA]at a2
 have F5:∀i,i<n->L'∣prodF n M B i last:=λi hi=>Qvu F4 (by
  have:g*prodF n M B i last=Qp n λl=>M i l*x l:=by
   unfold prodF
   rw[← Qaf]
   exact Qj λl hl=>by rw[F3 l hl,ZK]
  rw[this];exact F2 i hi)
 have F6:∀i j,i<=last->j<n->w∣prodF n T Q i j-c*part*prodF n T S1 i j:=λi j hi hj=>by
  have e:prodF n T Q i j-c*part*prodF n T S1 i j=Qp n λl=>T i l*(Q l j-c*part*S1 l j):=by
   unfold prodF
   rw[← Qaf,← Qi7]
   exact Qj λl _=>by rw[ZbW,ZK (c*part)]
  rw[e]
  refine Qcy λl hl=>?_
  by_cases z:l<=last
  ·refine Int.dvd_mul_of_dvd_right ?_
   have a1:=i2 l j (by omega) hj
   have a2:w∣c*S l j-c*part*S1 l j:=by
    rw[hS l j hl hj,← ZI,← ZbW,ew]
    exact Int.mul_dvd_mul_left _ (h1 l j hl hj)
   have:=Zat a1 a2
   rwa[show Q l j-c*S l j+(c*S l j-c*part*S1 l j)=Q l j-c*part*S1 l j by omega]at this
  ·rw[sp.tu i l hi (by omega) hl,ZD];exact Int.dvd_zero _
 refine⟨by omega,Q9.prod h.u1 sp.u2,Q9.prod sp.u1 h.u2,L0',ew.symm,λi j hi hin hj=>?_,λi j hi hj=>?_,λi j hi hj=>?_,λj hj=>?_,λj hj hjn=>?_,λi j hj hjn hi=>?_,λi j hj hjn hi=>?_,λj hj hjn=>?_,λ_=>by rw[if_pos rfl]⟩
 ·by_cases z:i=last
  ·show(if i=last then 0 else _)=(0:Int);rw[if_pos z]
  ·show(if i=last then 0 else prodF n T S1 i j)=0
   rw[if_neg z,Qaa (a':=idF) (b':=S1) (λl hl=>sp.tl i l (by omega) hin hl) (λ_ _=>rfl),Qad _ _ hin]
   exact hz i j (by omega) hin hj
 ·rw[aM]
  have e1:prodF n (prodF n M B) (λi j=>if i=last then 0 else prodF n T S1 i j) i j=prodF n (prodF n M B) (prodF n T S1) i j-prodF n M B i last*prodF n T S1 last j:=by
   have s1:prodF n (prodF n M B) (prodF n T S1) i j=Qp n (λl=>prodF n M B i l*(if l=last then 0 else prodF n T S1 l j))+Qp n (λl=>(if l=last then prodF n M B i last*prodF n T S1 last j else 0)*1):=by
    rw[← QaA]
    show(Qp n λl=>prodF n M B i l*prodF n T S1 l j)=_
    exact Qj λl _=>by
     by_cases z:l=last
     ·subst z;rw[if_pos rfl,if_pos rfl];omega
     ·rw[if_neg z,if_neg z];omega
   rw[s1,Qa0 hn _ λ_=>1]
   show(Qp n λl=>prodF n M B i l*(if l=last then 0 else prodF n T S1 l j))=_
   omega
  rw[e1,← Q3]
  refine ZaW ?_ (Zap (F5 i hi))
  rw[Qaa (a':=M) (b':=S1) (λl hl=>?_) (λ_ _=>rfl)]
  ·exact F1 i j hi hj
  ·rw[Q3,Qaa (a':=M) (b':=idF) (λ_ _=>rfl) (λm hm=>sp.u2 m l hm hl),Qej _ _ hl]
 ·rw[aQ,if_neg (by omega)]
  exact F6 i j (by omega) hj
 ·rw[if_neg (by omega)];exact h.one j (by omega)
 ·by_cases z:j=last
  ·rw[if_pos z];exact L0'
  ·rw[if_neg z];exact h.pos j (by omega) hjn
 ·rw[aM]
  by_cases z:j=last
  ·rw[if_pos z,z];exact F5 i hi
  ·rw[if_neg z,Qaa (a':=M) (b':=idF) (λ_ _=>rfl) (λl hl=>sp.bl l j hl (by omega) hjn),Qej _ _ hjn]
   exact col i j (by omega) hjn hi
 ·rw[aQ]
  by_cases z:j=last
  ·rw[if_pos z,z]
   have a1:w∣L'*(prodF n T Q last i-c*part*prodF n T S1 last i):=Int.dvd_mul_of_dvd_right (F6 last i (Zi _) hi)
   have a2:w∣L'*(c*part*prodF n T S1 last i):=by rw[ew];exact⟨prodF n T S1 last i,by rw[← ZI,Zab L']⟩
   have:=Zat a1 a2
   rwa[← Zas,ZaA]at this
  ·rw[if_neg z,Qaa (a':=idF) (b':=Q) (λl hl=>sp.tl j l (by omega) hjn hl) (λ_ _=>rfl),Qad _ _ hjn]
   exact row i j (by omega) hjn hi
 ·by_cases z:j=last
  ·rw[if_pos z,if_neg (by omega),z]
   rw[h.top (by omega),eL]
   exact Int.dvd_mul_left _ _
  ·rw[if_neg z,if_neg (by omega)]
   exact h.nxt j (by omega) hjn
theorem QmT{i:Int}{k:Nat}(h:i.natAbs<2^k)(hk:k<=2^20):QbL i:=Zk (Zbj h) hk
noncomputable def QgZ(Qbc:Den):DS:=(Qf (QH (QO (Q5 (Qa 0)) (.nm 1) [none,none,some 0] QR (Qk 2 Qbc [] (Qd (Qa 2) (Qd (Qa 1) Qg))))) Qi)
def Qf4(d:Den):Prop:=∀n:Nat,n<=1000->d [.int n]=some (Qc n n idF,true)
theorem QsQ{du:Den}(hu:Qjz du):Qf4 (Qq 1 (QgZ du)):=λn hn=>by
 have e:Qc n n idF=Qc n n λi j=>if j=i then 1 else 0:=by
  unfold Qc
  refine congrArg D.lst (ZO λi _=>QcE λj _=>?_)
  show idF i j=if j=i then 1 else 0
  unfold idF
  by_cases z:i=j
  ·rw[if_pos z,if_pos z.symm]
  ·rw[if_neg z,if_neg (Ne.symm z)]
 rw[e]
 exact Q1 (QE (QL (List.range n) (Qac rfl rfl (by omega)) rfl λi _=>⟨[none,some (.int i,true),some (.int n,true)],rfl,⟨Qe n λj=>if j=i then 1 else 0,true,[]⟩,Qm rfl (hu n i hn) rfl,rfl,rfl⟩) ⟨rfl,rfl⟩)
noncomputable def QoX:DS:=(Qf (QH (QO (QdU (Qa 1) (Qa 3)) (.tp [1,2]) [none,none,none,some 0,some 2] QR (Q8 (Qaq (Qa 3) (Qa 1)) (Qaq (Qa 4) (Qa 2))))) Qi)
def QhW(d:Den):Prop:=∀(n:Nat) (p q:Int) (a b:Nat->Int),QbL p->QbL q->(∀i,i<n->QbL (a i)/\QbL (b i))->d [.int p,Qe n a,.int q,Qe n b]=some (Qe n λi=>p*a i+q*b i,true)
theorem Qsq:QhW (Qq 4 QoX):=λn p q a b hp hq hb=>
 Q1 (QE (QL (List.range n) (Qen rfl rfl rfl rfl) rfl λi hi=>⟨[none,some (.int (a i),true),some (.int (b i),true),some (.int p,true),some (.int q,true)],rfl,⟨.int (p*a i+q*b i),true,[]⟩,Qaz (Qap rfl rfl rfl rfl (QdN hp (hb i (Zr.mp hi)).1)) rfl (Qap rfl rfl rfl rfl (QdN hq (hb i (Zr.mp hi)).2)) rfl,rfl,rfl⟩) ⟨rfl,rfl⟩)
noncomputable def Qcl(r x y:Int):Nat->Int
 | 0=>r
 | 1=>x
 | _=>y
theorem QlD{r x y:Int}(h1:r.natAbs<2^2000)(h2:x.natAbs<2^2000)(h3:y.natAbs<2^2000):∀i,QbL (Qcl r x y i)
 | 0=>QaN h1
 | 1=>QaN h2
 | _+2=>QaN h3
noncomputable def QfG(QbI:Den):DS:=(Qf (Qu 2 (Qav (Qd (Qa 0) (Qd (dC (.int 1)) (Qd (dC (.int 0)) Qg))))) (Qf (Qu 3 (Qav (Qd (Qa 1) (Qd (dC (.int 0)) (Qd (dC (.int 1)) Qg))))) (Qf (Qck (QM (dOp gNe (Ql (Qa 3) (dC (.int 0))) (dC (.int 0)))) (Qf (Qu 4 (Qk 4 QbI [] (Qd (dC (.int 1)) (Qd (Qa 2) (Qd (dOp QaP (dC (.int 0)) (dOp Qcq (Ql (Qa 2) (dC (.int 0))) (Ql (Qa 3) (dC (.int 0))))) (Qd (Qa 3) Qg)))))) (Qf (Qu 2 (Qao (Qa 3))) (Qf (Qu 3 (Qao (Qa 4))) Qi)))) (Qf (QH (QpK (Qd (Qa 2) Qg))) Qi))))
structure Wgh (a b R0 R1:Nat) (x0 y0 x1 y1:Int):Prop where
 e0:(R0:Int)=x0*a+y0*b
 e1:(R1:Int)=x1*a+y1*b
 dv:∀t:Nat,(t∣R0/\t∣R1)↔(t∣a/\t∣b)
 l0:R0<2^2000
 l1:R1<2^2000
 bx:x1.natAbs*R0+x0.natAbs*R1<=b
 by':y1.natAbs*R0+y0.natAbs*R1<=a
 x0l:x0.natAbs<=b+1
 x1l:x1.natAbs<=b+1
 y0l:y0.natAbs<=a+1
 y1l:y1.natAbs<=a+1
theorem QoG{p0 p1:Int}{q R0 R1 R2 c:Nat}(e:q*R1+R2=R0)(h:p1.natAbs*R0+p0.natAbs*R1<=c):(1*p0+(0-(q:Int))*p1).natAbs*R1+p1.natAbs*R2<=c:=by
 have h1:(1*p0+(0-(q:Int))*p1).natAbs<=p0.natAbs+q*p1.natAbs:=by
  have:=ZaU (1*p0) ((0-(q:Int))*p1)
  rw[ZQ,ZaQ,Zax,Int.natAbs_neg,ZT,Int.natAbs_natCast]at this
  rw[ZQ,ZaQ,Zax]
  exact this
 have h2:=ZaX R1 h1
 have h3:(p0.natAbs+q*p1.natAbs)*R1+p1.natAbs*R2=p1.natAbs*R0+p0.natAbs*R1:=by
  rw[← e,Nat.add_mul,Nat.mul_add]
  have:q*p1.natAbs*R1=p1.natAbs*(q*R1):=by rw[ZaH q,Nat.mul_assoc]
  omega
 omega
theorem Wgh.step{a b R0 R1:Nat}{x0 y0 x1 y1:Int}(h:Wgh a b R0 R1 x0 y0 x1 y1)(hr:R1≠0):Wgh a b R1 (R0 % R1) x1 y1 (1*x0+(0-((R0 / R1:Nat):Int))*x1) (1*y0+(0-((R0 / R1:Nat):Int))*y1):=by
 have e:R0 / R1*R1+R0 % R1=R0:=by rw[ZaH];exact Nat.div_add_mod R0 R1
 have bx:=QoG e h.bx
 have by':=QoG e h.by'
 have r1:1<=R1:=by omega
 refine⟨h.e1,?_,λt=>?_,h.l1,Zp (Nat.mod_lt _ (by omega)) (Zbk h.l1),bx,by',h.x1l,?_,h.y1l,?_⟩
 ·have e':((R0 / R1:Nat):Int)*R1+((R0 % R1:Nat):Int)=R0:=by rw[← Zac,← ZaF,e]
  have h0:=h.e0
  have h1:=h.e1
  generalize ((R0 / R1:Nat):Int)=q at *
  generalize ((R0 % R1:Nat):Int)=z at *
  grind
 ·rw[← h.dv t]
  constructor
  ·rintro⟨h1,h2⟩
   exact⟨(Nat.dvd_mod_iff h1).mp h2,h1⟩
  ·rintro⟨h1,h2⟩
   exact⟨h2,(Nat.dvd_mod_iff h2).mpr h1⟩
 ·have:=Nat.mul_le_mul_left (1*x0+(0-((R0 / R1:Nat):Int))*x1).natAbs r1
  omega
 ·have:=Nat.mul_le_mul_left (1*y0+(0-((R0 / R1:Nat):Int))*y1).natAbs r1
  omega
def QkB(d:Den):Prop:=∀a b:Nat,a<2^1999->b<2^1999->∃(g:Nat) (x y:Int),d [.int a,.int b]=some (.tup [.int g,.int x,.int y],true)/\(g:Int)=x*a+y*b/\g∣a/\g∣b/\x.natAbs<=2^1999/\y.natAbs<=2^1999
theorem QsV{da:Den}(ha:QhW da):QkB (Qq 5 (QfG da)):=λa b la lb=>by
 have p:(2:Nat)^2000=2*2^1999:=by rw[Zbb,ZaH]
 have key:Run (QfG da) [some (.int a,true),some (.int b,true),none,none,none] λo=>match o with | .rt d fr=>fr=true/\∃(g:Nat) (x y:Int),d= .tup [.int g,.int x,.int y]/\(g:Int)=x*a+y*b/\g∣a/\g∣b/\x.natAbs<=2^1999/\y.natAbs<=2^1999 | _=>False:=by
  refine run_seq (Qh (r:=⟨Qe 3 (Qcl a 1 0),true,[]⟩) rfl ?_)
  rw[Qn]
  refine run_seq (Qh (r:=⟨Qe 3 (Qcl b 0 1),true,[]⟩) rfl ?_)
  rw[Qn]
  refine Q0 (P:=λρ=>∃(g:Nat) (x y z u:Int) (b2:Bool) (j3 j4:Option (D×Bool)),Wgh a b g 0 x y z u/\ρ=[some (.int a,true),some (.int b,true),some (Qe 3 (Qcl g x y),b2),j3,j4]) ?_ ?_
  ·refine Qfy (λn ρ=>∃(R0 R1:Nat) (x0 y0 x1 y1:Int) (b2 b3:Bool) (j4:Option (D×Bool)),R1=n/\Wgh a b R0 R1 x0 y0 x1 y1/\ρ=[some (.int a,true),some (.int b,true),some (Qe 3 (Qcl R0 x0 y0),b2),some (Qe 3 (Qcl R1 x1 y1),b3),j4]) ?_ b _ ⟨a,b,1,0,0,1,true,true,none,rfl,⟨by omega,by omega,λt=>Iff.rfl,by omega,by omega,by simp,by simp,by simp,by simp,by simp,by simp⟩,rfl⟩
   rintro n ρ ⟨R0,R1,x0,y0,x1,y1,b2,b3,j4,rfl,W,rfl⟩
   obtain⟨r2,v2,d2⟩:∃r:HS.R,Qa 2 [some (.int a,true),some (.int b,true),some (Qe 3 (Qcl R0 x0 y0),b2),some (Qe 3 (Qcl R1 x1 y1),b3),j4]=some r/\r.d=Qe 3 (Qcl R0 x0 y0):=by cases b2<;>exact⟨_,rfl,rfl⟩
   obtain⟨r3,v3,d3⟩:∃r:HS.R,Qa 3 [some (.int a,true),some (.int b,true),some (Qe 3 (Qcl R0 x0 y0),b2),some (Qe 3 (Qcl R1 x1 y1),b3),j4]=some r/\r.d=Qe 3 (Qcl R1 x1 y1):=by cases b3<;>exact⟨_,rfl,rfl⟩
   refine⟨!decide ((R1:Int)=0),QI (QbQ (Qam v3 d3 rfl rfl (by decide)) rfl rfl rfl) rfl,λh=>?_,λh=>?_⟩
   ·have hr:R1=0:=by
     have:(R1:Int)=0:=by simpa using h
     omega
    subst hr
    exact⟨R0,x0,y0,x1,y1,b2,_,_,W,rfl⟩
   ·have hr:R1≠0:=by
     have:¬(R1:Int)=0:=by simpa using h
     omega
    have hq:(R0 / R1)<2^2000:=ZW (Nat.div_le_self R0 R1) W.l0
    have x0l:=W.x0l
    have x1l:=W.x1l
    have y0l:=W.y0l
    have y1l:=W.y1l
    have W':=W.step hr
    have er:(Qe 3 λi=>1*Qcl R0 x0 y0 i+(0-((R0 / R1:Nat):Int))*Qcl R1 x1 y1 i)=Qe 3 (Qcl ((R0 % R1:Nat):Int) (1*x0+(0-((R0 / R1:Nat):Int))*x1) (1*y0+(0-((R0 / R1:Nat):Int))*y1)):=QcE λi hi=>by
     match i,hi with
     | 0,_=>
      show 1*(R0:Int)+(0-((R0 / R1:Nat):Int))*R1=((R0 % R1:Nat):Int)
      have e:R0 / R1*R1+R0 % R1=R0:=by rw[ZaH];exact Nat.div_add_mod R0 R1
      have e':((R0 / R1:Nat):Int)*R1+((R0 % R1:Nat):Int)=R0:=by rw[← Zac,← ZaF,e]
      generalize ((R0 / R1:Nat):Int)=q at *
      generalize ((R0 % R1:Nat):Int)=z at *
      grind
     | 1,_=>rfl
     | 2,_=>rfl
    have ec:=ha 3 1 (0-((R0 / R1:Nat):Int)) (Qcl R0 x0 y0) (Qcl R1 x1 y1) (QaN (by decide)) (QaN (by rw[ZaQ,Int.natAbs_neg,Int.natAbs_natCast];exact hq)) λi _=>⟨QlD (by have:=W.l0;omega) (by omega) (by omega) i,QlD (by have:=W.l1;omega) (by omega) (by omega) i⟩
    rw[er]at ec
    refine run_seq (Qh (Qm (r:=⟨[.int 1,Qe 3 (Qcl R0 x0 y0),.int (0-((R0 / R1:Nat):Int)),Qe 3 (Qcl R1 x1 y1)],_,_⟩) ((Qs rfl (Qs v2 (Qs (Qdr (b:=((R0 / R1:Nat):Int)) rfl rfl (Qu9 (b:=R1) (Qam v2 d2 rfl rfl (by decide)) rfl (Qam v3 d3 rfl rfl (by decide)) rfl (by omega) (by have:=W.l1;omega)) rfl) (Qs v3 (QP _))))).trans (by rw[d2,d3])) ec rfl) ?_)
    rw[Qn]
    generalize hnf:Qcl ((R0 % R1:Nat):Int) (1*x0+(0-((R0 / R1:Nat):Int))*x1) (1*y0+(0-((R0 / R1:Nat):Int))*y1)=nf at ec er ⊢
    cases b3
    ·refine run_seq (Qh (QaT rfl) ?_)
     refine run_seq (Qh (QaT rfl) (Qr ?_))
     refine⟨R0 % R1,Nat.mod_lt _ (by omega),R1,R0 % R1,x1,y1,_,_,false,false,some (Qe 3 nf,false),rfl,W',?_⟩
     rw[hnf];rfl
    ·refine run_seq (Qh (QaT rfl) ?_)
     refine run_seq (Qh (QaT rfl) (Qr ?_))
     refine⟨R0 % R1,Nat.mod_lt _ (by omega),R1,R0 % R1,x1,y1,_,_,false,false,some (Qe 3 nf,false),rfl,W',?_⟩
     rw[hnf];rfl
  ·rintro ρ ⟨g,x,y,z,u,b2,j3,j4,W,rfl⟩
   have hd:=(W.dv g).mp ⟨Nat.dvd_refl g,Nat.dvd_zero g⟩
   have x0l:=W.x0l
   have y0l:=W.y0l
   refine Qw (QaY (by cases b2<;>rfl) ⟨rfl,g,x,y,rfl,W.e0,hd.1,hd.2,by omega,by omega⟩)
 obtain⟨o,h1,h2⟩:=key
 cases o with
 | rt d fr=>
  obtain⟨rfl,g,x,y,rfl,h⟩:=h2
  exact⟨g,x,y,by show Option.bind (QfG da [some (.int a,true),some (.int b,true),none,none,none]) outD=_;rw[h1];rfl,h⟩
 | _=>exact h2.elim
noncomputable def QfW(T:Nat->Nat->Int)(l a:Nat)(p q r s:Int):Nat->Nat->Int:=Qdl T l (λj=>p*T l j+q*T a j) a λj=>r*T l j+s*T a j
noncomputable def Qei(B:Nat->Nat->Int)(l a:Nat)(p q r s:Int):Nat->Nat->Int:=λi j=>if j=a then(0-q)*B i l+p*B i a else if j=l then s*B i l+(0-r)*B i a else B i j
theorem Qg7{T:Nat->Nat->Int}{l a:Nat}{p q r s:Int}(j:Nat):QfW T l a p q r s a j=r*T l j+s*T a j:=by unfold QfW Qdl;rw[if_pos rfl]
theorem QhB{T:Nat->Nat->Int}{l a:Nat}{p q r s:Int}(h:l≠a)(j:Nat):QfW T l a p q r s l j=p*T l j+q*T a j:=by unfold QfW Qdl;rw[if_neg h,if_pos rfl]
theorem Qfp{T:Nat->Nat->Int}{l a i:Nat}{p q r s:Int}(h1:i≠a)(h2:i≠l)(j:Nat):QfW T l a p q r s i j=T i j:=by unfold QfW Qdl;rw[if_neg h1,if_neg h2]
theorem Qnf{B:Nat->Nat->Int}{l a:Nat}{p q r s:Int}(i:Nat):Qei B l a p q r s i a=(0-q)*B i l+p*B i a:=by unfold Qei;rw[if_pos rfl]
theorem Qnn{B:Nat->Nat->Int}{l a:Nat}{p q r s:Int}(h:l≠a)(i:Nat):Qei B l a p q r s i l=s*B i l+(0-r)*B i a:=by unfold Qei;rw[if_neg h,if_pos rfl]
theorem Qjt{B:Nat->Nat->Int}{l a j:Nat}{p q r s:Int}(h1:j≠a)(h2:j≠l)(i:Nat):Qei B l a p q r s i j=B i j:=by unfold Qei;rw[if_neg h1,if_neg h2]
theorem QoS(n:Nat)(α β:Int)(f g:Nat->Int):(Qp n λk=>α*f k+β*g k)=α*Qp n f+β*Qp n g:=by rw[QaA,Qaf,Qaf]
theorem Qgr(n:Nat)(α β:Int)(f g h:Nat->Int):(Qp n λk=>(α*f k+β*g k)*h k)=α*(Qp n λk=>f k*h k)+β*Qp n λk=>g k*h k:=by
 rw[← QoS];exact Qj λk _=>by rw[ZV,ZI,ZI]
theorem Qls(n:Nat)(α β:Int)(f g h:Nat->Int):(Qp n λk=>h k*(α*f k+β*g k))=α*(Qp n λk=>h k*f k)+β*Qp n λk=>h k*g k:=by
 rw[← QoS];exact Qj λk _=>by rw[Zas,ZK,ZK (h k)]
theorem Quy{n:Nat}{T B:Nat->Nat->Int}{l a:Nat}{p q r s:Int}(hl:l<n)(ha:a<n)(hla:l≠a)(hd:p*s-q*r=1)(u1:Q9 n T B)(u2:Q9 n B T):
  Q9 n (QfW T l a p q r s) (Qei B l a p q r s)/\Q9 n (Qei B l a p q r s) (QfW T l a p q r s):=by
 constructor
 ·intro i j hi hj
  have two:∀c d:Nat,c<n->d<n->(Qp n λk=>T c k*B k d)=idF c d:=λc d hc hd=>u1 c d hc hd
  have right:∀c,c<n->(Qp n λk=>T c k*Qei B l a p q r s k j)=if j=a then(0-q)*idF c l+p*idF c a else if j=l then s*idF c l+(0-r)*idF c a else idF c j:=λc hc=>by
   by_cases ja:j=a
   ·subst ja
    rw[if_pos rfl,Qj λk _=>by rw[Qnf],Qls,two c l hc hl,two c j hc hj]
   ·by_cases jl:j=l
    ·subst jl
     rw[if_neg ja,if_pos rfl,Qj λk _=>by rw[Qnn hla],Qls,two c j hc hj,two c a hc ha]
    ·rw[if_neg ja,if_neg jl,Qj λk _=>by rw[Qjt ja jl],two c j hc hj]
  have ll:idF l l=1:=by unfold idF;rw[if_pos rfl]
  have aa:idF a a=1:=by unfold idF;rw[if_pos rfl]
  have la:idF l a=0:=by unfold idF;rw[if_neg hla]
  have al:idF a l=0:=by unfold idF;rw[if_neg (Ne.symm hla)]
  have ne:∀c d:Nat,c≠d->idF c d=0:=λc d h=>by unfold idF;rw[if_neg h]
  show(Qp n λk=>QfW T l a p q r s i k*Qei B l a p q r s k j)=idF i j
  by_cases ia:i=a
  ·subst ia
   rw[Qj λk _=>by rw[Qg7],Qgr,right l hl,right i hi]
   by_cases ja:j=i
   ·subst ja;rw[if_pos rfl,if_pos rfl,ll,la,al,aa];grind
   ·rw[if_neg ja,if_neg ja]
    by_cases jl:j=l
    ·subst jl;rw[if_pos rfl,if_pos rfl,ll,la,al,aa];grind
    ·rw[if_neg jl,if_neg jl,ne l j (Ne.symm jl),ne i j (Ne.symm ja)];omega
  ·by_cases il:i=l
   ·subst il
    rw[Qj λk _=>by rw[QhB hla],Qgr,right i hi,right a ha]
    by_cases ja:j=a
    ·subst ja;rw[if_pos rfl,if_pos rfl,ll,la,al,aa];grind
    ·rw[if_neg ja,if_neg ja]
     by_cases jl:j=i
     ·subst jl;rw[if_pos rfl,if_pos rfl,ll,la,al,aa];grind
     ·rw[if_neg jl,if_neg jl,ne i j (Ne.symm jl),ne a j (Ne.symm ja)];omega
   ·rw[Qj λk _=>by rw[Qfp ia il],right i hi,ne i l il,ne i a ia]
    by_cases ja:j=a
    ·subst ja;rw[if_pos rfl,ne i j ia];omega
    ·rw[if_neg ja]
     by_cases jl:j=l
     ·subst jl;rw[if_pos rfl,ne i j il];omega
     ·rw[if_neg jl]
 ·intro i j hi hj
  rw[← u2 i j hi hj]
  refine QsP hl ha hla (λk _ k1 k2=>by rw[Qjt k2 k1,Qfp k2 k1]) ?_
  rw[Qnn hla,Qnf,QhB hla,Qg7]
  generalize B i l=bl
  generalize B i a=ba
  generalize T l j=tl
  generalize T a j=ta
  grind
structure QeJ (n last at':Nat) (x:Nat->Int) (T B:Nat->Nat->Int) (wh:Nat):Prop where
 u1:Q9 n T B
 u2:Q9 n B T
 tl:∀i j,last<i->i<n->j<n->T i j=idF i j
 tu:∀i j,i<=last->last<j->j<n->T i j=0
 bl:∀i j,i<n->last<j->j<n->B i j=idF i j
 un:∀i j,at'<=i->i<last->j<n->T i j=idF i j
 h0:∀i,i<at'->(Qp n λj=>T i j*x j)=0
 hl:(Qp n λj=>T last j*x j)=wh
 wl:wh<2^1999
 bT:∀i j,i<n->j<n->(T i j).natAbs<=2^(2000*at')
 bB:∀i j,i<n->j<n->(B i j).natAbs<=2^(2000*at')
theorem Qpz{p q a b:Int}{k:Nat}(hp:p.natAbs<=2^1999)(hq:q.natAbs<=2^1999)(ha:a.natAbs<=2^(2000*k))(hb:b.natAbs<=2^(2000*k)):(p*a+q*b).natAbs<=2^(2000*(k+1)):=by
 have h1:=ZaU (p*a) (q*b)
 rw[ZT,ZT]at h1
 have h2:=ZaL hp ha
 have h3:=ZaL hq hb
 have h4:(2:Nat)^(2000*(k+1))=2*(2^1999*2^(2000*k)):=by
  rw[← Nat.pow_add,← Nat.pow_succ']
  congr 1;omega
 omega
theorem QeJ.skip{n last at':Nat}{x:Nat->Int}{T B:Nat->Nat->Int}{wh:Nat}(h:QeJ n last at' x T B wh)(hl:last<n)(ha:at'<last)(hx:x at'=0):QeJ n last (at'+1) x T B wh:=by
 have up:(2:Nat)^(2000*at')<=2^(2000*(at'+1)):=ZH (by decide) (by omega)
 refine⟨h.u1,h.u2,h.tl,h.tu,h.bl,λi j h1 h2=>h.un i j (by omega) h2,λi hi=>?_,h.hl,h.wl,λi j hi hj=>Zk (h.bT i j hi hj) up,λi j hi hj=>Zk (h.bB i j hi hj) up⟩
 by_cases e:i=at'
 ·subst e
  rw[QbS (a:=i) (by omega) λj hj ne=>by rw[h.un i j (Zi _) ha hj];unfold idF;rw[if_neg (Ne.symm ne),ZD],hx,Zu]
 ·exact h.h0 i (by omega)
theorem QeJ.step{n last at':Nat}{x:Nat->Int}{T B:Nat->Nat->Int}{wh g one other:Nat}{p q:Int}(h:QeJ n last at' x T B wh)(hl:last<n)(ha:at'<last)(g0:g≠0)(hw:wh=g*one)(hx:x at'=(g*other:Nat))(hxl:g*other<2^1999)(hg:(g:Int)=p*wh+q*x at')
  (pl:p.natAbs<=2^1999) (ql:q.natAbs<=2^1999):QeJ n last (at'+1) x (QfW T last at' p q (0-(other:Int)) one) (Qei B last at' p q (0-(other:Int)) one) g:=by
 have hla:last≠at':=by omega
 have an:at'<n:=by omega
 have g0':(g:Int)≠0:=by omega
 have onel:one<2^1999:=by
  have:=h.wl
  have:one<=g*one:=Nat.le_mul_of_pos_left one (by omega)
  omega
 have otherl:other<2^1999:=by
  have:other<=g*other:=Nat.le_mul_of_pos_left other (by omega)
  omega
 have gl:g<2^1999∨one=0:=by
  by_cases z:one=0
  ·exact .inr z
  ·have:=h.wl
   have:g<=g*one:=ZbJ g (by omega)
   exact .inl (by omega)
 have hd:p*one-q*(0-(other:Int))=1:=by
  rw[hw,hx,Zac,Zac]at hg
  have:(g:Int)*(p*one-q*(0-(other:Int)))=g*1:=by grind
  exact Zav g0' this
 have gl:g<2^1999:=by
  rcases gl with z | z
  ·exact z
  ·rw[z]at hd
   have:other≠0:=λz=>by rw[z]at hd;simp at hd
   have:g<=g*other:=ZbJ g (by omega)
   omega
 obtain⟨v1,v2⟩:=Quy hl an hla hd h.u1 h.u2
 have tA:∀j,j<n->T at' j=idF at' j:=λj hj=>h.un at' j (Zi _) ha hj
 have hA:(Qp n λj=>T at' j*x j)=x at':=by
  rw[QbS an λj hj ne=>by rw[tA j hj];unfold idF;rw[if_neg (Ne.symm ne),ZD],tA at' an]
  unfold idF;rw[if_pos rfl,ZQ]
 have ol:(0-(other:Int)).natAbs<=2^1999:=by rw[ZaQ,Int.natAbs_neg,Int.natAbs_natCast];omega
 have ol':(0-(0-(other:Int))).natAbs<=2^1999:=by rw[ZaQ,Int.natAbs_neg];exact ol
 have ql':(0-q).natAbs<=2^1999:=by rw[ZaQ,Int.natAbs_neg];exact ql
 have oneb:(one:Int).natAbs<=2^1999:=by rw[Int.natAbs_natCast];omega
 have up:(2:Nat)^(2000*at')<=2^(2000*(at'+1)):=ZH (by decide) (by omega)
 refine⟨v1,v2,λi j h1 h2 h3=>by rw[Qfp (by omega) (by omega)];exact h.tl i j h1 h2 h3,λi j h1 h2 h3=>?_,λi j h1 h2 h3=>by rw[Qjt (by omega) (by omega)];exact h.bl i j h1 h2 h3,λi j h1 h2 h3=>by rw[Qfp (by omega) (by omega)];exact h.un i j (by omega) h2 h3,λi hi=>?_,?_,gl,λi j hi hj=>?_,λi j hi hj=>?_⟩
 ·by_cases e1:i=at'
  ·subst e1;rw[Qg7,h.tu last j (Zi _) h2 h3,h.tu i j (by omega) h2 h3];omega
  ·by_cases e2:i=last
   ·subst e2;rw[QhB hla,h.tu i j (Zi _) h2 h3,h.tu at' j (by omega) h2 h3];omega
   ·rw[Qfp e1 e2];exact h.tu i j h1 h2 h3
 ·by_cases e1:i=at'
  ·subst e1
   rw[Qj λj _=>by rw[Qg7],Qgr,h.hl,hA,hw,hx,Zac,Zac]
   grind
  ·rw[Qj λj _=>by rw[Qfp e1 (by omega)]]
   exact h.h0 i (by omega)
 ·rw[Qj λj _=>by rw[QhB hla],Qgr,h.hl,hA]
  exact hg.symm
 ·by_cases e1:i=at'
  ·subst e1;rw[Qg7];exact Qpz ol oneb (h.bT last j hl hj) (h.bT i j hi hj)
  ·by_cases e2:i=last
   ·subst e2;rw[QhB hla];exact Qpz pl ql (h.bT i j hi hj) (h.bT at' j an hj)
   ·rw[Qfp e1 e2];exact Zk (h.bT i j hi hj) up
 ·by_cases e1:j=at'
  ·subst e1;rw[Qnf];exact Qpz ql' pl (h.bB i last hi hl) (h.bB i j hi hj)
  ·by_cases e2:j=last
   ·subst e2;rw[Qnn hla];exact Qpz oneb ol' (h.bB i j hi hj) (h.bB i at' hi an)
   ·rw[Qjt e1 e2];exact Zk (h.bB i j hi hj) up
theorem QeJ.start{n last:Nat}{x:Nat->Int}(hl:last<n){wh:Nat}(hw:x last=wh)(wl:wh<2^1999):QeJ n last 0 x idF idF wh:=by
 have u:Q9 n idF idF:=λi j hi hj=>Qad _ _ hi
 have b1:∀i j,(idF i j).natAbs<=2^(2000*0):=λi j=>by unfold idF;split<;>decide
 refine⟨u,u,λ_ _ _ _ _=>rfl,λi j h1 h2 _=>by unfold idF;rw[if_neg (by omega)],λ_ _ _ _ _=>rfl,λ_ _ _ _ _=>rfl,λi hi=>by omega,?_,wl,λi j _ _=>b1 i j,λi j _ _=>b1 i j⟩
 rw[QbS hl λj _ ne=>by unfold idF;rw[if_neg (Ne.symm ne),ZD]]
 unfold idF
 rw[if_pos rfl,ZQ];exact hw
theorem QeJ.tell{n last:Nat}{x:Nat->Int}{T B:Nat->Nat->Int}{wh:Nat}(h:QeJ n last last x T B wh):Ql7 n last x T B wh:=⟨h.u1,h.u2,h.tl,h.tu,h.bl,λi hi=>by
 by_cases e:i=last
 ·rw[if_pos e,e];exact h.hl
 ·rw[if_neg e];exact h.h0 i (by omega)⟩
theorem QgK{n N i:Nat}{f:Nat->Nat->Int}(h:i<n):((List.range n).map λi=>Qe N (f i))[i]? =some (Qe N (f i)):=by
 rw[Zl,ZG h];rfl
theorem Qt5{t b ln n i k:Nat}{T B:Nat->Nat->Int}{a1 a2 a3 a4:Nat->Int}{fi fk g1 g2 g3 g4:DE}{ρ ρ1:En}{Q:Out->Prop}(ht:ρ[t]? =some (some (Qc n n T,true)))(hb:ρ[b]? =some (some (Qc n n B,true)))(h1:t≠b)(h2:ln≠t)(h3:ln≠b)(h4:ln<ρ.length)
  (ei:fi ρ=some ⟨.int i,true,[]⟩) (ek:fk ρ=some ⟨.int k,true,[]⟩) (hi:i<n) (hk:k<n) (e1:(((ρ.set t none).set b none).set ln none).set ln (some (.tup [Qe n (T i),Qe n (T k),Qe n (B i),Qe n (B k)],false))=ρ1)
  (ei':fi ρ1=some ⟨.int i,true,[]⟩) (ek':fk ρ1=some ⟨.int k,true,[]⟩) (c1:g1 ρ1=some ⟨Qe n a1,true,[]⟩) (c2:g2 ρ1=some ⟨Qe n a2,true,[]⟩) (c3:g3 ρ1=some ⟨Qe n a3,true,[]⟩) (c4:g4 ρ1=some ⟨Qe n a4,true,[]⟩)
  (q:Q (.nx (((((ρ.set t none).set b none).set ln none).set t (some (Qc n n (Qdl T i a1 k a2),true))).set b (some (Qc n n (Qdl B i a3 k a4),true))))):Run (Qjc t b ln fi fk g1 g2 g3 g4) ρ Q:=by
 refine⟨_,?_,q⟩
 unfold Qjc
 rw[ht,hb]
 simp only[Qc]
 rw[if_pos ⟨h1,h2,h3,h4⟩,ei,Za,ek,Za]
 simp only[Zx,Zo]
 rw[Qcf (show(0:Int)<=i by omega) (by omega),Qcf (show(0:Int)<=k by omega) (by omega)]
 simp only[Za,ZC]
 rw[QgK hi,QgK hk,QgK hi,QgK hk]
 simp only[Za]
 have fl:(D.tup [Qe n (T i),Qe n (T k),Qe n (B i),Qe n (B k)]).flat=false:=rfl
 rw[fl,e1]
 unfold Qnc
 rw[ei',Za,ek',Za,c1,Za,c2,Za,c3,Za,c4,Za]
 have o0:∀a:Nat->Int,QhA (HS.R.mk (Qe n a) true [])=true:=λa=>rfl
 simp only[o0,and_self,if_true]
 rw[Qc9 hi,Qc9 hk,Qc9 hi,Qc9 hk]
 rfl
noncomputable def Qdh(Q7:Den)(QdI:Den)(QbI:Den)(QaV:Den):DS:=(Qf (Qu 2 (Qk 1 Q7 [] (Qd (dBf Qat (Qd (Qa 0) Qg)) Qg))) (Qf (Qu 3 (Qk 1 Q7 [] (Qd (dBf Qat (Qd (Qa 0) Qg)) Qg))) (Qf (Qu 4 (Qao (Ql (Qa 0) (Qa 1)))) (Qf (QaW (Q5 (Qa 1)) (.nm 5) (Qf (Qu 6 (Qk 2 QdI [] (Qd (Qa 4) (Qd (Ql (Qa 0) (Qa 5)) Qg)))) (Qf (sIf (QM (dOp gEq (Ql (Qa 6) (dC (.int 0))) (dC (.int 0)))) (Qf Qpk Qi) Qi) (Qf (Qu 7 (dOp Qcq (Qa 4) (Ql (Qa 6) (dC (.int 0))))) (Qf (Qu 8 (dOp Qcq (Ql (Qa 0) (Qa 5)) (Ql (Qa 6) (dC (.int 0))))) (Qf (Qjc 2 3 9 (Qa 1) (Qa 5) (Qk 4 QbI [] (Qd (Ql (Qa 6) (dC (.int 1))) (Qd (Ql (Qa 9) (dC (.int 0))) (Qd (Ql (Qa 6) (dC (.int 2))) (Qd (Ql (Qa 9) (dC (.int 1))) Qg))))) (Qk 4 QbI [] (Qd (dOp QaP (dC (.int 0)) (Qa 8)) (Qd (Ql (Qa 9) (dC (.int 0))) (Qd (Qa 7) (Qd (Ql (Qa 9) (dC (.int 1))) Qg))))) (Qk 4 QbI [] (Qd (Qa 7) (Qd (Ql (Qa 9) (dC (.int 2))) (Qd (Qa 8) (Qd (Ql (Qa 9) (dC (.int 3))) Qg))))) (Qk 4 QbI [] (Qd (dOp QaP (dC (.int 0)) (Ql (Qa 6) (dC (.int 2)))) (Qd (Ql (Qa 9) (dC (.int 2))) (Qd (Ql (Qa 6) (dC (.int 1))) (Qd (Ql (Qa 9) (dC (.int 3))) Qg)))))) (Qf (Qu 4 (Qao (Ql (Qa 6) (dC (.int 0))))) Qi))))))) (Qf (QH (Qe3 (Qd (Qa 2) (Qd (Qk 1 QaV [] (Qd (Qa 3) Qg)) Qg)))) Qi)))))
def Qkm(d:Den):Prop:=∀(n last:Nat) (x:Nat->Int),last<n->n<=8->(∀i,i<n->0<=x i/\x i<2^1999)->∃(T B:Nat->Nat->Int) (g:Nat),d [Qe n x,.int last]=some (.tup [Qc n n T,Qc n n B],true)/\Ql7 n last x T B g/\(∀i j,i<n->j<n->(T i j).natAbs<=2^16000)/\(∀i j,i<n->j<n->(B i j).natAbs<=2^16000)
theorem Qst{du dw da dt:Den}(hu:Qf4 du)(hw:QkB dw)(ha:QhW da)(ht:Qe9 dt):Qkm (Qq 10 (Qdh du dw da dt)):=λn last x hl n8 hx=>by
 obtain⟨X,hX⟩:∃X:Nat->Nat,∀i,i<n->x i=X i:=⟨λi=>(x i).toNat,λi hi=>by have:=(hx i hi).1;show x i=((x i).toNat:Int);omega⟩
 have hXl:∀i,i<n->X i<2^1999:=λi hi=>by have:=(hx i hi).2;rw[hX i hi]at this;omega
 have key:Run (Qdh du dw da dt) [some (Qe n x,false),some (.int last,true),none,none,none,none,none,none,none,none] λo=>match o with | .rt d fr=>fr=true/\∃(T B:Nat->Nat->Int) (g:Nat),d= .tup [Qc n n T,Qc n n B]/\Ql7 n last x T B g/\(∀i j,i<n->j<n->(T i j).natAbs<=2^16000)/\(∀i j,i<n->j<n->(B i j).natAbs<=2^16000) | _=>False:=by
  have elen:∀ρ:En,ρ[0]? =some (some (Qe n x,false))->dBf Qat (Qd (Qa 0) Qg) ρ=some ⟨.int n,true,[]⟩:=λρ hρ=>QoP (Qhc hρ) rfl
  refine run_seq (Qh (Qm (Qs (elen _ rfl) (QP _)) (hu n (by omega)) rfl) ?_)
  rw[Qn]
  refine run_seq (Qh (Qm (Qs (elen _ rfl) (QP _)) (hu n (by omega)) rfl) ?_)
  rw[Qn]
  refine run_seq (Qh ((QaT (Qam rfl rfl rfl rfl hl)).trans (by rw[hX last hl])) ?_)
  rw[Qbt rfl]
  have symm:(λi j=>idF j i)=idF:=by
   funext i j;unfold idF
   by_cases z:i=j
   ·rw[if_pos z,if_pos z.symm]
   ·rw[if_neg z,if_neg (Ne.symm z)]
  refine Qw (Qaj (List.range last) (λat' ρ=>∃(T B:Nat->Nat->Int) (wh:Nat) (j5 j6 j7 j8 j9:Option (D×Bool)),QeJ n last at' x T B wh/\ρ=[some (Qe n x,false),some (.int last,true),some (Qc n n T,true),some (Qc n n (λi j=>B j i),true),some (.int wh,true),j5,j6,j7,j8,j9]) (Qac rfl rfl (by omega)) rfl ⟨idF,idF,X last,none,none,none,none,none,QeJ.start hl (hX last hl) (hXl last hl),by rw[symm];rfl⟩ ?_ ?_)
  ·rintro k k' ρ hk ⟨T,B,wh,j5,j6,j7,j8,j9,C,rfl⟩
   have hk':k<last/\k=k':=by
    obtain⟨h1,h2⟩:=Zd.mp hk
    simp at h1 h2;exact⟨h1,h2⟩
   obtain⟨hkl,rfl⟩:=hk'
   have kn:k<n:=by omega
   obtain⟨g,p,q,ew,eg,g1,g2,pl,ql⟩:=hw wh (X k) C.wl (hXl k kn)
   refine⟨[some (Qe n x,false),some (.int last,true),some (Qc n n T,true),some (Qc n n (λi j=>B j i),true),some (.int wh,true),some (.int k,true),j6,j7,j8,j9],rfl,?_⟩
   refine run_seq (Qh (Qm (r:=⟨[.int wh,.int (X k)],true,[]⟩) (Qs (r:=⟨.int wh,true,[]⟩) rfl (Qs ((Qam (f:=x) rfl rfl rfl rfl kn).trans (by rw[hX k kn])) (QP _))) ew rfl) ?_)
   rw[Qn]
   change Nx _ (.nx [some (Qe n x,false),some (.int last,true),some (Qc n n T,true),some (Qc n n (λi j=>B j i),true),some (.int wh,true),some (.int k,true),some (.tup [.int g,.int p,.int q],true),j7,j8,j9])
   refine Qw (QZ (QI (Qa9 rfl rfl rfl rfl) rfl) (λh=>?_) (λh=>Qr ?_))
   ·have hg:g=0:=by
     have:(g:Int)=0:=of_decide_eq_true h
     omega
    subst hg
    have hxk:x k=0:=by rw[hX k kn,Nat.eq_zero_of_zero_dvd g2];rfl
    exact Qw ⟨_,rfl,T,B,wh,_,_,_,_,_,C.skip hl hkl hxk,rfl⟩
   have g0:g≠0:=λz=>by
    have:=of_decide_eq_false h
    omega
   obtain⟨one,hone⟩:=g1
   obtain⟨other,hother⟩:=g2
   have gl:g<2^2000:=by
    have p:(2:Nat)^2000=2*2^1999:=by rw[Zbb,ZaH]
    have w1:=C.wl
    have w2:=hXl k kn
    by_cases z:wh=0
    ·by_cases z2:X k=0
     ·rw[z,z2]at eg;simp at eg;omega
     ·have:=Nat.le_of_dvd (by omega) (⟨other,hother⟩:g∣X k);omega
    ·have:=Nat.le_of_dvd (by omega) (⟨one,hone⟩:g∣wh);omega
   refine run_seq (Qh (Qf9 rfl rfl rfl rfl (by omega) (by rw[Int.natAbs_natCast];exact gl) (by rw[hone,Zac])) ?_)
   rw[Qn]
   refine run_seq (Qh (Qf9 ((Qam rfl rfl rfl rfl kn).trans (by rw[hX k kn])) rfl rfl rfl (by omega) (by rw[Int.natAbs_natCast];exact gl) (by rw[hother,Zac])) ?_)
   rw[Qn]
   change Nx _ (.nx [some (Qe n x,false),some (.int last,true),some (Qc n n T,true),some (Qc n n (λi j=>B j i),true),some (.int wh,true),some (.int k,true),some (.tup [.int g,.int p,.int q],true),some (.int one,true),some (.int other,true),j9])
   have C':=C.step hl hkl g0 hone (by rw[hX k kn,hother]) (by rw[← hother];exact hXl k kn) (by rw[hX k kn];exact eg) pl ql
   have b8:∀z:Int,z.natAbs<=2^(2000*k)->QbL z:=λz hz=>QmT (k:=16001) (by
    have:(2:Nat)^(2000*k)<2^16001:=Nat.pow_lt_pow_right (by decide) (by omega)
    omega) (by decide)
   have bS:∀z:Int,z.natAbs<=2^1999->QbL z:=λz hz=>QaN (by
    have:(2:Nat)^1999<2^2000:=Nat.pow_lt_pow_right (by decide) (by decide)
    omega)
   have w1:=C.wl
   have onel:(one:Int).natAbs<=2^1999:=by
    rw[Int.natAbs_natCast]
    have:one<=g*one:=Nat.le_mul_of_pos_left one (by omega)
    omega
   have otherl:(other:Int).natAbs<=2^1999:=by
    rw[Int.natAbs_natCast]
    have:other<=g*other:=Nat.le_mul_of_pos_left other (by omega)
    have:=hXl k kn
    omega
   have neg:∀z:Int,z.natAbs<=2^1999->(0-z).natAbs<=2^1999:=λz hz=>by rw[ZaQ,Int.natAbs_neg];exact hz
   have eb:Qdl (λi j=>B j i) last (λj=>(one:Int)*B j last+(other:Int)*B j k) k (λj=>(0-q)*B j last+p*B j k)=λi j=>Qei B last k p q (0-(other:Int)) one j i:=by
    funext i j
    unfold Qdl Qei
    by_cases e1:i=k
    ·rw[if_pos e1,if_pos e1]
    ·rw[if_neg e1,if_neg e1]
     by_cases e2:i=last
     ·rw[if_pos e2,if_pos e2,show(0-(0-(other:Int)))=other by omega]
     ·rw[if_neg e2,if_neg e2]
   refine run_seq (Qt5
    rfl rfl (by decide) (by decide) (by decide) (show 9<10 by decide) rfl rfl hl kn rfl rfl rfl
    (Qm rfl (ha n p q (T last) (T k) (bS p pl) (bS q ql) λi hi=>⟨b8 _ (C.bT last i hl hi),b8 _ (C.bT k i kn hi)⟩) rfl)
    (Qm rfl (ha n (0-other) one (T last) (T k) (bS _ (neg _ otherl)) (bS _ onel) λi hi=>⟨b8 _ (C.bT last i hl hi),b8 _ (C.bT k i kn hi)⟩) rfl)
    (Qm rfl (ha n one other (λj=>B j last) (λj=>B j k) (bS _ onel) (bS _ otherl) λi hi=>⟨b8 _ (C.bB i last hi hl),b8 _ (C.bB i k hi kn)⟩) rfl)
    (Qm rfl (ha n (0-q) p (λj=>B j last) (λj=>B j k) (bS _ (neg _ ql)) (bS p pl) λi hi=>⟨b8 _ (C.bB i last hi hl),b8 _ (C.bB i k hi kn)⟩) rfl) ?_)
   rw[eb]
   refine run_seq (Qh rfl (Qr ?_))
   rw[Qbt rfl]
   exact⟨_,_,g,_,_,_,_,_,C',rfl⟩
  ·rintro ρ ⟨T,B,wh,j5,j6,j7,j8,j9,C,rfl⟩
   rw[Zo]at C
   have bound:(2:Nat)^(2000*last)<=2^16000:=ZH (by decide) (by omega)
   refine QE (r:=⟨.tup [Qc n n T,Qc n n B],true,[2]⟩) ?_ ⟨rfl,T,B,wh,rfl,C.tell,λi j hi hj=>Zk (C.bT i j hi hj) bound,λi j hi hj=>Zk (C.bB i j hi hj) bound⟩
   have ec:Qk 1 dt [] (Qd (Qa 3) Qg) [some (Qe n x,false),some (.int last,true),some (Qc n n T,true),some (Qc n n λi j=>B j i,true),some (.int wh,true),j5,j6,j7,j8,j9]=some ⟨Qc n n B,true,[]⟩:=Qm rfl (ht n _ (by omega)) rfl
   unfold Qe3
   rw[Qs rfl (Qs ec (QP _))]
   rfl
 obtain⟨o,h1,h2⟩:=key
 cases o with
 | rt d fr=>
  obtain⟨rfl,T,B,g,rfl,h⟩:=h2
  exact⟨T,B,g,by show Option.bind (Qdh du dw da dt [some (Qe n x,false),some (.int last,true),none,none,none,none,none,none,none,none]) outD=_;rw[h1];rfl,h⟩
 | _=>exact h2.elim
noncomputable def Qil(QdF:Den):DS:=(Qf (QH (Qk 1 QdF [] (Qd (Q8 (QO (Q4 (Qa 0)) (.nm 1) [none,none] QR (Qk 1 QdF [] (Qd (Qa 1) Qg))) (Qav (Qd (Qa 1) Qg))) Qg))) Qi)
def QhS(d:Den):Prop:=∀(k n:Nat) (f:Nat->Nat->Int) (L:Int),k<=100->∃g:Int,d [Qc k n f,.int L]=some (.int g,true)/\0<=g/\∀t,t∣g↔((∀i j,i<k->j<n->t∣f i j)/\t∣L)
theorem QsH{dc:Den}(hc:QiK dc):QhS (Qq 2 (Qil dc)):=λk n f L hk=>by
 obtain⟨gi,hgi⟩:=ZbI λi:Nat=>hc ((List.range n).map (f i))
 have hrow:∀i t,t∣gi i↔∀j,j<n->t∣f i j:=λi t=>by
  rw[(hgi i).2.2 t]
  exact⟨λh j hj=>h _ (Zaf.mpr ⟨j,Zr.mpr hj,rfl⟩),λh x hx=>by obtain⟨j,hj,rfl⟩:=Zaf.mp hx;exact h j (Zr.mp hj)⟩
 obtain⟨g,eg,g0,hg⟩:=hc ((List.range (k+1)).map (up gi k L))
 rw[← Qnl]at eg
 refine⟨g,Q1 (QE (Qm (Qs (Qr0 (QL (List.range k) (Qag rfl rfl) rfl λi _=>⟨[none,some (Qe n (f i),false)],rfl,⟨.int (gi i),true,[]⟩,Qm rfl (by rw[Qnl];exact(hgi i).1) rfl,rfl,rfl⟩) rfl rfl (by omega)) (QP _)) eg rfl) ⟨rfl,rfl⟩),g0,λt=>?_⟩
 rw[hg t]
 constructor
 ·intro h
  refine⟨λi j hi hj=>(hrow i t).mp (h _ (Zaf.mpr ⟨i,Zr.mpr (by omega),by rw[Qew,if_neg (by omega)]⟩)) j hj,h _ (Zaf.mpr ⟨k,Zr.mpr (by omega),by rw[Qew,if_pos rfl]⟩)⟩
 ·rintro⟨h1,h2⟩ x hx
  obtain⟨i,hi,rfl⟩:=Zaf.mp hx
  have hi:=Zr.mp hi
  rw[Qew]
  by_cases e:i=k
  ·rw[if_pos e];exact h2
  ·rw[if_neg e];exact(hrow i t).mpr λj hj=>h1 i j (by omega) hj
noncomputable def QmM:DS:=(Qf (QH (QO (Q4 (Qa 0)) (.nm 1) [none,none,some 1] QR (dOp QaJ (Qa 1) (Qa 2)))) Qi)
def Qgy(d:Den):Prop:=∀(n:Nat) (a:Nat->Int) (L:Int),0<L->d [Qe n a,.int L]=some (Qe n λi=>a i % L,true)
theorem QqG:Qgy (Qq 2 QmM):=λn a L hL=>
 Q1 (QE (QL (List.range n) (Qag rfl rfl) rfl λi _=>⟨[none,some (.int (a i),true),some (.int L,true)],rfl,⟨.int (a i % L),true,[]⟩,QaF rfl rfl rfl rfl hL,rfl,rfl⟩) ⟨rfl,rfl⟩)
noncomputable def Qmk:DS:=(Qf (QH (QO (Q4 (Qa 0)) (.nm 1) [none,none,some 1] QR (dOp Qcq (Qa 1) (Qa 2)))) Qi)
def Qgl(d:Den):Prop:=∀(n:Nat) (a q:Nat->Int) (b:Int),b≠0->b.natAbs<2^2000->(∀i,i<n->a i=b*q i)->d [Qe n a,.int b]=some (Qe n q,true)
theorem Qqv:Qgl (Qq 2 Qmk):=λn a q b b0 bl h=>
 Q1 (QE (QL (List.range n) (Qag rfl rfl) rfl λi hi=>⟨[none,some (.int (a i),true),some (.int b,true)],rfl,⟨.int (q i),true,[]⟩,Qf9 rfl rfl rfl rfl b0 bl (h i (Zr.mp hi)),rfl,rfl⟩) ⟨rfl,rfl⟩)
noncomputable def Qip:DS:=(Qf (QH (QO (Q4 (Qa 0)) (.nm 1) [none,none,some 1] QR (Qaq (Qa 2) (Qa 1)))) Qi)
def Qk4(d:Den):Prop:=∀(n:Nat) (a:Nat->Int) (c:Int),QbL c->(∀i,i<n->QbL (a i))->d [Qe n a,.int c]=some (Qe n λi=>c*a i,true)
theorem QrY:Qk4 (Qq 2 Qip):=λn a c hc ha=>
 Q1 (QE (QL (List.range n) (Qag rfl rfl) rfl λi hi=>⟨[none,some (.int (a i),true),some (.int c,true)],rfl,⟨.int (c*a i),true,[]⟩,Qap rfl rfl rfl rfl (QdN hc (ha i (Zr.mp hi))),rfl,rfl⟩) ⟨rfl,rfl⟩)
noncomputable def pairF(u v:Nat->Int):Nat->Nat->Int
 | 0=>u
 | _=>v
noncomputable def Qh4(QaL:Den)(Qcv:Den):DS:=(Qf (Qu 3 (Qk 2 QaL [] (Qd (Qav (Qd (Qa 0) (Qd (Qa 1) Qg))) (Qd (Qa 2) Qg)))) (Qf (Qu 4 (Qao (Qa 0))) (Qf (Qck (QM (dOp gNe (Qk 2 QaL [] (Qd (Qav (Qd (Qa 4) Qg)) (Qd (Qa 2) Qg))) (Qa 3))) (Qf (Qu 4 (Qk 2 Qcv [] (Qd (QO (QdU (Qa 4) (Qa 1)) (.tp [1,2]) [none,none,none] QR (Q8 (Qa 1) (Qa 2))) (Qd (Qa 2) Qg)))) Qi)) (Qf (QH (Qa 4)) Qi))))
def QkN(d:Den):Prop:=∀(n:Nat) (u v:Nat->Int) (L:Int),0<L->(∀i,i<n->0<=u i/\u i<L)->∃(x:Nat->Int) (fr:Bool) (k:Nat),d [Qe n u,Qe n v,.int L]=some (Qe n x,fr)/\(∀i,i<n->0<=x i/\x i<L)/\(∀i,i<n->L∣x i-(u i+k*v i))/\∀t,t∣L->(∀i,i<n->t∣x i)->(∀i,i<n->t∣u i)/\∀i,i<n->t∣v i
theorem Qs7{di dw:Den}(hi:QhS di)(hw:Qgy dw):QkN (Qq 5 (Qh4 di dw)):=λn u v L hL hu=>by
 obtain⟨w,ew,w0,hwd⟩:=hi 2 n (pairF u v) L (by decide)
 have hwd:∀t,t∣w↔((∀i,i<n->t∣u i)/\(∀i,i<n->t∣v i)/\t∣L):=λt=>by
  rw[hwd t]
  constructor
  ·rintro⟨h1,h2⟩
   exact⟨λi hi=>h1 0 i (by decide) hi,λi hi=>h1 1 i (by decide) hi,h2⟩
  ·rintro⟨h1,h2,h3⟩
   refine⟨λi j hi hj=>?_,h3⟩
   match i,hi with
   | 0,_=>exact h1 j hj
   | 1,_=>exact h2 j hj
 obtain⟨Ln,hLn⟩:∃Ln:Nat,L=Ln:=⟨L.toNat,by omega⟩
 obtain⟨T,hT⟩:=Qwl u v (L:=Ln) (by omega)
 have hT:∀t:Int,t∣L->(∀i,i<n->t∣u i+T*v i)->(∀i,i<n->t∣u i)/\∀i,i<n->t∣v i:=λt h1 h2=>by
  have:=hT t.natAbs (by rw[hLn]at h1;have:=Zal.mpr h1;rwa[Int.natAbs_natCast]at this) λi hi=>Int.natAbs_dvd.mpr (h2 i hi)
  exact⟨λi hi=>Int.natAbs_dvd.mp (this.1 i hi),λi hi=>Int.natAbs_dvd.mp (this.2 i hi)⟩
 have key:Run (Qh4 di dw) [some (Qe n u,false),some (Qe n v,false),some (.int L,true),none,none] λo=>match o with | .rt d fr=>∃(x:Nat->Int) (k:Nat),d=Qe n x/\(∀i,i<n->0<=x i/\x i<L)/\(∀i,i<n->L∣x i-(u i+k*v i))/\∀t,t∣L->(∀i,i<n->t∣x i)->(∀i,i<n->t∣u i)/\∀i,i<n->t∣v i | _=>False:=by
  refine run_seq (Qh (Qm rfl ew rfl) ?_)
  rw[Qn]
  refine run_seq (Qh (QaT rfl) ?_)
  refine Q0 (P:=λρ=>∃(x:Nat->Int) (k:Nat) (b4:Bool),(∀i,i<n->0<=x i/\x i<L)/\(∀i,i<n->L∣x i-(u i+k*v i))/\(∀t,t∣L->(∀i,i<n->t∣x i)->(∀i,i<n->t∣u i)/\∀i,i<n->t∣v i)/\ρ=[some (Qe n u,false),some (Qe n v,false),some (.int L,true),some (.int w,true),some (Qe n x,b4)]) ?_ ?_
  ·refine Qfy (λm ρ=>∃(x:Nat->Int) (k:Nat) (b4:Bool),k+m=T/\(∀i,i<n->0<=x i/\x i<L)/\(∀i,i<n->L∣x i-(u i+k*v i))/\ρ=[some (Qe n u,false),some (Qe n v,false),some (.int L,true),some (.int w,true),some (Qe n x,b4)]) ?_ T _ ⟨u,0,false,by omega,hu,λi hi=>by simp,rfl⟩
   rintro m ρ ⟨x,k,b4,hk,hx,hd,rfl⟩
   obtain⟨g,eg,g0,hg⟩:=hi 1 n (pairF x x) L (by decide)
   have hg:∀t,t∣g↔((∀i,i<n->t∣x i)/\t∣L):=λt=>by
    rw[hg t]
    refine⟨λh=>⟨λi hi=>h.1 0 i (by decide) hi,h.2⟩,λh=>⟨λi j hi hj=>?_,h.2⟩⟩
    match i,hi with
    | 0,_=>exact h.1 j hj
   have back:∀t,t∣L->((∀i,i<n->t∣x i)↔∀i,i<n->t∣u i+k*v i):=λt ht=>by
    constructor
    ·intro h i hi
     have:=ZaW (h i hi) (Int.dvd_trans ht (hd i hi))
     rwa[Int.sub_sub_self]at this
    ·intro h i hi
     have:=Zat (Int.dvd_trans ht (hd i hi)) (h i hi)
     rwa[ZaA]at this
   obtain⟨r4,v4,d4⟩:∃r:HS.R,Qa 4 [some (Qe n u,false),some (Qe n v,false),some (.int L,true),some (.int w,true),some (Qe n x,b4)]=some r/\r.d=Qe n x:=by cases b4<;>exact⟨_,rfl,rfl⟩
   have ecall:Qk 2 di [] (Qd (Qav (Qd (Qa 4) Qg)) (Qd (Qa 2) Qg)) [some (Qe n u,false),some (Qe n v,false),some (.int L,true),some (.int w,true),some (Qe n x,b4)]=some ⟨.int g,true,[]⟩:=Qm (r:=⟨[Qc 1 n (pairF x x),.int L],r4.fr && true && (true && true),r4.M++[]++([]++[])⟩) ((Qs (Qe6 (Qs v4 (QP _)) (show 1<=64 by decide)) (Qs rfl (QP _))).trans (by rw[d4];rfl)) eg rfl
   refine⟨!decide (g=w),QI (QbQ ecall rfl rfl rfl) rfl,λh=>?_,λh=>?_⟩
   ·have e:g=w:=by simpa using h
    refine⟨x,k,b4,hx,hd,λt h1 h2=>?_,rfl⟩
    have:=(hg t).mpr ⟨h2,h1⟩
    rw[e,hwd t]at this
    exact⟨this.1,this.2.1⟩
   ·have e:g≠w:=by simpa using h
    have hkT:k≠T:=λz=>e (Int.dvd_antisymm g0 w0 ((hwd g).mpr (by
     have h1:=(hg g).mp (Int.dvd_refl g)
     have h2:=(back g h1.2).mp h1.1
     rw[z]at h2
     have h3:=hT g h1.2 h2
     exact⟨h3.1,h3.2,h1.2⟩)) ((hg w).mpr (by
     have h1:=(hwd w).mp (Int.dvd_refl w)
     exact⟨(back w h1.2.2).mpr λi hi=>Zat (h1.1 i hi) (Int.dvd_mul_of_dvd_right (h1.2.1 i hi)),h1.2.2⟩)))
    refine run_seq (Qh (Qm (Qs (QL (List.range n) (Qen v4 d4 rfl rfl) rfl λi hi=>⟨[none,some (.int (x i),true),some (.int (v i),true)],rfl,⟨.int (x i+v i),true,[]⟩,rfl,rfl,rfl⟩) (Qs rfl (QP _))) (hw n _ L hL) rfl) (Qr ?_))
    rw[Qn]
    refine⟨m-1,by omega,λi=>(x i+v i) % L,k+1,true,by omega,λi hi=>⟨ZM _ (by omega),ZF _ hL⟩,λi hi=>?_,rfl⟩
    have h1:=hd i hi
    have h2:L∣(x i+v i)-(x i+v i) % L:=Int.dvd_self_sub_emod
    have:=ZaW h1 h2
    rwa[show x i-(u i+(k:Int)*v i)-(x i+v i-(x i+v i) % L)=(x i+v i) % L-(u i+((k+1:Nat):Int)*v i) by rw[ZaF,ZV];omega]at this
  ·rintro ρ ⟨x,k,b4,hx,hd,hc,rfl⟩
   cases b4
   ·exact Qw (QaY rfl ⟨x,k,rfl,hx,hd,hc⟩)
   ·exact Qw (QaY rfl ⟨x,k,rfl,hx,hd,hc⟩)
 obtain⟨o,h1,h2⟩:=key
 cases o with
 | rt d fr=>
  obtain⟨x,k,rfl,h⟩:=h2
  exact⟨x,fr,k,by show Option.bind (Qh4 di dw [some (Qe n u,false),some (Qe n v,false),some (.int L,true),none,none]) outD=_;rw[h1];rfl,h⟩
 | _=>exact h2.elim
noncomputable def Qdv(QbW:Den)(QeW:Den):DS:=(Qf (Qu 2 (Qk 2 QbW [] (Qd (Qa 0) (Qd (dC (.int 0)) Qg)))) (Qf (QaW (Qea (dC (.int 1)) (dBf Qat (Qd (Qa 0) Qg))) (.nm 3) (Qf (Qu 2 (Qk 3 QeW [] (Qd (Qa 2) (Qd (Qk 2 QbW [] (Qd (Qa 0) (Qd (Qa 3) Qg))) (Qd (Qa 1) Qg))))) Qi)) (Qf (QH (Qa 2)) Qi)))
structure Qp1 (n m:Nat) (f:Nat->Nat->Int) (L:Int) (x cc:Nat->Int):Prop where
 bd:∀i,i<n->0<=x i/\x i<L
 mix:∀i,i<n->L∣x i-Qp n λj=>cc j*f i j
 cop:∀t,t∣L->(∀i,i<n->t∣x i)->∀i j,i<n->j<m->t∣f i j
def QmC(d:Den):Prop:=∀(n:Nat) (f:Nat->Nat->Int) (L:Int),0<n->n<=8->0<L->(∀i j,i<n->j<n->0<=f i j/\f i j<L)->∃(x cc:Nat->Int) (fr:Bool),d [Qc n n f,.int L]=some (Qe n x,fr)/\Qp1 n n f L x cc
theorem Qul{dl dm:Den}(hl:Qgw dl)(hm:QkN dm):QmC (Qq 4 (Qdv dl dm)):=λn f L n0 n8 hL hf=>by
 have key:Run (Qdv dl dm) [some (Qc n n f,false),some (.int L,true),none,none] λo=>match o with | .rt d fr=>∃(x cc:Nat->Int),d=Qe n x/\Qp1 n n f L x cc | _=>False:=by
  refine run_seq (Qh (Qm rfl (hl n n f 0 n0) rfl) ?_)
  rw[Qn]
  refine Qw (Qaj (List.range (n-1)) (λk ρ=>∃(x cc:Nat->Int) (b2:Bool) (j3:Option (D×Bool)),Qp1 n (k+1) f L x cc/\ρ=[some (Qc n n f,false),some (.int L,true),some (Qe n x,b2),j3]) (Qlq rfl rfl (QaH rfl rfl) rfl (by omega) (by omega) (by decide) (by decide)) rfl ⟨λi=>f i 0,λj=>if j=0 then 1 else 0,true,none,⟨λi hi=>hf i 0 hi n0,λi hi=>?_,λt h1 h2 i j hi hj=>?_⟩,rfl⟩ ?_ ?_)
  ·rw[Qa0 n0,ZQ,Zby];exact Int.dvd_zero _
  ·rw[show j=0 by omega];exact h2 i hi
  ·rintro k k' ρ hk ⟨x,cc,b2,j3,I,rfl⟩
   have hk':k<n-1/\k=k':=by
    obtain⟨h1,h2⟩:=Zd.mp hk
    simp at h1 h2;exact⟨h1,h2⟩
   obtain⟨hkn,rfl⟩:=hk'
   refine⟨[some (Qc n n f,false),some (.int L,true),some (Qe n x,b2),some (.int ((1:Int)+k),true)],rfl,?_⟩
   obtain⟨y,fr,K,em,y1,y2,y3⟩:=hm n x (λi=>f i (k+1)) L hL I.bd
   have eK:(1:Int)+k=((k+1:Nat):Int):=by omega
   obtain⟨r2,v2,d2⟩:∃r:HS.R,Qa 2 [some (Qc n n f,false),some (.int L,true),some (Qe n x,b2),some (.int ((1:Int)+k),true)]=some r/\r.d=Qe n x:=by cases b2<;>exact⟨_,rfl,rfl⟩
   have ecol:Qk 2 dl [] (Qd (Qa 0) (Qd (Qa 3) Qg)) [some (Qc n n f,false),some (.int L,true),some (Qe n x,b2),some (.int ((1:Int)+k),true)]=some ⟨Qe n λi=>f i (k+1),true,[]⟩:=Qm (r:=⟨[Qc n n f,.int ((k+1:Nat):Int)],false,[]⟩) (by rw[← eK];rfl) (hl n n f (k+1) (by omega)) rfl
   have ecl:=QnA (fs:=Qd (Qa 2) (Qd (Qk 2 dl [] (Qd (Qa 0) (Qd (Qa 3) Qg))) (Qd (Qa 1) Qg))) (r:=⟨[Qe n x,Qe n λi=>f i (k+1),.int L],r2.fr && (true && (true && true)),r2.M++([]++([]++[]))⟩) ((Qs v2 (Qs ecol (Qs rfl (QP _)))).trans (by rw[d2])) em rfl
   refine run_seq (Qh ecl (Qr ?_))
   refine⟨y,λj=>cc j+(if j=k+1 then(K:Int)else 0),fr,some (.int ((1:Int)+k),true),⟨y1,λi hi=>?_,λt h1 h2 i j hi hj=>?_⟩,?_⟩
   ·have h1:=y2 i hi
    have h2:=I.mix i hi
    have:=Zat h1 h2
    rw[Qj λj _=>ZV _ _ _,QaA,Qa0 (by omega)]
    rwa[show y i-(x i+(K:Int)*f i (k+1))+(x i-Qp n λj=>cc j*f i j)=y i-((Qp n λj=>cc j*f i j)+(K:Int)*f i (k+1)) by omega]at this
   ·obtain⟨h3,h4⟩:=y3 t h1 h2
    by_cases e:j=k+1
    ·rw[e];exact h4 i hi
    ·exact I.cop t h1 h3 i j hi (by omega)
   ·cases fr
    ·cases b2
     ·have:r2=⟨Qe n x,false,[]⟩:=by injection v2 with z;exact z.symm
      rw[this];rfl
     ·have:r2=⟨Qe n x,true,[2]⟩:=by injection v2 with z;exact z.symm
      rw[this];rfl
    ·rfl
  ·rintro ρ ⟨x,cc,b2,j3,I,rfl⟩
   rw[Zo,show n-1+1=n by omega]at I
   cases b2
   ·exact Qw (QaY rfl ⟨x,cc,rfl,I⟩)
   ·exact Qw (QaY rfl ⟨x,cc,rfl,I⟩)
 obtain⟨o,h1,h2⟩:=key
 cases o with
 | rt d fr=>
  obtain⟨x,cc,rfl,h⟩:=h2
  exact⟨x,cc,fr,by show Option.bind (Qdv dl dm [some (Qc n n f,false),some (.int L,true),none,none]) outD=_;rw[h1];rfl,h⟩
 | _=>exact h2.elim
theorem Qte{fa:DE}{ρ:En}{ra:HS.R}{n m:Nat}{f:Nat->Nat->Int}(ha:fa ρ=some ra)(ea:ra.d=Qc n m f):Qhl fa ρ=some ⟨(List.range n).map λ(i:Nat)=> .tup [.int i,Qe m (f i)],ra.M⟩:=by
 unfold Qhl
 rw[ha,Za,ea]
 have:QeN ((List.range n).map λi=>Qe m (f i))=(List.range n).map λ(i:Nat)=>D.tup [.int i,Qe m (f i)]:=by
  unfold QeN
  refine List.ext_getElem (by simp) λi h1 h2=>?_
  simp
 show some (IR.mk (QeN ((List.range n).map λi=>Qe m (f i))) ra.M)=_
 rw[this]
theorem Qss{x n N k:Nat}{g:Nat->Nat->Int}{p:Nat->Int}{fi fa:DE}{ρ:En}{Q:Out->Prop}(hx:ρ[x]? =some (some (Qc n N g,true)))(hi:fi ρ=some ⟨.int k,true,[]⟩)(ha:fa ρ=some ⟨Qe N p,true,[]⟩)(hk:k<n)
  (q:Q (.nx (ρ.set x (some (Qc n N (λi j=>if i=k then p j else g i j),true))))):Run (Qbf x Q2 fi fa) ρ Q:=by
 refine⟨_,?_,q⟩
 unfold Qbf
 rw[ha,Za,hx]
 have hn:(HS.R.mk (Qe N p) true []).norm=⟨Qe N p,true,[]⟩:=by unfold R.norm Qe;rfl
 simp only[Q2,Za,hi,Qc,Qax,Zx,Zo,hn]
 rw[Qcf (show(0:Int)<=k by omega) (by omega)]
 simp only[Za,ZC]
 rw[Qc9 hk]
 simp[kill,Qay]
theorem Qwc{n:Nat}(hn:n<=8):bnd (2^240) n<2^1999:=by
 have h:∀k,k<9->bnd (2^240) k<2^1999:=by decide+kernel
 exact h n (by omega)
theorem QcR.Qvf{n N k:Nat}{A m R:Nat->Nat->Int}{d:Int}(h:QcR n N k A m R d)(hn:n<=8)(hA:∀j,j<N->∀r,r<n->(A j r).natAbs<=2^240):d.natAbs<2^1999/\∀i j,i<n->j<N->(R i j).natAbs<2^1999:=by
 have b:=Qwc hn
 refine⟨?_,λi j hi hj=>?_⟩
 ·rw[← h.clr.det];exact ZW (QdM h.col) b
 ·rw[h.clr.ent i j hi hj];exact ZW (QdM (h.col.put (hA j hj))) b
noncomputable def QgU(Qbc:Den)(Qa5:Den):DS:=(Qf (Qu 1 (dBf Qat (Qd (Qa 0) Qg))) (Qf (Qu 2 (Qk 1 Qa5 [] (Qd (QO (Qhl (Qa 0)) (.tp [1,2]) [none,none,none,some 1] QR (Q8 (Qa 2) (Qk 2 Qbc [] (Qd (Qa 3) (Qd (Qa 1) Qg))))) Qg))) (Qf (QH (Qe3 (Qd (QO (Q4 (Ql (Qa 2) (dC (.int 0)))) (.nm 1) [none,none,some 1] QR (QcV (Qa 1) (Qbd (Qa 2)) QcS)) (Qd (Ql (Qa 2) (dC (.int 1))) Qg)))) Qi)))
def Qkj(d:Den):Prop:=∀(n:Nat) (f:Nat->Nat->Int),n<=8->(∀i j,i<n->j<n->(f i j).natAbs<=2^240)->(det n λj i=>f i j)≠0->∃P:Nat->Nat->Int,d [Qc n n f]=some (.tup [Qc n n P,.int (det n λj i=>f i j)],true)/\(∀i j,i<n->j<n->prodF n f P i j=(det n λj i=>f i j)*idF i j)/\(∀i j,i<n->j<n->(P i j).natAbs<2^1999)/\(det n λj i=>f i j).natAbs<2^1999
theorem QrP{du dc:Den}(hu:Qjz du)(hc:QfR dc):Qkj (Qq 3 (QgU du dc)):=λn f n8 hf hd=>by
 obtain⟨A,hA⟩:∃A:Nat->Nat->Int,A=λj r=>if j<n then f r j else if j-n=r then 1 else 0:=⟨_,rfl⟩
 have aLow:∀j r,j<n->A j r=f r j:=λj r hj=>by rw[hA];show(if j<n then _ else _)=_;rw[if_pos hj]
 have aUp:∀c r,A (n+c) r=idF c r:=λc r=>by rw[hA];show(if n+c<n then _ else if n+c-n=r then 1 else 0)=_;rw[if_neg (by omega),show n+c-n=c by omega];rfl
 have bA:∀j,j<n+n->∀r,r<n->(A j r).natAbs<=2^240:=λj hj r hr=>by
  by_cases z:j<n
  ·rw[aLow j r z];exact hf r j hr z
  ·rw[show j=n+(j-n) by omega,aUp];unfold idF;split<;>decide
 have dA:det n A=det n λj i=>f i j:=QJ λj hj r _=>aLow j r hj
 obtain⟨m,R,b,ec,C⟩:=hc n (n+n) A n8 (by omega) bA (by rw[dA];exact hd)
 obtain⟨sb,sR⟩:=C.Qvf n8 bA
 have hb:b=det n λj i=>f i j:=by rw[← dA];exact C.clr.all
 subst hb
 refine⟨λi j=>R i (n+j),Q1 ?_,λi j hi hj=>?_,λi j hi hj=>sR i (n+j) hi (by omega),sb⟩
 ·refine run_seq (Qh (QaH rfl rfl) ?_)
  rw[Qn]
  have et:Qc n (n+n) (λi j=>A j i)= .lst ((List.range n).map λi=>Qe (n+n) λj=>if j<n then f i j else(λk=>if k=i then 1 else 0) (j-n)):=by
   unfold Qc
   refine congrArg D.lst (ZO λi _=>QcE λj _=>?_)
   rw[hA]
  refine run_seq (Qh ((Qi9 (Qs (r:=⟨Qc n (n+n) λi j=>A j i,true,[]⟩) ?_ (QP _)) ec rfl).trans rfl) ?_)
  ·rw[et]
   exact QL (List.range n) (Qte rfl rfl) rfl λi _=>⟨[none,some (.int i,true),some (Qe n (f i),false),some (.int n,true)],rfl,⟨Qe (n+n) λj=>if j<n then f i j else(λk=>if k=i then 1 else 0) (j-n),true,[]⟩,QiM (g:=λk=>if k=i then 1 else 0) rfl rfl (Qm rfl (hu n i (by omega)) rfl) rfl (by omega),rfl,rfl⟩
  ·refine QE (r:=⟨.tup [Qc n n λi j=>R i (n+j),.int (det n λj i=>f i j)],true,[]⟩) ?_ ⟨rfl,rfl⟩
   have e1:QO (Q4 (Ql (Qa 2) (dC (.int 0)))) (.nm 1) [none,none,some 1] QR (QcV (Qa 1) (Qbd (Qa 2)) QcS) [some (Qc n n f,false),some (.int n,true),some (.tup [Qc n (n+n) R,.int (det n λj i=>f i j)],false)]=some ⟨Qc n n λi j=>R i (n+j),true,[]⟩:=
    QL (List.range n) (Qag rfl rfl) rfl λi _=>⟨[none,some (Qe (n+n) (R i),false),some (.int n,true)],rfl,⟨Qe n λj=>R i (n+j),true,[]⟩,(QnF rfl rfl rfl rfl (by omega)).trans (by rw[show n+n-n=n by omega]),rfl,rfl⟩
   change Qe3 (Qd (QO (Q4 (Ql (Qa 2) (dC (.int 0)))) (.nm 1) [none,none,some 1] QR (QcV (Qa 1) (Qbd (Qa 2)) QcS)) (Qd (Ql (Qa 2) (dC (.int 1))) Qg)) [some (Qc n n f,false),some (.int n,true),some (.tup [Qc n (n+n) R,.int (det n λj i=>f i j)],false)]=_
   unfold Qe3
   rw[Qs e1 (Qs rfl (QP _))]
   rfl
 ·have t:=C.clr.tell (j:=n+j) (by omega) hi
  rw[aUp]at t
  have e:idF j i=idF i j:=by
   unfold idF
   by_cases z:i=j
   ·rw[if_pos z,if_pos z.symm]
   ·rw[if_neg z,if_neg (Ne.symm z)]
  rw[← e,t,QhU]
  exact Qj λl hl=>by rw[C.clr.own l hl,aLow l i hl,Zab]
theorem RT.start{n:Nat}{A P:Nat->Nat->Int}{w W:Int}(hW:0<W)(hw:W∣w)(hA:∀i j,i<n->j<n->prodF n A P i j=w*idF i j):RT n n A P W 1 W idF idF P λ_=>1:=by
 have u:Q9 n idF idF:=λi j hi hj=>Qad _ _ hi
 refine⟨Zi n,u,u,hW,ZQ W,λi j h1 h2=>by omega,λi j hi hj=>?_,λi j hi hj=>?_,λ_ _=>rfl,λj h1 h2=>by omega,λi j h1 h2=>by omega,λi j h1 h2=>by omega,λj h1 h2=>by omega,λh=>by omega⟩
 ·rw[Qaa (a':=A) (b':=P) (λk hk=>Qej A i hk) (λ_ _=>rfl),hA i j hi hj]
  exact Zap hw
 ·rw[Qad P j hi,ZQ,Zby];exact Int.dvd_zero _
noncomputable def Qdj(Q7:Den)(QaL:Den)(QbV:Den)(Qcv:Den)(QbH:Den)(Qbi:Den)(QaG:Den):DS:=(Qf (Qu 2 (dBf Qat (Qd (Qa 0) Qg))) (Qf (Qu 3 (Qk 1 Q7 [] (Qd (Qa 2) Qg))) (Qf (Qu 4 (Qk 1 Q7 [] (Qd (Qa 2) Qg))) (Qf (Qu 5 (Qaq (Qav (Qd (dC (.int 1)) Qg)) (Qa 2))) (Qf (Qu 6 (Qao (Qa 0))) (Qf (Qu 7 (dBf Qho (Qd (Qa 1) Qg))) (Qf (QaW (Qf8 (dOp QaP (Qa 2) (dC (.int 1))) (QpE (dC (.int 1))) (QpE (dC (.int 1)))) (.nm 8) (Qf (Qu 9 (Qk 2 QaL [] (Qd (Qa 6) (Qd (Qa 7) Qg)))) (Qf (Qu 7 (dOp Qcq (Qa 7) (Qa 9))) (Qf (sIf (QM (dOp gEq (Qa 7) (dC (.int 1)))) (Qf QpA Qi) Qi) (Qf (Qu 6 (QO (Q4 (Qa 6)) (.nm 1) [none,none,some 7,some 9] QR (Qk 2 Qcv [] (Qd (Qk 2 QbV [] (Qd (Qa 1) (Qd (Qa 3) Qg))) (Qd (Qa 2) Qg))))) (Qf (Qbf 5 Q2 (Qa 8) (Qa 7)) (Qf (Qu 10 (Qk 2 Qbi [] (Qd (Qk 2 QbH [] (Qd (Qa 6) (Qd (Qa 7) Qg))) (Qd (Qa 8) Qg)))) (Qf (Qu 3 (Qk 2 QaG [] (Qd (Qa 3) (Qd (Ql (Qa 10) (dC (.int 1))) Qg)))) (Qf (Qu 4 (Qk 2 QaG [] (Qd (Ql (Qa 10) (dC (.int 0))) (Qd (Qa 4) Qg)))) (Qf (Qu 6 (Qk 2 QaG [] (Qd (Ql (Qa 10) (dC (.int 0))) (Qd (Qa 6) Qg)))) (Qf (Qbf 6 Q2 (Qa 8) (Qaq (Qav (Qd (dC (.int 0)) Qg)) (Qa 2))) Qi))))))))))) (Qf (QH (Qe3 (Qd (Qa 3) (Qd (Qa 4) (Qd (Qa 5) Qg))))) Qi))))))))
def Qan(n k:Nat)(f:Nat->Nat->Int):Prop:=∀i j,i<n->j<n->(f i j).natAbs<=2^k
theorem Qan.bits{n k:Nat}{f:Nat->Nat->Int}(h:Qan n k f)(hk:k<2^20):QhO n f:=λi j hi hj=>QmT (k:=k+1) (by
 have:=h i j hi hj
 have:(2:Nat)^k<2^(k+1):=Nat.pow_lt_pow_right (by decide) (by omega)
 omega) (by omega)
theorem Qan.prod{n k l:Nat}{f g:Nat->Nat->Int}(hn:n<=8)(h1:Qan n k f)(h2:Qan n l g):Qan n (k+l+3) (prodF n f g):=λi j hi hj=>by
 have h:(prodF n f g i j).natAbs<=n*2^(k+l):=Qr4 λm hm=>by
  rw[ZT,Nat.pow_add]
  exact ZaL (h1 i m hi hm) (h2 m j hm hj)
 have h3:n*2^(k+l)<=8*2^(k+l):=ZaX _ hn
 have h4:(2:Nat)^(k+l+3)=8*2^(k+l):=by rw[Nat.pow_add,ZaH]
 omega
theorem Qan.mono{n k l:Nat}{f:Nat->Nat->Int}(h:Qan n k f)(hk:k<=l):Qan n l f:=λi j hi hj=>Zk (h i j hi hj) (ZH (by decide) hk)
theorem Qan.id(n k:Nat):Qan n k idF:=λi j _ _=>by
 have:0<(2:Nat)^k:=Nat.pow_pos (by decide)
 unfold idF
 split
 ·show 1<=_;omega
 ·exact ZS _
def Qk2(d:Den):Prop:=∀(n:Nat) (A P:Nat->Nat->Int) (w:Int),0<n->n<=8->w≠0->w.natAbs<2^1999->(∀i j,i<n->j<n->prodF n A P i j=w*idF i j)->∃(R Rb:Nat->Nat->Int) (len:Nat->Int),d [Qc n n P,.int w]=some (.tup [Qc n n R,Qc n n Rb,Qe n len],true)/\QhT n A P (w.natAbs:Int) R Rb len/\Qan n 130000 R/\Qan n 130000 Rb/\∀j,j<n->(len j).natAbs<2^1999
structure RTI (n k:Nat) (A P:Nat->Nat->Int) (W c L:Int) (R Rb S:Nat->Nat->Int) (len:Nat->Int):Prop where
 kn:k<=n
 rt:RT n (n-k) A P W c L R Rb S len
 bR:Qan n (16003*k) R
 bB:Qan n (16003*k) Rb
 Ll:L<2^1999
 ll:∀j,j<n->(len j).natAbs<2^1999
theorem Qtg{du di ds dw df dc dp:Den}(hu:Qf4 du)(hi:QhS di)(hs:Qgl ds)(hw:Qgy dw)(hf:QmC df)(hc:Qkm dc)(hp:Qfx dp):Qk2 (Qq 11 (Qdj du di ds dw df dc dp)):=λn A P w n0 n8 w0 wl hA=>by
 obtain⟨W,hW⟩:∃W:Int,W=w.natAbs:=⟨_,rfl⟩
 have W0:0<W:=by omega
 have Ww:W∣w:=by rw[hW];exact Int.natAbs_dvd.mpr (Int.dvd_refl w)
 have Wl:W<2^1999:=by rw[hW];exact_mod_cast wl
 rw[← hW]
 have key:Run (Qdj du di ds dw df dc dp) [some (Qc n n P,false),some (.int w,true),none,none,none,none,none,none,none,none,none] λo=>match o with | .rt d fr=>fr=true/\∃(R Rb:Nat->Nat->Int) (len:Nat->Int),d= .tup [Qc n n R,Qc n n Rb,Qe n len]/\QhT n A P W R Rb len/\Qan n 130000 R/\Qan n 130000 Rb/\(∀j,j<n->(len j).natAbs<2^1999) | _=>False:=by
  refine run_seq (Qh (QaH (n:=n) (m:=n) (f:=P) (r:=⟨Qc n n P,false,[]⟩) rfl rfl) ?_)
  rw[Qn]
  refine run_seq (Qh (r:=⟨Qc n n idF,true,[]⟩) (Qm (r:=⟨[.int n],true,[]⟩) rfl (hu n (by omega)) rfl) ?_)
  rw[Qn]
  refine run_seq (Qh (r:=⟨Qc n n idF,true,[]⟩) (Qm (r:=⟨[.int n],true,[]⟩) rfl (hu n (by omega)) rfl) ?_)
  rw[Qn]
  refine run_seq (Qh (QjF (n:=n) (z:=1) (r:=⟨.int n,true,[]⟩) rfl rfl (by omega)) ?_)
  rw[Qn]
  refine run_seq (Qh (QaT (r:=⟨Qc n n P,false,[]⟩) rfl) ?_)
  refine run_seq (Qh (r:=⟨.int W,true,[]⟩) ?_ ?_)
  ·show some (HS.R.mk (.int (if w<0 then-w else w)) true [])=_
   rw[hW,show(if w<0 then-w else w)=(w.natAbs:Int) by split<;>omega]
  rw[Qn]
  change Nx _ (.nx [some (Qc n n P,false),some (.int w,true),some (.int n,true),some (Qc n n idF,true),some (Qc n n idF,true),some (Qe n λ_=>1,true),some (Qc n n P,false),some (.int W,true),none,none,none])
  refine Q0 (P:=λρ=>∃(R Rb:Nat->Nat->Int) (len:Nat->Int) (j6 j7 j8 j9 j10:Option (D×Bool)),QhT n A P W R Rb len/\Qan n 130000 R/\Qan n 130000 Rb/\(∀j,j<n->(len j).natAbs<2^1999)/\ρ=[some (Qc n n P,false),some (.int w,true),some (.int n,true),some (Qc n n R,true),some (Qc n n Rb,true),some (Qe n len,true),j6,j7,j8,j9,j10]) ?_ ?_
  ·refine Qaj (toD:=λ(k:Nat)=> .int ((n:Int)-1-k)) (List.range n) (λk ρ=>∃(R Rb S:Nat->Nat->Int) (len:Nat->Int) (c L:Int) (b6:Bool) (j8 j9 j10:Option (D×Bool)),RTI n k A P W c L R Rb S len/\ρ=[some (Qc n n P,false),some (.int w,true),some (.int n,true),some (Qc n n R,true),some (Qc n n Rb,true),some (Qe n len,true),some (Qc n n S,b6),some (.int L,true),j8,j9,j10]) (Qqj (n:=n) (Qdr (a:=n) (b:=1) (ra:=⟨.int n,true,[]⟩) rfl rfl rfl rfl) rfl (rb:=⟨.int (-1),true,[]⟩) rfl rfl (rc:=⟨.int (-1),true,[]⟩) rfl rfl (by omega)) rfl ⟨idF,idF,P,λ_=>1,1,W,false,none,none,none,⟨by omega,by rw[Nat.sub_zero];exact RT.start W0 Ww hA,Qan.id n _,Qan.id n _,Wl,λj hj=>by show(1:Int).natAbs<2^1999;exact Zp (by decide) (ZH (n:=2) (by decide) (show 1<=1999 by decide))⟩,rfl⟩ ?_ ?_
   ·rintro k k' ρ hk ⟨R,Rb,S,len,c,L,b6,j8,j9,j10,I,rfl⟩
    have hk':k<n/\k=k':=by
     obtain⟨h1,h2⟩:=Zd.mp hk
     simp at h1 h2;exact⟨h1,h2⟩
    obtain⟨hkn,rfl⟩:=hk'
    obtain⟨last,hlast⟩:∃last,last=n-1-k:=⟨_,rfl⟩
    have el:(n:Int)-1-k=(last:Int):=by omega
    have ek:n-k=last+1:=by omega
    have hln:last<n:=by omega
    obtain⟨kn,rt,bR,bB,Ll,ll⟩:=I
    rw[ek]at rt
    refine⟨[some (Qc n n P,false),some (.int w,true),some (.int n,true),some (Qc n n R,true),some (Qc n n Rb,true),some (Qe n len,true),some (Qc n n S,b6),some (.int L,true),some (.int (last:Int),true),j9,j10],by rw[el];rfl,?_⟩
    obtain⟨part,ep,p0,hpd⟩:=hi n n S L (by omega)
    have pp:=(hpd part).mp (Int.dvd_refl part)
    have L0:=rt.L0
    obtain⟨L',eL⟩:=pp.2
    have pz:part≠0:=λz=>by rw[z,ZD]at eL;omega
    have p1:0<part:=by omega
    have pL:part.natAbs<2^2000:=by
     have h1:=Int.le_of_dvd L0 pp.2
     have h2:(2:Int)^1999<2^2000:=by decide
     have h3:((part.natAbs:Nat):Int)<((2^2000:Nat):Int):=by rw[Int.natAbs_of_nonneg p0];push_cast;omega
     omega
    have L0':0<L':=by
     refine ZaC λz=>?_
     have:=Zbg (a:=part) (b:=L') (by omega) (by omega)
     omega
    have Ll':L'<2^1999:=by
     have:L'<=L:=by
      have:=ZaK (show 1<=part by omega) (show 0<=L' by omega)
      omega
     omega
    have ll':L'.natAbs<2^1999:=by
     have h3:((L'.natAbs:Nat):Int)<((2^1999:Nat):Int):=by rw[Int.natAbs_of_nonneg (by omega)];push_cast;omega
     omega
    obtain⟨r6,v6,d6⟩:∃r:HS.R,Qa 6 [some (Qc n n P,false),some (.int w,true),some (.int n,true),some (Qc n n R,true),some (Qc n n Rb,true),some (Qe n len,true),some (Qc n n S,b6),some (.int L,true),some (.int (last:Int),true),j9,j10]=some r/\r.d=Qc n n S:=by cases b6<;>exact⟨_,rfl,rfl⟩
    refine run_seq (Qh (r:=⟨.int part,true,[]⟩) (Qm (r:=⟨[Qc n n S,.int L],r6.fr && (true && true),r6.M++([]++[])⟩) ((Qs v6 (Qs rfl (QP _))).trans (by rw[d6])) ep rfl) ?_)
    rw[Qn]
    refine run_seq (Qh (Qf9 rfl rfl rfl rfl pz pL eL) ?_)
    rw[Qn]
    change Nx _ (.nx [some (Qc n n P,false),some (.int w,true),some (.int n,true),some (Qc n n R,true),some (Qc n n Rb,true),some (Qe n len,true),some (Qc n n S,b6),some (.int L',true),some (.int (last:Int),true),some (.int part,true),j10])
    have hS:=λi j (hi:i<n) (hj:j<n)=>pp.1 i j hi hj
    refine Qw (QZ (QI (Qa9 rfl rfl rfl rfl) rfl) (λh=>?_) (λh=>Qr ?_))
    ·have h1:L'=1:=of_decide_eq_true h
     have:L=part:=by rw[eL,h1,ZX]
     refine Qw ⟨_,rfl,R,Rb,len,_,_,_,_,_,rt.stop λi j hi hj=>by rw[this];exact hS i j hi hj,bR.mono (by omega),bB.mono (by omega),ll,rfl⟩
    have hone:L'≠1:=of_decide_eq_false h
    have hSq:∀i j,i<n->j<n->S i j=part*(S i j / part):=λi j hi hj=>(Int.mul_ediv_cancel' (hS i j hi hj)).symm
    obtain⟨r6',v6',d6'⟩:∃r:HS.R,Qa 6 [some (Qc n n P,false),some (.int w,true),some (.int n,true),some (Qc n n R,true),some (Qc n n Rb,true),some (Qe n len,true),some (Qc n n S,b6),some (.int L',true),some (.int (last:Int),true),some (.int part,true),j10]=some r/\r.d=Qc n n S:=by cases b6<;>exact⟨_,rfl,rfl⟩
    refine run_seq (Qh (QL (List.range n) (Qag v6' d6') rfl λi hi=>⟨[none,some (Qe n (S i),false),some (.int L',true),some (.int part,true)],rfl,⟨Qe n λj=>S i j / part % L',true,[]⟩,Qm (Qs (Qm (r:=⟨[Qe n (S i),.int part],false,[]⟩) rfl (hs n (S i) (λj=>S i j / part) part pz pL λj hj=>hSq i j (Zr.mp hi) hj) rfl) (Qs (r:=⟨.int L',true,[]⟩) rfl (QP _))) (hw n _ L' L0') rfl,rfl,rfl⟩) ?_)
    rw[Qn]
    refine run_seq (Qtf rfl rfl rfl rfl rfl (by omega) (by omega) ?_)
    rw[ZC]
    change Nx _ (.nx [some (Qc n n P,false),some (.int w,true),some (.int n,true),some (Qc n n R,true),some (Qc n n Rb,true),some (Qe n (up len last L'),true),some (Qc n n λi j=>S i j / part % L',true),some (.int L',true),some (.int (last:Int),true),some (.int part,true),j10])
    have bS1:∀i j,i<n->j<n->0<=S i j / part % L'/\S i j / part % L'<L':=λi j _ _=>⟨ZM _ (by omega),ZF _ L0'⟩
    obtain⟨x,cc,fr,ef,FI⟩:=hf n (λi j=>S i j / part % L') L' n0 n8 L0' bS1
    obtain⟨T,B,g,ec,sp,bT,bBk⟩:=hc n last x hln n8 λi hi=>⟨(FI.bd i hi).1,by have:=(FI.bd i hi).2;omega⟩
    have hz:∀i j,last<i->i<n->j<n->S i j / part % L'=0:=λi j h1 h2 h3=>by rw[rt.low i j (by omega) h2 h3];simp
    have rt':=rt.step p1 eL hSq (λi j _ _=>Int.dvd_self_sub_emod) hz (λt h1 h2=>by
     have a1:part*t∣part:=(hpd (part*t)).mpr ⟨λi j hi hj=>by rw[hSq i j hi hj];exact Int.mul_dvd_mul_left part (h2 i j hi hj),by rw[eL];exact Int.mul_dvd_mul_left part h1⟩
     have a2:t∣1:=Int.dvd_of_mul_dvd_mul_left pz (by rw[ZX];exact a1)
     have:=Zal.mpr a2
     exact Nat.eq_one_of_dvd_one this) FI.mix (λi h1 h2=>by
     have a1:=FI.mix i h2
     rw[Qj λj hj=>by rw[hz i j h1 h2 hj,Zu],QbP,Int.sub_zero]at a1
     have a2:=FI.bd i h2
     rw[← Int.emod_eq_of_lt a2.1 a2.2];exact Int.emod_eq_zero_of_dvd a1) FI.cop sp
    have ecf:=QnA (fs:=Qd (Qa 6) (Qd (Qa 7) Qg)) (ρ:=[some (Qc n n P,false),some (.int w,true),some (.int n,true),some (Qc n n R,true),some (Qc n n Rb,true),some (Qe n (up len last L'),true),some (Qc n n λi j=>S i j / part % L',true),some (.int L',true),some (.int (last:Int),true),some (.int part,true),j10]) rfl ef rfl
    have efree:∃r:HS.R,Qk 2 df [] (Qd (Qa 6) (Qd (Qa 7) Qg)) [some (Qc n n P,false),some (.int w,true),some (.int n,true),some (Qc n n R,true),some (Qc n n Rb,true),some (Qe n (up len last L'),true),some (Qc n n λi j=>S i j / part % L',true),some (.int L',true),some (.int (last:Int),true),some (.int part,true),j10]=some r/\r.d=Qe n x:=by
     cases fr
     ·exact⟨_,ecf,rfl⟩
     ·exact⟨_,ecf,rfl⟩
    obtain⟨rf,vf,dfx⟩:=efree
    refine run_seq (Qh (Qm (r:=⟨[Qe n x,.int last],rf.fr && (true && true),rf.M++([]++[])⟩) ((Qs vf (Qs rfl (QP _))).trans (by rw[dfx])) ec rfl) ?_)
    rw[Qn]
    change Nx _ (.nx [some (Qc n n P,false),some (.int w,true),some (.int n,true),some (Qc n n R,true),some (Qc n n Rb,true),some (Qe n (up len last L'),true),some (Qc n n λi j=>S i j / part % L',true),some (.int L',true),some (.int (last:Int),true),some (.int part,true),some (.tup [Qc n n T,Qc n n B],true)])
    have BT:Qan n 16000 T:=bT
    have BB:Qan n 16000 B:=bBk
    have kk:16003*k+16000+3=16003*(k+1):=by omega
    have B1:Qan n 1999 λi j=>S i j / part % L':=λi j hi hj=>by
     show(S i j / part % L').natAbs<=2^1999
     have h3:(((S i j / part % L').natAbs:Nat):Int)<((2^1999:Nat):Int):=by rw[Int.natAbs_of_nonneg (bS1 i j hi hj).1];push_cast;have:=(bS1 i j hi hj).2;omega
     omega
    refine run_seq (Qh (Qm rfl (hp n R B (by omega) (bR.bits (by omega)) (BB.bits (by decide))) rfl) ?_)
    rw[Qn]
    refine run_seq (Qh (Qm rfl (hp n T Rb (by omega) (BT.bits (by decide)) (bB.bits (by omega))) rfl) ?_)
    rw[Qn]
    refine run_seq (Qh (Qm rfl (hp n T _ (by omega) (BT.bits (by decide)) (B1.bits (by decide))) rfl) ?_)
    rw[Qn]
    change Nx _ (.nx [some (Qc n n P,false),some (.int w,true),some (.int n,true),some (Qc n n (prodF n R B),true),some (Qc n n (prodF n T Rb),true),some (Qe n (up len last L'),true),some (Qc n n (prodF n T λi j=>S i j / part % L'),true),some (.int L',true),some (.int (last:Int),true),some (.int part,true),some (.tup [Qc n n T,Qc n n B],true)])
    refine run_seq (Qss rfl rfl (QjF rfl rfl (by omega)) hln (Qr ?_))
    refine⟨_,_,_,up len last L',c*part,L',true,_,_,_,⟨by omega,?_,?_,?_,Ll',λj hj=>?_⟩,rfl⟩
    ·rw[show n-(k+1)=last by omega];exact rt'
    ·rw[← kk];exact bR.prod n8 BB
    ·rw[← kk,show 16003*k+16000+3=16000+16003*k+3 by omega];exact BT.prod n8 bB
    ·rw[Qew]
     split
     ·exact ll'
     ·exact ll j hj
   ·rintro ρ ⟨R,Rb,S,len,c,L,b6,j8,j9,j10,I,rfl⟩
    rw[Zo]at I
    obtain⟨kn,rt,bR,bB,Ll,ll⟩:=I
    rw[Nat.sub_self]at rt
    exact⟨R,Rb,len,_,_,_,_,_,rt.done,bR.mono (by omega),bB.mono (by omega),ll,rfl⟩
  ·rintro ρ ⟨R,Rb,len,j6,j7,j8,j9,j10,rg,b1,b2,ll,rfl⟩
   exact QE rfl ⟨rfl,R,Rb,len,rfl,rg,b1,b2,ll⟩
 obtain⟨o,h1,h2⟩:=key
 cases o with
 | rt d fr=>
  obtain⟨rfl,R,Rb,len,rfl,h⟩:=h2
  exact⟨R,Rb,len,by show Option.bind (Qdj du di ds dw df dc dp [some (Qc n n P,false),some (.int w,true),none,none,none,none,none,none,none,none,none]) outD=_;rw[h1];rfl,h⟩
 | _=>exact h2.elim
theorem Qup{n:Nat}{m:Nat->Nat->Int}{y:Nat->Int}(hd:det n m≠0)(h:∀r,r<n->sm n (λl=>y l*m l r)=0):∀k,k<n->y k=0:=λk hk=>by
 have e1:det n (cup m k λr=>sm n λl=>y l*m l r)=y k*det n m:=by
  rw[QeY hk y m n,Qdp hk λi hi ne=>by rw[QeB hi hk ne (by rw[QC,Qv _ _ ne]),Zu],QY]
 have e2:det n (cup m k λr=>sm n λl=>y l*m l r)=0:=by
  rw[QJ (k:=cup m k λr=>0*m k r) λj hj r hr=>by
   by_cases e:j=k
   ·subst e;rw[QC,QC,h r hr,ZD]
   ·rw[Qv _ _ e,Qv _ _ e],Qer hk,ZD]
 rw[e2]at e1
 rcases Int.mul_eq_zero.mp e1.symm with z | z
 ·exact z
 ·exact absurd z hd
theorem Qqp{n:Nat}{A P:Nat->Nat->Int}{w:Int}(hd:(det n λj i=>A i j)≠0)(h:∀i j,i<n->j<n->prodF n A P i j=w*idF i j):∀i j,i<n->j<n->prodF n P A i j=w*idF i j:=λi j hi hj=>by
 have:=Qup hd (λr hr=>by
  rw[QhU]
  have e1:(Qp n λl=>(prodF n P A l j-w*idF l j)*A r l)=prodF n A (prodF n P A) r j-w*prodF n A idF r j:=by
   unfold prodF
   rw[← Qaf,← Qi7]
   exact Qj λl _=>by grind
  rw[e1,← Q3,Qaa (a':=λi j=>w*idF i j) (b':=A) (λk hk=>h r k hr hk) (λ_ _=>rfl),Qej _ _ hj]
  have e2:prodF n (λi j=>w*idF i j) A r j=w*prodF n idF A r j:=by
   unfold prodF
   rw[← Qaf]
   exact Qj λl _=>ZI _ _ _
  rw[e2,Qad _ _ hr,Zby]) i hi
 omega
structure QeR (n:Nat) (f Lf R Lb Rb:Nat->Nat->Int) (len:Nat->Int):Prop where
 u1:Q9 n R Rb
 u2:Q9 n Rb R
 v1:Q9 n Lf Lb
 v2:Q9 n Lb Lf
 mid:∀i j,i<n->j<n->prodF n (prodF n Lf f) R i j=len i*idF i j
 pos:∀j,j<n->0<len j
 nxt:∀j,j+1<n->len j∣len (j+1)
theorem QsX{n:Nat}{f P R Rb Lf Lb:Nat->Nat->Int}{w W:Int}{len:Nat->Int}(w0:w≠0)(hd:(det n λj i=>f i j)≠0)(hP:∀i j,i<n->j<n->prodF n f P i j=w*idF i j)(rg:QhT n f P W R Rb len)
  (hL:∀i j,i<n->j<n->len i*prodF n Rb P i j=w*Lf i j) (hB:∀i j,i<n->j<n->prodF n f R i j=len j*Lb i j):QeR n f Lf R Lb Rb len:=by
 have hPA:=Qqp hd hP
 have key:∀i j,i<n->j<n->prodF n (prodF n Rb P) (prodF n f R) i j=w*idF i j:=λi j hi hj=>by
  rw[Q3,← Q3 n P f R,Qaa (a':=Rb) (b':=λi j=>w*R i j) (λ_ _=>rfl) λk hk=>?_]
  ·have:prodF n Rb (λi j=>w*R i j) i j=w*prodF n Rb R i j:=by
    unfold prodF
    rw[← Qaf]
    exact Qj λl _=>ZK _ _ _
   rw[this,rg.u2 i j hi hj]
  ·rw[Qaa (a':=λi j=>w*idF i j) (b':=R) (λl hl=>hPA k l hk hl) (λ_ _=>rfl)]
   have:prodF n (λi j=>w*idF i j) R k j=w*prodF n idF R k j:=by
    unfold prodF
    rw[← Qaf]
    exact Qj λl _=>ZI _ _ _
   rw[this,Qad _ _ hk]
 have kL:∀i j,i<n->j<n->w*prodF n Lf (prodF n f R) i j=len i*(w*idF i j):=λi j hi hj=>by
  rw[← key i j hi hj]
  unfold prodF
  rw[← Qaf,← Qaf]
  refine Qj λk hk=>?_
  have:=hL i k hi hk
  unfold prodF at this
  rw[← ZI,← this,ZI]
 refine⟨rg.u1,rg.u2,λi j hi hj=>?_,λi j hi hj=>?_,λi j hi hj=>?_,rg.pos,rg.nxt⟩
 ·have h1:=kL i j hi hj
  have h2:prodF n Lf (prodF n f R) i j=len j*prodF n Lf Lb i j:=by
   unfold prodF
   rw[← Qaf]
   refine Qj λk hk=>?_
   have:=hB k j hk hj
   unfold prodF at this
   rw[this,ZK]
  have lj:=rg.pos j hj
  have h3:w*len j*prodF n Lf Lb i j=w*len j*idF i j:=by
   rw[ZI,← h2,h1]
   unfold idF
   by_cases e:i=j
   ·subst e;rw[if_pos rfl];grind
   ·rw[if_neg e];grind
  exact Zav (Int.mul_ne_zero w0 (by omega)) h3
 ·have h1:w*prodF n Lb Lf i j=w*idF i j:=by
   rw[← hP i j hi hj]
   have e:prodF n f P i j=prodF n (prodF n f R) (prodF n Rb P) i j:=by
    have hk':∀k,k<n->prodF n (prodF n R Rb) P k j=P k j:=λk hk=>by
     rw[Qaa (a':=idF) (b':=P) (λl hl=>rg.u1 k l hk hl) (λ_ _=>rfl),Qad _ _ hk]
    rw[Q3,← Q3 n R Rb P]
    exact Qaa (λ_ _=>rfl) λk hk=>(hk' k hk).symm
   rw[e]
   show w*Qp n (λk=>Lb i k*Lf k j)=Qp n λk=>prodF n f R i k*prodF n Rb P k j
   rw[← Qaf]
   exact Qj λk hk=>by rw[hB i k hi hk,ZK,← hL k j hk hj];grind
  exact Zav w0 h1
 ·rw[Q3]
  have h1:=kL i j hi hj
  have:w*prodF n Lf (prodF n f R) i j=w*(len i*idF i j):=by rw[h1];exact ZK _ _ _
  exact Zav w0 this
noncomputable def Qt(len:Nat->Int):Nat->Nat->Int:=λi j=>len i*idF i j
noncomputable def QdA(M D:Nat->Nat->Int)(k:Nat)(s:Int):Nat->Nat->Int:=λj r=>if j<k then M j r+s*D j r else M j r
theorem Qi5{n:Nat}(D:Nat->Nat->Int):∀(k:Nat),k<=n->∀M:Nat->Nat->Int,∃a:Nat->Int,(∀s:Int,det n (QdA M D k s)=Qp (k+1) λi=>a i*s^i)/\a k=det n (λj r=>if j<k then D j r else M j r)
 | 0,_,M=>⟨λ_=>det n M,λs=>by
   rw[QS]
   show det n (QdA M D 0 s)=0+det n M*s^0
   rw[Int.pow_zero,ZX,Int.zero_add]
   exact QJ λj _ r _=>if_neg (Nat.not_lt_zero j),QJ λj _ r _=>by show M j r=if j<0 then D j r else M j r;rw[if_neg (Nat.not_lt_zero j)]⟩
 | k+1,hk,M=>by
  obtain⟨a,ha,ha'⟩:=Qi5 (n:=n) D k (by omega) M
  obtain⟨b,hb,hb'⟩:=Qi5 (n:=n) D k (by omega) (cup M k (D k))
  refine⟨λi=>(if i<=k then a i else 0)+(if i=0 then 0 else b (i-1)),λs=>?_,?_⟩
  ·have e1:det n (QdA M D (k+1) s)=det n (QdA M D k s)+s*det n (QdA (cup M k (D k)) D k s):=by
    have e2:det n (QdA M D (k+1) s)=det n (cup (QdA M D k s) k λr=>1*M k r+s*D k r):=QJ λj hj r hr=>by
     by_cases z:j=k
     ·subst z
      rw[QC];unfold QdA;rw[if_pos (by omega),ZQ]
     ·rw[Qv _ _ z];unfold QdA
      by_cases y:j<k
      ·rw[if_pos y,if_pos (by omega)]
      ·rw[if_neg y,if_neg (by omega)]
    rw[e2,Qel 1 s (M k) (D k) n (QdA M D k s) k (by omega) (M k) (D k),ZQ]
    congr 1
    ·exact QJ λj hj r hr=>by
      by_cases z:j=k
      ·subst z;rw[QC];unfold QdA;rw[if_neg (by omega)]
      ·rw[Qv _ _ z]
    ·congr 1
     exact QJ λj hj r hr=>by
      by_cases z:j=k
      ·subst z;rw[QC];unfold QdA;rw[if_neg (by omega),QC]
      ·rw[Qv _ _ z];unfold QdA;rw[Qv _ _ z]
   rw[e1,ha s,hb s]
   have e3:(Qp (k+2) λi=>((if i<=k then a i else 0)+(if i=0 then 0 else b (i-1)))*s^i)=(Qp (k+2) λi=>(if i<=k then a i else 0)*s^i)+Qp (k+2) λi=>(if i=0 then 0 else b (i-1))*s^i:=by
    rw[← QaA];exact Qj λi _=>ZV _ _ _
   have e4:(Qp (k+2) λi=>(if i<=k then a i else 0)*s^i)=Qp (k+1) λi=>a i*s^i:=by
    rw[QS,if_neg (by omega),ZD,Zba]
    exact Qj λi hi=>by rw[if_pos (by omega)]
   have e5:∀l,(Qp (l+1) λi=>(if i=0 then 0 else b (i-1))*s^i)=s*Qp l λi=>b i*s^i:=λl=>by
    induction l with
    | zero=>rw[QS];show 0+(if(0:Nat)=0 then(0:Int)else b (0-1))*s^0=s*0;rw[if_pos rfl];omega
    | succ l ih=>
     rw[QS,ih,QS,if_neg (by omega),ZaP,Zas,Int.pow_succ]
     congr 1
     rw[Zab (s^l),← ZI,Zab (b l),ZI]
   show _=Qp (k+1+1) λi=>((if i<=k then a i else 0)+(if i=0 then 0 else b (i-1)))*s^i
   rw[e3,e4,e5]
  ·show(if k+1<=k then a (k+1)else 0)+(if k+1=0 then 0 else b (k+1-1))=_
   rw[if_neg (by omega),if_neg (by omega),ZaP,hb',Int.zero_add]
   refine QJ λj hj r hr=>?_
   by_cases z:j=k
   ·subst z;rw[if_neg (by omega),if_pos (by omega),QC]
   ·by_cases y:j<k
    ·rw[if_pos y,if_pos (by omega)]
    ·rw[if_neg y,if_neg (by omega),Qv _ _ z]
theorem Qfm(f:Nat->Int):Qp 0 f=0:=rfl
theorem Qqd{n:Nat}(hn:n<=4){E:Nat->Nat->Int}(hE:det n E≠0)(g:Nat->Nat->Int)(h:∀s:Nat,s<n->(det n λi j=>g i j+s*E i j)=0):(det n λi j=>g i j+n*E i j)≠0:=λhz=>by
 obtain⟨a,h1,h2⟩:=Qi5 E n (Zi n) g
 have e:∀s:Nat,s<=n->(Qp (n+1) λi=>a i*(s:Int)^i)=0:=λs hs=>by
  rw[← h1 s]
  have:det n (QdA g E n s)=det n λi j=>g i j+s*E i j:=QJ λj hj r _=>by unfold QdA;rw[if_pos hj]
  rw[this]
  by_cases z:s=n
  ·rw[z];exact hz
  ·exact h s (by omega)
 have lead:a n≠0:=by
  rw[h2,QJ λj hj r _=>by rw[if_pos hj]]
  exact hE
 have hc:n=0∨n=1∨n=2∨n=3∨n=4:=by omega
 clear h1 h2 h hz
 rcases hc with rfl | rfl | rfl | rfl | rfl
 ·have e0:=e 0 (by decide)
  simp only[QS,Qfm]at e0
  simp at e0
  exact lead e0
 ·have e0:=e 0 (by decide)
  have e1:=e 1 (by decide)
  simp only[QS,Qfm]at e0 e1
  simp at e0 e1
  omega
 ·have e0:=e 0 (by decide)
  have e1:=e 1 (by decide)
  have e2:=e 2 (by decide)
  simp only[QS,Qfm]at e0 e1 e2
  simp at e0 e1 e2
  omega
 ·have e0:=e 0 (by decide)
  have e1:=e 1 (by decide)
  have e2:=e 2 (by decide)
  have e3:=e 3 (by decide)
  simp only[QS,Qfm]at e0 e1 e2 e3
  simp at e0 e1 e2 e3
  omega
 ·have e0:=e 0 (by decide)
  have e1:=e 1 (by decide)
  have e2:=e 2 (by decide)
  have e3:=e 3 (by decide)
  have e4:=e 4 (by decide)
  simp only[QS,Qfm]at e0 e1 e2 e3 e4
  simp at e0 e1 e2 e3 e4
  omega
noncomputable def Qd0(len:Nat->Int):Nat->Int
 | 0=>1
 | n+1=>Qd0 len n*len n
theorem QgY{len:Nat->Int}:∀{n:Nat},(∀j,j<n->0<len j)->0<Qd0 len n
 | 0,_=>Int.one_pos
 | n+1,h=>Int.mul_pos (QgY λj hj=>h j (by omega)) (h n (by omega))
theorem Qir:∀(n:Nat) (len:Nat->Int),Qd0 len (n+1)=len 0*Qd0 (λi=>len (i+1)) n
 | 0,len=>by show 1*len 0=len 0*1;omega
 | n+1,len=>by
  show Qd0 len (n+1)*len (n+1)=len 0*(Qd0 (λi=>len (i+1)) n*len (n+1))
  rw[Qir n len,ZI]
theorem QkY:∀(n:Nat) (len:Nat->Int),dia (Qt len) n=Qd0 len n
 | 0,len=>rfl
 | n+1,len=>by
  show Qt len 0 0*dia (λj r=>Qt len (j+1) (r+1)) n=Qd0 len (n+1)
  rw[Qir,show(λj r=>Qt len (j+1) (r+1))=Qt (λi=>len (i+1))from ?_,QkY n]
  ·unfold Qt idF;rw[if_pos rfl,ZX]
  ·funext j r
   unfold Qt idF
   by_cases z:j=r
   ·rw[if_pos z,if_pos (by omega)]
   ·rw[if_neg z,if_neg (by omega)]
theorem QeC(n:Nat)(f g:Nat->Nat->Int):(det n λj i=>prodF n f g i j)=(det n λj i=>f i j)*det n λj i=>g i j:=by
 rw[Zab,← QtK n (λj i=>g i j) λj i=>f i j]
 refine QJ λj _ i _=>?_
 unfold prodF
 rw[← QhU]
 exact QaS λs _=>by rw[Zab]
theorem Qs5{a b:Int}(h:a*b=1):a.natAbs=1:=by
 have:=congrArg Int.natAbs h
 rw[ZT]at this
 exact Nat.eq_one_of_mul_eq_one_right this
theorem Q9.det{n:Nat}{a b:Nat->Nat->Int}(h:Q9 n a b):(det n λj i=>a i j).natAbs=1:=by
 have e:(HS.det n λj i=>prodF n a b i j)=1:=by
  rw[QJ (k:=Qy) λj hj i hi=>by
   rw[h i j hi hj];unfold idF Qy
   by_cases z:i=j
   ·rw[if_pos z,if_pos z.symm]
   ·rw[if_neg z,if_neg (Ne.symm z)],Qc2]
 rw[QeC]at e
 exact Qs5 e
theorem QeR.many{n:Nat}{f Lf R Lb Rb:Nat->Nat->Int}{len:Nat->Int}(h:QeR n f Lf R Lb Rb len):Qd0 len n=((det n λj i=>f i j).natAbs:Int):=by
 have e1:(HS.det n λj i=>prodF n (prodF n Lf f) R i j)=Qd0 len n:=by
  rw[QJ (k:=Qt len) λj hj i hi=>by
   rw[h.mid i j hi hj];unfold Qt idF
   by_cases z:i=j
   ·subst z;rw[if_pos rfl]
   ·rw[if_neg z,if_neg (Ne.symm z),Zu,Zu],QgD n (Qt len) λj r _ _ hr=>by unfold Qt idF;rw[if_neg (by omega),Zu],QkY]
 rw[QeC,QeC]at e1
 have e2:=congrArg Int.natAbs e1
 rw[ZT,ZT,h.v1.det,h.u1.det,Nat.mul_one,Nat.one_mul]at e2
 have:=QgY h.pos
 omega
theorem Qf7{n m:Nat}{f g:Nat->Nat->Int}(h:∀i j,i<n->j<m->f i j=g i j):Qc n m f=Qc n m g:=congrArg D.lst (ZO λi hi=>QcE λj hj=>h i j (Zr.mp hi) hj)
theorem Qhg(len:Nat->Int)(i:Nat):Qt len i i=len i:=by unfold Qt idF;rw[if_pos rfl,ZX]
theorem QqW{t:Int}{f:Nat->Int}:∀{n:Nat},(∀i,i<n->t∣f i)->t∣sm n f
 | 0,_=>⟨0,(Zu t).symm⟩
 | n+1,h=>by unfold sm;exact Zat (QqW λi hi=>h i (by omega)) (h n (by omega))
theorem QoZ{t:Int}:∀(n k:Nat) (m:Nat->Nat->Int),k<n->(∀j r,j<=k->k<=r->r<n->t∣m j r)->t∣det n m
 | 0,k,m,hk,_=>by omega
 | n+1,k,m,hk,h=>by
  unfold det
  refine QqW λc hc=>?_
  by_cases z:k=0/\c=0
  ·obtain⟨rfl,rfl⟩:=z
   exact Int.dvd_trans (Int.dvd_trans (h 0 0 (by omega) (by omega) (by omega)) (Int.dvd_mul_left _ _)) (Int.dvd_mul_right _ _)
  ·refine Int.dvd_trans (QoZ n (k-1) _ (by omega) λj r hj hr hn=>h _ _ ?_ (by omega) (by omega)) (Int.dvd_mul_left _ _)
   unfold skp
   split<;>omega
def EqT(n:Nat)(a b:Nat->Nat->Int):Prop:=∀i j,i<n->j<n->a i j=b i j
theorem EqT.symm{n:Nat}{a b:Nat->Nat->Int}(h:EqT n a b):EqT n b a:=λi j hi hj=>(h i j hi hj).symm
theorem EqT.trans{n:Nat}{a b c:Nat->Nat->Int}(h:EqT n a b)(g:EqT n b c):EqT n a c:=λi j hi hj=>(h i j hi hj).trans (g i j hi hj)
theorem EqT.prod{n:Nat}{a b c d:Nat->Nat->Int}(h:EqT n a b)(g:EqT n c d):EqT n (prodF n a c) (prodF n b d):=λi j hi hj=>Qaa (λk hk=>h i k hi hk) λk hk=>g k j hk hj
theorem EqT.rfl{n:Nat}{a:Nat->Nat->Int}:EqT n a a:=λ_ _ _ _=>Eq.refl _
theorem QnK{n:Nat}{a b:Nat->Nat->Int}(h:Q9 n a b)(c:Nat->Nat->Int):EqT n (prodF n a (prodF n b c)) c:=λi j hi hj=>by
 rw[← Q3,Qaa (a':=idF) (b':=c) (λk hk=>h i k hi hk) λ_ _=>Eq.refl _]
 exact Qad c j hi
theorem QvC{n:Nat}{a b:Nat->Nat->Int}(h:Q9 n a b)(c:Nat->Nat->Int):EqT n (prodF n (prodF n c a) b) c:=λi j hi hj=>by
 rw[Q3,Qaa (a':=c) (b':=idF) (λ_ _=>Eq.refl _) λk hk=>h k j hk hj]
 exact Qej c i hj
def QK(n:Nat)(A:Nat->Nat->Int)(d:Nat->Int):Prop:=∃L Lb R Rb,(Q9 n L Lb/\Q9 n Lb L)/\(Q9 n R Rb/\Q9 n Rb R)/\EqT n (prodF n (prodF n L A) R) (Qt d)
theorem QeR.has{n:Nat}{f Lf R Lb Rb:Nat->Nat->Int}{len:Nat->Int}(h:QeR n f Lf R Lb Rb len):QK n f len:=⟨Lf,Lb,R,Rb,⟨h.v1,h.v2⟩,⟨h.u1,h.u2⟩,h.mid⟩
theorem QK.congr{n:Nat}{A B:Nat->Nat->Int}{d:Nat->Int}(h:QK n A d)(e:EqT n B A):QK n B d:=by
 obtain⟨L,Lb,R,Rb,h1,h2,h3⟩:=h
 exact⟨L,Lb,R,Rb,h1,h2,((EqT.rfl.prod e).prod EqT.rfl).trans h3⟩
theorem QK.left{n:Nat}{A E Eb:Nat->Nat->Int}{d:Nat->Int}(h:QK n A d)(u:Q9 n E Eb)(v:Q9 n Eb E):QK n (prodF n E A) d:=by
 obtain⟨L,Lb,R,Rb,h1,h2,h3⟩:=h
 refine⟨prodF n L Eb,prodF n E Lb,R,Rb,⟨h1.1.prod v,u.prod h1.2⟩,h2,EqT.trans (EqT.prod ?_ EqT.rfl) h3⟩
 rw[Q3]
 exact EqT.rfl.prod (QnK v A)
noncomputable def Qda(A:Nat->Nat->Int):Nat->Nat->Int:=λi j=>A j i
theorem QhD(n:Nat)(a b:Nat->Nat->Int):prodF n (Qda a) (Qda b)=Qda (prodF n b a):=by
 funext i j
 exact Qj λk _=>Zab _ _
theorem Qr5(i j:Nat):idF i j=idF j i:=by
 unfold idF
 by_cases z:i=j
 ·rw[if_pos z,if_pos z.symm]
 ·rw[if_neg z,if_neg (Ne.symm z)]
theorem Q9.turn{n:Nat}{a b:Nat->Nat->Int}(h:Q9 n a b):Q9 n (Qda b) (Qda a):=λi j hi hj=>by
 rw[QhD,Qr5]
 exact h j i hj hi
theorem QK.turn{n:Nat}{A:Nat->Nat->Int}{d:Nat->Int}(h:QK n A d):QK n (Qda A) d:=by
 obtain⟨L,Lb,R,Rb,h1,h2,h3⟩:=h
 refine⟨Qda R,Qda Rb,Qda L,Qda Lb,⟨h2.2.turn,h2.1.turn⟩,⟨h1.2.turn,h1.1.turn⟩,λi j hi hj=>?_⟩
 rw[QhD,QhD,← Q3]
 refine(h3 j i hj hi).trans ?_
 unfold Qt idF
 by_cases z:j=i
 ·rw[z]
 ·rw[if_neg z,if_neg (Ne.symm z),Zu,Zu]
theorem Qtr{n:Nat}(d:Nat->Int)(q:Nat->Nat->Int):EqT n (prodF n (Qt d) q) λi j=>d i*q i j:=λi j hi _=>by
 refine(QbS hi λk _ hk=>?_).trans ?_
 ·unfold Qt idF;rw[if_neg (Ne.symm hk),Zu,ZD]
 ·unfold Qt idF;rw[if_pos rfl,ZX]
theorem QfI{d:Nat->Int}{n:Nat}(h:∀j,j+1<n->d j∣d (j+1)){i:Nat}:∀{j:Nat},i<=j->j<n->d i∣d j
 | 0,hij,_=>by rw[show i=0 by omega];exact Int.dvd_refl _
 | j+1,hij,hj=>by
  by_cases z:i=j+1
  ·rw[z];exact Int.dvd_refl _
  ·exact Int.dvd_trans (QfI h (by omega:i<=j) (by omega)) (h j hj)
theorem QvA{n:Nat}{P Pb Q Qb:Nat->Nat->Int}{d e:Nat->Int}(hp:Q9 n Pb P)(hq:Q9 n Q Qb)(h:EqT n (prodF n (prodF n P (Qt d)) Q) (Qt e))(hd:∀j,j+1<n->d j∣d (j+1))(he:∀j,j+1<n->e j∣e (j+1))(pos:∀j,j<n->0<e j){k:Nat}(hk:k<n):e k∣d k:=by
 have m1:∀i j,i<n->k<=j->j<n->e k∣d i*Q i j:=λi j hi hkj hj=>by
  have e1:d i*Q i j=prodF n Pb (Qt e) i j:=by
   refine(Qtr d Q i j hi hj).symm.trans ?_
   refine((QnK hp (prodF n (Qt d) Q)) i j hi hj).symm.trans ?_
   rw[← Q3 n P]
   exact(EqT.rfl.prod h) i j hi hj
  rw[e1]
  refine Qcy λl hl=>Int.dvd_trans ?_ (Int.dvd_mul_left _ _)
  unfold Qt idF
  by_cases z:l=j
  ·rw[if_pos z,ZX,z];exact QfI he hkj hj
  ·rw[if_neg z,Zu];exact Int.dvd_zero _
 have m2:∀i j,i<=k->k<=j->j<n->e k∣d k*Q i j:=λi j hi hkj hj=>by
  obtain⟨c,hc⟩:=QfI hd hi hk
  rw[hc,Int.mul_right_comm]
  exact Int.dvd_trans (m1 i j (by omega) hkj hj) (Int.dvd_mul_right _ _)
 obtain⟨g,hg⟩:∃g,g=Nat.gcd (e k).natAbs (d k).natAbs:=⟨_,rfl⟩
 have ek:=pos k hk
 have g0:0<g:=by rw[hg];exact Nat.gcd_pos_of_pos_left _ (by omega)
 have d1:g∣(e k).natAbs:=by rw[hg];exact Nat.gcd_dvd_left _ _
 have d2:g∣(d k).natAbs:=by rw[hg];exact Nat.gcd_dvd_right _ _
 have cop:Nat.Coprime ((e k).natAbs / g) ((d k).natAbs / g):=by rw[hg];exact Nat.coprime_div_gcd_div_gcd (by rw[← hg];exact g0)
 obtain⟨t,ht⟩:∃t,t=(e k).natAbs / g:=⟨_,rfl⟩
 rw[← ht]at cop
 have m3:∀j r,j<=k->k<=r->r<n->(t:Int)∣Q j r:=λi j hi hkj hj=>by
  have:=Zal.mpr (m2 i j hi hkj hj)
  rw[ZT,← Nat.mul_div_cancel' d1,← Nat.mul_div_cancel' d2,← ht,Nat.mul_assoc]at this
  exact QeD.mpr (Nat.Coprime.dvd_of_dvd_mul_left cop (Nat.dvd_of_mul_dvd_mul_left g0 this))
 have m4:=QoZ n k (λj r=>Q j r) hk m3
 have m5:=hq.det
 rw[QgI n Q]at m5
 have m6:t∣(HS.det n Q).natAbs:=QeD.mp m4
 rw[m5,Nat.dvd_one]at m6
 have:(e k).natAbs=g:=by rw[← Nat.mul_div_cancel' d1,← ht,m6,Nat.mul_one]
 rw[← this]at d2
 exact Zal.mp d2
theorem QK.back{n:Nat}{A L Lb R Rb:Nat->Nat->Int}{D:Nat->Nat->Int}(h1:Q9 n Lb L)(h2:Q9 n R Rb)(h3:EqT n (prodF n (prodF n L A) R) D):EqT n A (prodF n Lb (prodF n D Rb)):=by
 refine EqT.trans ?_ (EqT.rfl.prod (h3.prod EqT.rfl))
 exact EqT.symm ((EqT.rfl.prod (QvC h2 (prodF n L A))).trans (QnK h1 A))
theorem QK.one{n:Nat}{A:Nat->Nat->Int}{d e:Nat->Int}(h:QK n A d)(g:QK n A e)(hd:∀j,j+1<n->d j∣d (j+1))(he:∀j,j+1<n->e j∣e (j+1))(pos:∀j,j<n->0<e j){k:Nat}(hk:k<n):e k∣d k:=by
 obtain⟨L,Lb,R,Rb,h1,h2,h3⟩:=h
 obtain⟨M,Mb,S,Sb,g1,g2,g3⟩:=g
 have e1:=QK.back h1.2 h2.1 h3
 refine QvA (P:=prodF n M Lb) (Pb:=prodF n L Mb) (Q:=prodF n Rb S) (Qb:=prodF n Sb R) (h1.1.prod g1.2) (h2.2.prod g2.1) ?_ hd he pos hk
 refine EqT.trans ?_ g3
 refine EqT.trans (b:=prodF n (prodF n M (prodF n Lb (prodF n (Qt d) Rb))) S) ?_ ((EqT.rfl.prod e1.symm).prod EqT.rfl)
 simp only[Q3]
 exact EqT.rfl
theorem QK.unique{n:Nat}{A:Nat->Nat->Int}{d e:Nat->Int}(h:QK n A d)(g:QK n A e)(hd:∀j,j+1<n->d j∣d (j+1))(he:∀j,j+1<n->e j∣e (j+1))(pd:∀j,j<n->0<d j)(pe:∀j,j<n->0<e j){k:Nat}(hk:k<n):d k=e k:=
 Int.dvd_antisymm (Int.le_of_lt (pd k hk)) (Int.le_of_lt (pe k hk)) (g.one h he hd pd hk) (h.one g hd he pe hk)
theorem QK.full{n:Nat}{A:Nat->Nat->Int}{d:Nat->Int}(h:QK n A d)(pos:∀j,j<n->0<d j):(det n λj i=>A i j)≠0:=λz=>by
 obtain⟨L,Lb,R,Rb,h1,h2,h3⟩:=h
 have e1:(HS.det n λj i=>prodF n (prodF n L A) R i j)=Qd0 d n:=by
  rw[QJ (k:=Qt d) λj hj i hi=>by
   rw[h3 i j hi hj];unfold Qt idF
   by_cases z:i=j
   ·subst z;rw[if_pos rfl]
   ·rw[if_neg z,if_neg (Ne.symm z),Zu,Zu],QgD n (Qt d) λj r _ _ hr=>by unfold Qt idF;rw[if_neg (by omega),Zu],QkY]
 rw[QeC,QeC,z,Zu,ZD]at e1
 have:=QgY pos
 omega
theorem QK.dia(n:Nat)(d:Nat->Int):QK n (Qt d) d:=⟨idF,idF,idF,idF,⟨λi j hi hj=>Qad idF j hi,λi j hi hj=>Qad idF j hi⟩,⟨λi j hi hj=>Qad idF j hi,λi j hi hj=>Qad idF j hi⟩,λi j hi hj=>by rw[Qej _ _ hj,Qad _ _ hi]⟩
noncomputable def QcC(a b:Nat)(c:Int)(A:Nat->Nat->Int):Nat->Nat->Int:=λi j=>if i=a then A a j+c*A b j else A i j
theorem Qig{n a b:Nat}{c:Int}(A:Nat->Nat->Int)(ha:a<n)(hb:b<n)(hab:a≠b):EqT n (QcC a b c A) (prodF n (QcC a b c idF) A):=λi j hi hj=>by
 unfold QcC
 by_cases z:i=a
 ·rw[if_pos z]
  refine Eq.symm ((Qj (g:=λk=>idF a k*A k j+c*(idF b k*A k j)) λk _=>?_).trans ?_)
  ·show(if i=a then idF a k+c*idF b k else idF i k)*A k j=_
   rw[if_pos z,ZV,ZI]
  ·rw[QaA,Qaf]
   show prodF n idF A a j+c*prodF n idF A b j=_
   rw[Qad A j ha,Qad A j hb]
 ·rw[if_neg z]
  refine Eq.symm ((Qj (g:=λk=>idF i k*A k j) λk _=>?_).trans (Qad A j hi))
  show(if i=a then idF a k+c*idF b k else idF i k)*A k j=_
  rw[if_neg z]
theorem Qis{n a b:Nat}{c c':Int}(ha:a<n)(hb:b<n)(hab:a≠b)(h:c+c'=0):Q9 n (QcC a b c idF) (QcC a b c' idF):=λi j hi hj=>by
 rw[← Qig _ ha hb hab i j hi hj]
 unfold QcC
 by_cases z:i=a
 ·rw[if_pos z,if_pos rfl,if_neg (Ne.symm hab),Int.add_assoc,← ZV,Int.add_comm c' c,h,ZD,Zba,z]
 ·rw[if_neg z,if_neg z]
theorem QK.QcC{n a b:Nat}{c:Int}{A:Nat->Nat->Int}{d:Nat->Int}(h:QK n A d)(ha:a<n)(hb:b<n)(hab:a≠b):QK n (HS.QcC a b c A) d:=
 (h.left (Qis (c:=c) (c':= -c) ha hb hab (by omega)) (Qis ha hb hab (by omega))).congr (Qig A ha hb hab)
theorem QK.Qww{n a b:Nat}{c:Int}{A B:Nat->Nat->Int}{d:Nat->Int}(h:QK n A d)(ha:a<n)(hb:b<n)(hab:a≠b)(e:∀i j,B i j=if j=a then A i a+c*A i b else A i j):QK n B d:=
 (h.turn.QcC (c:=c) ha hb hab).turn.congr λi j _ _=>e i j
noncomputable def Qiy(a:Nat)(A:Nat->Nat->Int):Nat->Nat->Int:=λi j=>if i=a then 0-A i j else A i j
theorem QmB{n a:Nat}(A:Nat->Nat->Int):EqT n (Qiy a A) (prodF n (Qiy a idF) A):=λi j hi _=>by
 unfold Qiy
 by_cases z:i=a
 ·rw[if_pos z,← Qad A j hi]
  refine Eq.symm ((Qj (g:=λk=>(-1)*(idF i k*A k j)) λk _=>?_).trans ((Qaf _ _ _).trans ?_))
  ·show(if i=a then 0-idF i k else idF i k)*A k j=_
   rw[if_pos z,ZaQ,Zax,Zax,ZQ]
  ·show(-1)*prodF n idF A i j=0-prodF n idF A i j
   omega
 ·rw[if_neg z]
  refine Eq.symm ((Qj (g:=λk=>idF i k*A k j) λk _=>?_).trans (Qad A j hi))
  show(if i=a then 0-idF i k else idF i k)*A k j=_
  rw[if_neg z]
theorem QK.neg{n a:Nat}{A:Nat->Nat->Int}{d:Nat->Int}(h:QK n A d):QK n (Qiy a A) d:=by
 have u:Q9 n (Qiy a idF) (Qiy a idF):=λi j hi hj=>by
  rw[← QmB _ i j hi hj]
  unfold Qiy
  by_cases z:i=a
  ·rw[if_pos z,if_pos z];omega
  ·rw[if_neg z,if_neg z]
 exact(h.left u u).congr (QmB A)
theorem Qo2{x y i:Nat}{fi fa:DE}{ds es:List D}{ρ:En}{r k:HS.R}{z:Int}{j:Nat}(hd:ds[i]? =some (.lst es))(h1:fa ((Qau [x] ρ).set y (some (.lst es,(D.lst es).flat)))=some r)(h2:fi ((Qau [x] ρ).set y (some (.lst es,(D.lst es).flat)))=some k)(hk:k.d= .int z)(h3:ixN es.length z=some j)(hf:r.d.flat=true):QhP x y fi fa ds i ρ=some (ds.set i (.lst (es.set j r.d))):=by
 unfold QhP
 rw[hd]
 simp only[h1,h2,Za,hk,h3,hf,if_true]
theorem QnR{x y n to:Nat}{f:Nat->Nat->Int}{v:Nat->Int}{fi fa:DE}{ρ:En}(hx:x<ρ.length)(ht:to<n)(hi:∀(i:Nat) ds,i<n->fi ((ρ.set x (some (.lst ds,false))).set y (some (Qe n (f i),false)))=some ⟨.int to,true,[]⟩)(ha:∀(i:Nat) ds,i<n->fa ((ρ.set x (some (.lst ds,false))).set y (some (Qe n (f i),false)))=some ⟨.int (v i),true,[]⟩):
  ∀(m i:Nat),i+m=n->Qgv x y fi fa m i ρ ((List.range n).map λr=>Qe n λj=>if r<i/\j=to then v r else f r j)=some ((List.range n).map λr=>Qe n λj=>if r<n/\j=to then v r else f r j)
 | 0,i,e=>by
  rw[show i=n by omega];rfl
 | m+1,i,e=>by
  have hin:i<n:=by omega
  have er:(Qe n λj=>if i<i/\j=to then v i else f i j)=Qe n (f i):=QcE λj _=>by rw[if_neg (by omega)]
  have hd:((List.range n).map λr=>Qe n λj=>if r<i/\j=to then v r else f r j)[i]? =some (Qe n (f i)):=by
   rw[Zl,ZG hin]
   exact congrArg some er
  have en:((List.range n).map λr=>Qe n λj=>if r<i/\j=to then v r else f r j).set i (Qe n (up (f i) to (v i)))=(List.range n).map λr=>Qe n λj=>if r<i+1/\j=to then v r else f r j:=by
   rw[Qc9 hin]
   refine ZO λr _=>QcE λj _=>?_
   rw[Qew]
   by_cases z:r=i
   ·subst z
    rw[if_pos rfl]
    by_cases w:j=to
    ·rw[if_pos w,if_pos ⟨by omega,w⟩]
    ·rw[if_neg w,if_neg λh=>w h.2]
   ·rw[if_neg z]
    by_cases w:r<i/\j=to
    ·rw[if_pos w,if_pos ⟨by omega,w.2⟩]
    ·rw[if_neg w,if_neg λh=>w ⟨by omega,h.2⟩]
  generalize hds:(List.range n).map (λr=>Qe n λj=>if r<i/\j=to then v r else f r j)=ds at *
  have dem:Qau [x] (ρ.set x (some (.lst ds,true)))=ρ.set x (some (.lst ds,false)):=by
   show(match (ρ.set x (some (D.lst ds,true)))[x]? with
    | some (some (d,_))=>(ρ.set x (some (D.lst ds,true))).set x (some (d,false))
    | _=>ρ.set x (some (D.lst ds,true)))=_
   rw[Ze hx]
   exact List.set_set ..
  unfold Qgv
  rw[Qo2 (r:=⟨.int (v i),true,[]⟩) (k:=⟨.int to,true,[]⟩) (z:=to) (j:=to) hd (by rw[dem];exact ha i ds hin) (by rw[dem];exact hi i ds hin) rfl (by rw[Zx,Zo];exact Quo ht) rfl,QkX,Za]
  have:=QnR hx ht hi ha m (i+1) (by omega)
  rw[← en]at this
  exact this
theorem QuS{x y n to:Nat}{f:Nat->Nat->Int}{v:Nat->Int}{fi fa:DE}{ρ:En}{Q:Out->Prop}(hx:ρ[x]? =some (some (Qc n n f,true)))(hxy:x≠y)(hy:y<ρ.length)(ht:to<n)(hi:∀(i:Nat) ds,i<n->fi (((ρ.set y none).set x (some (.lst ds,false))).set y (some (Qe n (f i),false)))=some ⟨.int to,true,[]⟩)(ha:∀(i:Nat) ds,i<n->fa (((ρ.set y none).set x (some (.lst ds,false))).set y (some (Qe n (f i),false)))=some ⟨.int (v i),true,[]⟩)
  (q:Q (.nx ((ρ.set y none).set x (some (Qc n n λi j=>if j=to then v i else f i j,true))))):Run (Qjf x y fi fa) ρ Q:=by
 refine⟨_,?_,q⟩
 have hxl:x<(ρ.set y none).length:=by rw[Zz];exact(Zd.mp hx).1
 have h:=QnR hxl ht hi ha n 0 (by omega)
 have e0:((List.range n).map λr=>Qe n λj=>if r<0/\j=to then v r else f r j)=(List.range n).map λr=>Qe n (f r):=ZO λr _=>QcE λj _=>if_neg (by omega)
 have e1:(D.lst ((List.range n).map λr=>Qe n λj=>if r<n/\j=to then v r else f r j))=Qc n n λi j=>if j=to then v i else f i j:=congrArg D.lst (ZO λr hr=>QcE λj _=>by
  have:=Zr.mp hr
  show(if r<n/\j=to then v r else f r j)=if j=to then v r else f r j
  by_cases w:j=to
  ·rw[if_pos w,if_pos ⟨this,w⟩]
  ·rw[if_neg w,if_neg λh=>w h.2])
 rw[e0]at h
 unfold Qjf
 rw[if_pos ⟨hxy,hy⟩,hx]
 show((Qgv x y fi fa ((List.range n).map λr=>Qe n (f r)).length 0 (ρ.set y none) ((List.range n).map λr=>Qe n (f r))).map λdz=>Out.nx ((ρ.set y none).set x (some (.lst dz,true))))=_
 rw[Zx,Zo,h,ZY,e1]
noncomputable def Qcw:DS:=(Qf (Qu 2 (dBf Qat (Qd (Qa 0) Qg))) (Qf (Qu 4 (QO (Q4 (Qa 0)) (.nm 1) [none,none] QR (dList (Qd (Qa 1) Qg)))) (Qf (QaW (Q4 (Qa 1)) (.nm 5) (Qf (QeS (.tp [6,7]) (dDm (Qd (Qa 5) (Qd (Qa 2) Qg)))) (Qf (QeS (.tp [6,8]) (dDm (Qd (Qa 6) (Qd (dBf Qh1 (Qd (dC (.int 1)) (Qd (dOp QaP (Qa 2) (dC (.int 1))) Qg))) Qg)))) (Qf (Qu 9 (dOp QaJ (Q8 (Q8 (Qa 7) (dC (.int 1))) (Qa 8)) (Qa 2))) (Qf (Qu 10 (dOp QaP (dOp QaJ (Qa 6) (dC (.int 5))) (dC (.int 2)))) (Qf (sIf (QfT (QM (dOp gNe (Qa 7) (Qa 9))) (QM (dOp gEq (dOp QaJ (dOp Qcq (Qa 6) (dC (.int 5))) (dC (.int 2))) (dC (.int 0))))) (Qf (Qbf 4 Q2 (Qa 7) (QO (QdU (Ql (Qa 4) (Qa 7)) (Ql (Qa 4) (Qa 9))) (.tp [1,2]) [none,none,none,some 10] QR (Q8 (Qa 1) (Qaq (Qa 3) (Qa 2))))) Qi) (Qf (sIf (QM (dOp gNe (Qa 7) (Qa 9))) (Qf (Qjf 4 3 (Qa 7) (Q8 (Ql (Qa 3) (Qa 7)) (Qaq (Qa 10) (Ql (Qa 3) (Qa 9))))) Qi) Qi) Qi)) Qi)))))) (Qf (QH (Qa 4)) Qi))))
def QkE(d:Den):Prop:=∀(n:Nat) (A:Nat->Nat->Int) (cs:List Int) (M:Nat),0<n->n<=8->(∀i j,i<n->j<n->(A i j).natAbs<=M)->∃B,d [Qc n n A,QB cs]=some (Qc n n B,true)/\(∀e,QK n A e->QK n B e)/\∀i j,i<n->j<n->(B i j).natAbs<=M*3^cs.length
theorem QnJ{a b o:Int}{K:Nat}(h1:a.natAbs<=K)(h2:b.natAbs<=K)(h3:o.natAbs<=2):(a+o*b).natAbs<=K*3:=by
 have h4:=ZaU a (o*b)
 have h5:(o*b).natAbs<=2*K:=by rw[ZT];exact ZaL h3 h2
 omega
theorem Qsf:QkE (Qq 11 Qcw):=λn A cs M n0 n8 hA=>by
 have key:Run Qcw [some (Qc n n A,false),some (QB cs,false),none,none,none,none,none,none,none,none,none] (Rt λd fr=>fr=true/\∃B,d=Qc n n B/\(∀e,QK n A e->QK n B e)/\∀i j,i<n->j<n->(B i j).natAbs<=M*3^cs.length):=by
  refine run_seq (Qh (QaH (n:=n) (m:=n) (f:=A) (r:=⟨Qc n n A,false,[]⟩) rfl rfl) ?_)
  rw[Qn]
  refine run_seq (Qh (r:=⟨Qc n n A,true,[]⟩) (QL (toD:=λ(i:Nat)=>Qe n (A i)) (out:=λ(i:Nat)=>Qe n (A i)) (List.range n) (Qag (r:=⟨Qc n n A,false,[]⟩) rfl rfl) rfl λi _=>⟨[none,some (Qe n (A i),false)],rfl,⟨Qe n (A i),true,[]⟩,Qjh (rs:=⟨[Qe n (A i)],false,[]⟩) rfl rfl,rfl,rfl⟩) ?_)
  rw[Qn]
  refine Q0 (P:=λρ=>∃B j3 j5 j6 j7 j8 j9 j10,((∀e,QK n A e->QK n B e)/\∀i j,i<n->j<n->(B i j).natAbs<=M*3^cs.length)/\ρ=[some (Qc n n A,false),some (QB cs,false),some (.int n,true),j3,some (Qc n n B,true),j5,j6,j7,j8,j9,j10]) ?_ ?_
  ·refine Qaj (toD:=λ(c:Int)=> .int c) cs (λk ρ=>∃B j3 j5 j6 j7 j8 j9 j10,((∀e,QK n A e->QK n B e)/\∀i j,i<n->j<n->(B i j).natAbs<=M*3^k)/\ρ=[some (Qc n n A,false),some (QB cs,false),some (.int n,true),j3,some (Qc n n B,true),j5,j6,j7,j8,j9,j10]) (Qag (r:=⟨QB cs,false,[]⟩) rfl rfl) rfl ⟨A,none,none,none,none,none,none,none,⟨λ_ h=>h,λi j hi hj=>by rw[Nat.pow_zero,Nat.mul_one];exact hA i j hi hj⟩,rfl⟩ ?_ λρ h=>h
   rintro k c ρ hk ⟨B,j3,j5,j6,j7,j8,j9,j10,⟨hB,bB⟩,rfl⟩
   refine⟨[some (Qc n n A,false),some (QB cs,false),some (.int n,true),j3,some (Qc n n B,true),some (.int c,true),j6,j7,j8,j9,j10],rfl,?_⟩
   have q1:=ZM c (by omega:(n:Int)≠0)
   have q2:=ZF c (by omega:(0:Int)<n)
   obtain⟨to,eto⟩:∃to:Nat,c % (n:Int)=to:=⟨(c % (n:Int)).toNat,by omega⟩
   have hto:to<n:=by omega
   refine run_seq (Qj5 (a:=c) (b:=n) (ra:=⟨.int c,true,[]⟩) (rb:=⟨.int n,true,[]⟩) rfl rfl rfl rfl (by omega) (by omega) ?_)
   rw[eto]
   obtain⟨e,ee⟩:∃e:Int,e=if(n:Int)-1>1 then(n:Int)-1 else 1:=⟨_,rfl⟩
   have he:0<e/\e<2^200:=by rw[ee];split<;>omega
   refine run_seq (Qj5 (a:=c / n) (b:=e) (ra:=⟨.int (c / n),true,[]⟩) rfl rfl ((Quf (a:=1) (b:=(n:Int)-1) (QU _ _) rfl (Qdr (a:=n) (b:=1) (ra:=⟨.int n,true,[]⟩) rfl rfl (QU _ _) rfl) rfl).trans (by rw[← ee])) rfl he.1 he.2 ?_)
   generalize c / (n:Int) / e=w
   generalize c / (n:Int) % e=st
   have p1:=ZM ((to:Int)+1+st) (by omega:(n:Int)≠0)
   have p2:=ZF ((to:Int)+1+st) (by omega:(0:Int)<n)
   obtain⟨at',eat⟩:∃at':Nat,((to:Int)+1+st) % (n:Int)=at':=⟨(((to:Int)+1+st) % (n:Int)).toNat,by omega⟩
   have hat:at'<n:=by omega
   refine run_seq (Qh (r:=⟨.int at',true,[]⟩) ((QaF (a:=(to:Int)+1+st) (b:=n) (Qaz (a:=(to:Int)+1) (b:=st) (Qaz (a:=(to:Int)) (b:=1) (ra:=⟨.int to,true,[]⟩) rfl rfl (QU _ _) rfl) rfl (rb:=⟨.int st,true,[]⟩) rfl rfl) rfl (rb:=⟨.int n,true,[]⟩) rfl rfl (by omega)).trans (by rw[eat])) ?_)
   rw[Qn]
   obtain⟨o,eo⟩:∃o:Int,o=w % 5-2:=⟨_,rfl⟩
   have o1:=ZM w (by decide:(5:Int)≠0)
   have o2:=ZF w (by decide:(0:Int)<5)
   have o3:o.natAbs<=2:=by omega
   refine run_seq (Qh (r:=⟨.int o,true,[]⟩) ((Qdr (a:=w % 5) (b:=2) (QaF (a:=w) (b:=5) (ra:=⟨.int w,true,[]⟩) rfl rfl (QU _ _) rfl (by decide)) rfl (QU _ _) rfl).trans (by rw[eo])) ?_)
   rw[Qn]
   change Run _ [some (Qc n n A,false),some (QB cs,false),some (.int n,true),j3,some (Qc n n B,true),some (.int c,true),some (.int w,true),some (.int to,true),some (.int st,true),some (.int at',true),some (.int o,true)] _
   have big:∀i j,i<n->j<n->(B i j).natAbs<=M*3^(k+1):=λi j hi hj=>by
    have:=bB i j hi hj
    rw[Zbb,← Nat.mul_assoc];omega
   have hne:∀{b:Bool},(!decide ((to:Int)=(at':Int)))=b->b=true->to≠at':=λh hb z=>by
    rw[← h,z]at hb;simp at hb
   refine run_seq (QZ (b:= !decide ((to:Int)=(at':Int)) && decide (w / 5 % 2=0)) (Qkp (QI (QbQ (a:=(to:Int)) (b:=(at':Int)) (ra:=⟨.int to,true,[]⟩) rfl rfl (rb:=⟨.int at',true,[]⟩) rfl rfl) rfl) (QI (Qa9 (a:=w / 5 % 2) (b:=0) (QaF (a:=w / 5) (b:=2) (Qhd (a:=w) (b:=5) (ra:=⟨.int w,true,[]⟩) rfl rfl (QU _ _) rfl (by decide) (by decide)) rfl (QU _ _) rfl (by decide)) rfl (QU _ _) rfl) rfl)) (λh=>?_) (λh=>?_))
   ·have hab:to≠at':=hne rfl (Bool.and_eq_true_iff.mp h).1
    refine run_seq (QrK (x:=4) (n:=n) (k:=to) (f:=B) (p:=λj=>B to j+o*B at' j) rfl rfl ?_ hto (Qr (Qr ⟨QcC to at' o B,_,_,_,_,_,_,_,⟨λe he=>(hB e he).QcC hto hat hab,λi j hi hj=>?_⟩,rfl⟩)))
    ·refine QL (toD:=λ(j:Nat)=> .tup [.int (B to j),.int (B at' j)]) (out:=λ(j:Nat)=> .int (B to j+o*B at' j)) (List.range n) (Qen (m:=n) (f:=λj=> .int (B to j)) (g:=λj=> .int (B at' j)) ((Qcg (m:=n) (n:=n) (f:=B) (i:=(to:Int)) (ra:=⟨Qc n n B,true,[4]⟩) (rb:=⟨.int to,true,[]⟩) rfl rfl rfl rfl (by omega) (by omega)).trans (by rw[ZC])) rfl ((Qcg (m:=n) (n:=n) (f:=B) (i:=(at':Int)) (ra:=⟨Qc n n B,true,[4]⟩) (rb:=⟨.int at',true,[]⟩) rfl rfl rfl rfl (by omega) (by omega)).trans (by rw[ZC])) rfl) rfl λj hj=>⟨[none,some (.int (B to j),true),some (.int (B at' j),true),some (.int o,true)],rfl,⟨.int (B to j+o*B at' j),true,[]⟩,Qaz (a:=B to j) (b:=o*B at' j) rfl rfl (Qap (a:=o) (b:=B at' j) rfl rfl rfl rfl (QbE (by omega))) rfl,rfl,rfl⟩
    ·unfold QcC
     split
     ·rw[Zbb,← Nat.mul_assoc]
      exact QnJ (bB to j hto hj) (bB at' j hat hj) o3
     ·exact big i j hi hj
   ·refine run_seq (QZ (b:= !decide ((to:Int)=(at':Int))) (QI (QbQ (a:=(to:Int)) (b:=(at':Int)) (ra:=⟨.int to,true,[]⟩) rfl rfl (rb:=⟨.int at',true,[]⟩) rfl rfl) rfl) (λh=>?_) (λh=>Qr (Qr (Qr ⟨B,_,_,_,_,_,_,_,⟨hB,big⟩,rfl⟩))))
    have hab:to≠at':=hne rfl h
    refine run_seq (QuS (x:=4) (y:=3) (n:=n) (to:=to) (f:=B) (v:=λi=>B i to+o*B i at') rfl (by decide) (by decide:3<11) hto (λi ds hi=>rfl) (λi ds hi=>Qaz (a:=B i to) (b:=o*B i at') (Qam (m:=n) (f:=B i) (i:=to) (ra:=⟨Qe n (B i),false,[]⟩) (rb:=⟨.int to,true,[]⟩) rfl rfl rfl rfl hto) rfl (Qap (a:=o) (b:=B i at') (ra:=⟨.int o,true,[]⟩) rfl rfl (Qam (m:=n) (f:=B i) (i:=at') (ra:=⟨Qe n (B i),false,[]⟩) (rb:=⟨.int at',true,[]⟩) rfl rfl rfl rfl hat) rfl (QbE (by omega))) rfl) (Qr (Qr (Qr ⟨_,_,_,_,_,_,_,_,⟨λe he=>(hB e he).Qww (c:=o) hto hat hab λi j=>rfl,λi j hi hj=>?_⟩,rfl⟩))))
    show(if j=to then B i to+o*B i at' else B i j).natAbs<=_
    split
    ·rw[Zbb,← Nat.mul_assoc]
     exact QnJ (bB i to hi hto) (bB i at' hi hat) o3
    ·exact big i j hi hj
  ·rintro ρ ⟨B,j3,j5,j6,j7,j8,j9,j10,h,rfl⟩
   exact QE (r:=⟨Qc n n B,true,[4]⟩) rfl ⟨rfl,B,rfl,h⟩
 obtain⟨out,h1,h2⟩:=key
 cases out with
 | rt d fr=>
  obtain⟨rfl,B,rfl,h⟩:=h2
  exact⟨B,by show Option.bind (Qcw [some (Qc n n A,false),some (QB cs,false),none,none,none,none,none,none,none,none,none]) outD=_;rw[h1];rfl,h⟩
 | _=>exact h2.elim
noncomputable def Qff(Qca:Den):DS:=(Qf (Qu 2 (Qav Qg)) (Qf (QaW (Q5 (Qa 1)) (.nm 3) (Qf (QeS (.tp [4,5]) (dDm (Qd (Ql (Qa 0) (Q8 (dC (.int 2)) (Qa 3))) (Qd (dC (.int 4)) Qg)))) (Qf (QcP 2 Q2 (Q8 (Q8 (Qaq (Qav (Qd (dC (.int 0)) Qg)) (Qa 3)) (Qav (Qd (Q8 (dC (.int 1)) (dOp QaJ (Qa 4) (Ql (Qav (Qd (dC (.int 4)) (Qd (dC (.int 12)) (Qd (dC (.int 60)) (Qd (dC (.int 1000003)) Qg))))) (Qa 5)))) Qg))) (Qaq (Qav (Qd (dC (.int 0)) Qg)) (dOp QaP (dOp QaP (Qa 1) (dC (.int 1))) (Qa 3))))) Qi))) (Qf (QH (Qk 2 Qca [] (Qd (Qa 2) (Qd (QcV (Qa 0) (Qbd (dC (.int 10))) (Qbd (Q8 (dC (.int 10)) (dBf QhY (Qd (dC (.int 12)) (Qd (Qaq (dC (.int 3)) (Qa 1)) Qg)))))) Qg)))) Qi)))
def Qfw(d:Den):Prop:=∀(n:Nat) (cs:List Int),0<n->n<=8->22<=cs.length->∃B e,d [QB cs,.int n]=some (Qc n n B,true)/\QK n B e/\(∀j,j<n->0<e j)/\∀i j,i<n->j<n->(B i j).natAbs<=2^50
theorem Qh8{cs:List Int}{k:Nat}(h:k<cs.length):cs[(k:Int).toNat]? =some (cs.getD k 0):=by
 rw[ZC,Zar,Zam h];rfl
theorem Qpg{dm:Den}(hm:QkE dm):Qfw (Qq 6 (Qff dm)):=λn cs n0 n8 hl=>by
 have hL:∀c:Int,∃L:Int,[4,12,60,(1000003:Int)][(c % 4).toNat]? =some L/\0<L/\L<=1000003:=λc=>by
  have y1:=ZM c (by decide:(4:Int)≠0)
  have y2:=ZF c (by decide:(0:Int)<4)
  obtain⟨L,h⟩:∃L,[4,12,60,(1000003:Int)][(c % 4).toNat]? =some L:=⟨_,Zam (by simp;omega)⟩
  have all:∀x∈[4,12,60,(1000003:Int)],0<x/\x<=1000003:=by decide
  exact⟨L,h,all L (ZaG h)⟩
 obtain⟨L,hL⟩:∃L:Nat->Int,∀k,[4,12,60,(1000003:Int)][(cs.getD (2+k) 0 % 4).toNat]? =some (L k)/\0<L k/\L k<=1000003:=⟨λk=>(hL (cs.getD (2+k) 0)).choose,λk=>(hL (cs.getD (2+k) 0)).choose_spec⟩
 obtain⟨e,he⟩:∃e:Nat->Int,∀k,e k=1+cs.getD (2+k) 0 / 4 % L k:=⟨λk=>1+cs.getD (2+k) 0 / 4 % L k,λ_=>rfl⟩
 have hb:∀k,0<e k/\e k<=1000003:=λk=>by
  obtain⟨_,h1,h2⟩:=hL k
  have m1:=ZM (cs.getD (2+k) 0 / 4) (by omega:L k≠0)
  have m2:=ZF (cs.getD (2+k) 0 / 4) h1
  rw[he k];omega
 obtain⟨m,em⟩:∃m:Nat,(m:Int)=if 3*(n:Int)<12 then 3*(n:Int)else 12:=⟨(if 3*(n:Int)<12 then 3*(n:Int)else 12).toNat,by split<;>omega⟩
 have m12:m<=12:=by split at em<;>omega
 obtain⟨B,eB,hB,bB⟩:=hm n (Qt e) ((cs.drop (min 10 cs.length)).take (min (10+m) cs.length-min 10 cs.length)) 1000003 n0 n8 λi j hi hj=>by
  unfold Qt idF
  have:=hb i
  split
  ·rw[ZX];omega
  ·rw[Zu];exact ZS _
 refine⟨B,e,Q1 ?_,hB e (QK.dia n e),λj _=>(hb j).1,λi j hi hj=>Zk (bB i j hi hj) ?_⟩
 ·refine run_seq (Qh (r:=⟨Qc 0 n (Qt e),true,[]⟩) rfl ?_)
  rw[Qn]
  refine Q0 (P:=λρ=>∃j3 j4 j5,ρ=[some (QB cs,false),some (.int n,true),some (Qc n n (Qt e),true),j3,j4,j5]) ?_ ?_
  ·refine Qaj (toD:=λ(k:Nat)=> .int (k:Int)) (List.range n) (λk ρ=>∃j3 j4 j5,ρ=[some (QB cs,false),some (.int n,true),some (Qc k n (Qt e),true),j3,j4,j5]) (Qac (n:=n) (r:=⟨.int n,true,[]⟩) rfl rfl (by omega)) rfl ⟨none,none,none,rfl⟩ ?_ ?_
   ·rintro k k' ρ hk ⟨j3,j4,j5,rfl⟩
    have hk':k<n/\k=k':=by
     obtain⟨h1,h2⟩:=Zd.mp hk
     simp at h1 h2;exact⟨h1,h2⟩
    obtain⟨hkn,rfl⟩:=hk'
    obtain⟨l1,l2,_⟩:=hL k
    have y1:=ZM (cs.getD (2+k) 0) (by decide:(4:Int)≠0)
    refine⟨[some (QB cs,false),some (.int n,true),some (Qc k n (Qt e),true),some (.int k,true),j4,j5],rfl,?_⟩
    refine run_seq (Qj5 (a:=cs.getD (2+k) 0) (b:=4) (Qdk (ns:=cs) (i:=((2+k:Nat):Int)) (ra:=⟨QB cs,false,[]⟩) (rb:=⟨.int ((2+k:Nat):Int),true,[]⟩) rfl rfl ((Qaz (a:=2) (b:=k) (QU _ _) rfl (rb:=⟨.int k,true,[]⟩) rfl rfl).trans (by rw[show((2+k:Nat):Int)=2+(k:Int) by omega])) rfl (by omega) (Qh8 (by omega))) rfl (QU _ _) rfl (by decide) (by decide) ?_)
    have e1:Qav (Qd (Q8 (dC (.int 1)) (dOp QaJ (Qa 4) (Ql (Qav (Qd (dC (.int 4)) (Qd (dC (.int 12)) (Qd (dC (.int 60)) (Qd (dC (.int 1000003)) Qg))))) (Qa 5)))) Qg) [some (QB cs,false),some (.int n,true),some (Qc k n (Qt e),true),some (.int k,true),some (.int (cs.getD (2+k) 0 / 4),true),some (.int (cs.getD (2+k) 0 % 4),true)]=some ⟨Qe 1 λ_=>e k,true,[]⟩:=by
     refine(Qe6 (rs:=⟨[.int (e k)],true,[]⟩) (Qs (r:=⟨.int (e k),true,[]⟩) ((Qaz (a:=1) (b:=cs.getD (2+k) 0 / 4 % L k) (QU _ _) rfl (QaF (a:=cs.getD (2+k) 0 / 4) (b:=L k) (ra:=⟨.int (cs.getD (2+k) 0 / 4),true,[]⟩) rfl rfl (Qdk (ns:=[4,12,60,(1000003:Int)]) (i:=cs.getD (2+k) 0 % 4) (v:=L k) (ra:=⟨.lst ([4,12,60,(1000003:Int)].map .int),true,[]⟩) ((Qe6 (rs:=⟨[.int 4,.int 12,.int 60,.int 1000003],true,[]⟩) rfl (by simp)).trans rfl) rfl (rb:=⟨.int (cs.getD (2+k) 0 % 4),true,[]⟩) rfl rfl y1 l1) rfl l2) rfl).trans (by rw[he k])) (QP _)) (by simp)).trans rfl
    have er:Qe (k+1+(n-1-k)) (λi=>if i<k+1 then(if i<k then(0:Int)else e k)else 0)=Qe n (Qt e k):=by
     rw[show k+1+(n-1-k)=n by omega]
     refine QcE λj _=>?_
     unfold Qt idF
     by_cases z:k=j
     ·rw[if_pos z,if_pos (by omega),if_neg (by omega),ZX]
     ·rw[if_neg z,Zu]
      split
      ·rw[if_pos (by omega)]
      ·rfl
    refine run_seq (QiV (xs:=(List.range k).map λi=>Qe n (Qt e i)) (d:=Qe n (Qt e k)) rfl ((QiM (m:=k+1) (k:=n-1-k) (f:=λi=>if i<k then(0:Int)else e k) (g:=λ_=>0) (QiM (m:=k) (k:=1) (f:=λ_=>0) (g:=λ_=>e k) (QjF (n:=k) (z:=0) (r:=⟨.int k,true,[]⟩) rfl rfl (by omega)) rfl e1 rfl (by omega)) rfl (QjF (n:=n-1-k) (z:=0) (Qdr (a:=(n:Int)-1) (b:=k) (Qdr (a:=n) (b:=1) (ra:=⟨.int n,true,[]⟩) rfl rfl (QU _ _) rfl) rfl (rb:=⟨.int k,true,[]⟩) rfl rfl) (by show D.int ((n:Int)-1-k)=_;congr 1;omega) (by omega)) rfl (by omega)).trans (congrArg (λd=>some (HS.R.mk d true [])) er)) (by simp;omega) (Qr ⟨some (.int k,true),some (.int (cs.getD (2+k) 0 / 4),true),some (.int (cs.getD (2+k) 0 % 4),true),?_⟩))
    rw[QiS];rfl
   ·rintro ρ ⟨j3,j4,j5,rfl⟩
    rw[Zo]
    exact⟨_,_,_,rfl⟩
  rintro ρ ⟨j3,j4,j5,rfl⟩
  exact QE (Qm (Qs (r:=⟨Qc n n (Qt e),true,[2]⟩) rfl (Qs (Qur (cs:=cs) (a:=10) (b:=10+m) (ra:=⟨QB cs,false,[]⟩) rfl rfl (QU _ _) rfl (Qaz (a:=10) (b:=m) (QU _ _) rfl ((QuG (a:=12) (b:=3*(n:Int)) (QU _ _) rfl (Qap (a:=3) (b:=n) (QU _ _) rfl (rb:=⟨.int n,true,[]⟩) rfl rfl (QbE (by decide))) rfl).trans (by rw[← em])) rfl) (by show D.int ((10:Int)+m)=_;congr 1)) (QP _))) eB rfl) ⟨rfl,rfl⟩
 ·have h1:((cs.drop (min 10 cs.length)).take (min (10+m) cs.length-min 10 cs.length)).length<=12:=by
   rw[ZaY];omega
  exact Zk (Nat.mul_le_mul_left _ (ZH (by decide) h1)) (by decide)
noncomputable def QaD(g:Nat->Nat->Int)(s:Int):Nat->Nat->Int:=λi j=>g i j+s*idF i j
theorem QuV(n:Nat):det n idF≠0:=by
 rw[show(idF:Nat->Nat->Int)=Qy from rfl,Qc2]
 decide
noncomputable def QcU(Qb8:Den):DS:=(Qf (Qu 1 (QO (Q4 (Qa 0)) (.nm 1) [none,none] QR (dList (Qd (Qa 1) Qg)))) (Qf (QaW (Q5 (dBf Qat (Qd (Qa 0) Qg))) (.nm 2) (Qf (sIf (QM (dOp gNe (Qk 1 Qb8 [] (Qd (Qa 1) Qg)) (dC (.int 0)))) (Qf (QH (Qa 1)) Qi) Qi) (Qf (QaW (Q5 (dBf Qat (Qd (Qa 0) Qg))) (.nm 3) (Qf (Qbf 1 (Qar Q2 (Qa 3)) (Qa 3) (Q8 (Ql (Ql (Qa 1) (Qa 3)) (Qa 3)) (dC (.int 1)))) Qi)) Qi))) (Qf (QH (Qa 1)) Qi)))
def Qgs(d:Den):Prop:=∀(n:Nat) (g:Nat->Nat->Int),0<n->n<=4->(∀i j,i<n->j<n->(g i j).natAbs<=2^40)->∃s:Nat,s<=n/\d [Qc n n g]=some (Qc n n (QaD g s),true)/\det n (QaD g s)≠0
theorem Qnx{n:Nat}{g:Nat->Nat->Int}(hg:∀i j,i<n->j<n->(g i j).natAbs<=2^40){s:Nat}(hs:s<=4):∀i j,i<n->j<n->(QaD g s i j).natAbs<=2^41:=λi j hi hj=>by
 have:=hg i j hi hj
 unfold QaD idF
 split<;>omega
theorem Qqg{dm:Den}(hm:QdL 4 dm):Qgs (Qq 4 (QcU dm)):=λn g n0 n4 hg=>by
 have key:Run (QcU dm) [some (Qc n n g,false),none,none,none] (Rt λd fr=>fr=true/\∃s:Nat,s<=n/\d=Qc n n (QaD g s)/\det n (QaD g s)≠0):=by
  have e0:Qc n n g=Qc n n (QaD g ((0:Nat):Int)):=Qf7 λi j _ _=>by unfold QaD;simp
  refine run_seq (Qh (r:=⟨Qc n n (QaD g ((0:Nat):Int)),true,[]⟩) ((QL (toD:=λ(i:Nat)=>Qe n (g i)) (out:=λ(i:Nat)=>Qe n (g i)) (List.range n) (Qag (r:=⟨Qc n n g,false,[]⟩) rfl rfl) rfl λi _=>⟨[none,some (Qe n (g i),false)],rfl,⟨Qe n (g i),true,[]⟩,Qjh (rs:=⟨[Qe n (g i)],false,[]⟩) rfl rfl,rfl,rfl⟩).trans (congrArg (λd=>some (HS.R.mk d true [])) e0)) ?_)
  rw[Qn]
  refine Qw (Qaj (toD:=λ(k:Nat)=> .int (k:Int)) (List.range n) (λs ρ=>∃j2 j3,s<=n/\(∀t:Nat,t<s->det n (QaD g t)=0)/\ρ=[some (Qc n n g,false),some (Qc n n (QaD g s),true),j2,j3]) (Qac (n:=n) (QaH (n:=n) (m:=n) (f:=g) (r:=⟨Qc n n g,false,[]⟩) rfl rfl) rfl (by omega)) rfl ⟨none,none,by omega,λt ht=>by omega,rfl⟩ ?_ ?_)
  ·rintro s s' ρ hs ⟨j2,j3,_,hz,rfl⟩
   have hs':s<n/\s=s':=by
    obtain⟨h1,h2⟩:=Zd.mp hs
    simp at h1 h2;exact⟨h1,h2⟩
   obtain⟨hsn,rfl⟩:=hs'
   refine⟨[some (Qc n n g,false),some (Qc n n (QaD g s),true),some (.int s,true),j3],rfl,?_⟩
   have em:=hm n (QaD g s) (by omega) n4 (by omega) λj hj r hr=>Zk (Qnx hg (by omega:s<=4) j r hj hr) (ZH (by decide) (by decide))
   refine Qw (QZ (b:= !decide (det n (QaD g s)=0)) (QI (QbQ (a:=det n (QaD g s)) (b:=0) (Qm (r:=⟨[Qc n n (QaD g s)],true,[1]⟩) rfl em rfl) rfl (QU _ _) rfl) rfl) (λh=>?_) (λh=>Qr ?_))
   ·have nz:det n (QaD g s)≠0:=by simpa using h
    exact Qw (QaY (r:=⟨Qc n n (QaD g s),true,[1]⟩) rfl ⟨rfl,s,by omega,rfl,nz⟩)
   have dz:det n (QaD g s)=0:=by simpa using h
   obtain⟨stg,hstg⟩:∃stg:Nat->Nat->Nat->Int,stg=λk i j=>if i<k then QaD g ((s:Int)+1) i j else QaD g s i j:=⟨_,rfl⟩
   have es:Qc n n (QaD g s)=Qc n n (stg 0):=Qf7 λi j _ _=>by rw[hstg];show _=if i<0 then _ else _;rw[if_neg (by omega)]
   rw[es]
   refine Q0 (P:=λρ=>∃j3,ρ=[some (Qc n n g,false),some (Qc n n (stg n),true),some (.int s,true),j3]) ?_ ?_
   ·refine Qaj (toD:=λ(k:Nat)=> .int (k:Int)) (List.range n) (λk ρ=>∃j3,ρ=[some (Qc n n g,false),some (Qc n n (stg k),true),some (.int s,true),j3]) (Qac (n:=n) (QaH (n:=n) (m:=n) (f:=g) (r:=⟨Qc n n g,false,[]⟩) rfl rfl) rfl (by omega)) rfl ⟨j3,rfl⟩ ?_ ?_
    ·rintro k k' ρ hk ⟨j3,rfl⟩
     have hk':k<n/\k=k':=by
      obtain⟨h1,h2⟩:=Zd.mp hk
      simp at h1 h2;exact⟨h1,h2⟩
     obtain⟨hkn,rfl⟩:=hk'
     refine⟨[some (Qc n n g,false),some (Qc n n (stg k),true),some (.int s,true),some (.int k,true)],rfl,?_⟩
     refine run_seq (Qs8 (x:=1) (m:=n) (n:=n) (f:=stg k) (i:=k) (j:=k) (v:=stg k k k+1) (rp:=⟨.int k,true,[]⟩) (ri:=⟨.int k,true,[]⟩) rfl rfl rfl rfl rfl (Qaz (a:=stg k k k) (b:=1) (Qam (m:=n) (f:=stg k k) (i:=k) ((Qcg (m:=n) (n:=n) (f:=stg k) (i:=(k:Int)) (ra:=⟨Qc n n (stg k),true,[1]⟩) (rb:=⟨.int k,true,[]⟩) rfl rfl rfl rfl (by omega) (by omega)).trans (by rw[ZC])) rfl (rb:=⟨.int k,true,[]⟩) rfl rfl hkn) rfl (QU _ _) rfl) rfl (by omega) (by omega) (by omega) (by omega) (Qr ⟨some (.int k,true),?_⟩))
     have eu:Qc n n (up2 (stg k) (k:Int).toNat (k:Int).toNat (stg k k k+1))=Qc n n (stg (k+1)):=Qf7 λi j hi hj=>by
      rw[ZC]
      unfold up2
      by_cases z:i=k
      ·subst z
       rw[if_pos rfl,Qew]
       by_cases y:j=i
       ·subst y
        rw[if_pos rfl,hstg]
        show(if j<j then _ else QaD g s j j)+1=if j<j+1 then QaD g ((s:Int)+1) j j else _
        rw[if_neg (by omega),if_pos (by omega)]
        unfold QaD idF
        rw[if_pos rfl];omega
       ·rw[if_neg y,hstg]
        show(if i<i then _ else QaD g s i j)=if i<i+1 then QaD g ((s:Int)+1) i j else _
        rw[if_neg (by omega),if_pos (by omega)]
        unfold QaD idF
        rw[if_neg (Ne.symm y),Zu,Zu]
      ·rw[if_neg z,hstg]
       show(if i<k then _ else _)=if i<k+1 then _ else _
       by_cases y:i<k
       ·rw[if_pos y,if_pos (by omega)]
       ·rw[if_neg y,if_neg (by omega)]
     rw[← eu];rfl
    ·rintro ρ ⟨j3,rfl⟩
     rw[Zo]
     exact⟨_,rfl⟩
   ·rintro ρ ⟨j3,rfl⟩
    refine Qr ⟨some (.int s,true),j3,by omega,λt ht=>?_,?_⟩
    ·by_cases z:t=s
     ·rw[z];exact dz
     ·exact hz t (by omega)
    ·have:Qc n n (stg n)=Qc n n (QaD g ((s+1:Nat):Int)):=Qf7 λi j hi _=>by
      rw[hstg];show(if i<n then _ else _)=_;rw[if_pos hi];rfl
     rw[this]
  ·rintro ρ ⟨j2,j3,_,hz,rfl⟩
   rw[Zo]at hz ⊢
   exact QE (r:=⟨Qc n n (QaD g n),true,[1]⟩) rfl ⟨rfl,n,Zi n,rfl,Qqd n4 (QuV n) g hz⟩
 obtain⟨out,h1,h2⟩:=key
 cases out with
 | rt d fr=>
  obtain⟨rfl,s,hs,rfl,h⟩:=h2
  exact⟨s,hs,by show Option.bind (QcU dm [some (Qc n n g,false),none,none,none]) outD=_;rw[h1];rfl,h⟩
 | _=>exact h2.elim
theorem Qlz(c:Int):∀(n:Nat) (m:Nat->Nat->Int),(det n λj r=>m j r*c)=det n m*c^n
 | 0,m=>by simp[det]
 | n+1,m=>by
  unfold det
  rw[← QkG]
  refine QaS λj _=>?_
  rw[Qlz c n λa r=>m (skp j a) (r+1),Int.pow_succ]
  simp only[ZI,Zab,ZK]
noncomputable def QiJ(QaM:Den)(Qa2:Den)(Qbh:Den):DS:=(Qf (Qu 1 (Q8 (dC (.int 1)) (dOp QaJ (Ql (Qa 0) (dC (.int 0))) (dC (.int 4))))) (Qf (Qu 2 (dOp QaJ (Ql (Qa 0) (dC (.int 1))) (dC (.int 4)))) (Qf (sIf (QM (dOp gEq (Qa 2) (dC (.int 0)))) (Qf (QH (Qk 2 QaM [] (Qd (Qa 0) (Qd (Qa 1) Qg)))) Qi) Qi) (Qf (Qu 3 (Qao (Ql (Qav (Qd (dC (.int 9)) (Qd (dC (.int 60)) (Qd (dOp QgO (dC (.int 10)) (dC (.int 6))) Qg)))) (dOp QaJ (dOp Qcq (Ql (Qa 0) (dC (.int 1))) (dC (.int 4))) (dC (.int 3)))))) (Qf (sIf (QM (dOp gEq (Qa 1) (dC (.int 4)))) (Qf (Qu 3 (dC (.int 5))) Qi) Qi) (Qf (Qu 4 (Qk 1 Qbh [] (Qd (Qk 4 Qa2 [] (Qd (Qa 0) (Qd (dC (.int 2)) (Qd (Qa 1) (Qd (Qa 3) Qg))))) Qg))) (Qf (sIf (QM (dOp gEq (Qa 2) (dC (.int 1)))) (Qf (Qu 5 (Q8 (dC (.int 2)) (dOp QaJ (dOp Qcq (Ql (Qa 0) (dC (.int 1))) (dC (.int 12))) (dC (.int 29))))) (Qf (QH (QO (Q4 (Qa 4)) (.nm 1) [none,none,some 5] QR (QO (Q4 (Qa 1)) (.nm 1) [none,none,some 2] QR (Qaq (Qa 1) (Qa 2))))) Qi)) Qi) (Qf (QH (Qa 4)) Qi))))))))
theorem Qoc{ds dt df:Den}(hs:Qfw ds)(ht:QfB dt)(hf:Qgs df)(cs:List Int)(hl:22<=cs.length):∃n,(0<n/\n<=4)/\Run (QiJ ds dt df) [some (QB cs,false),none,none,none,none,none] (Rt λd fr=>fr=true/\∃f,d=Qc n n f/\det n f≠0/\∀i j,i<n->j<n->(f i j).natAbs<=2^50):=by
 have c0:=Qh8 (cs:=cs) (k:=0) (by omega)
 have c1:=Qh8 (cs:=cs) (k:=1) (by omega)
 generalize cs.getD 0 0=F0 at c0
 generalize cs.getD 1 0=F1 at c1
 have cell:∀(ρ:En),ρ[0]? =some (some (QB cs,false))->Ql (Qa 0) (dC (.int 0)) ρ=some ⟨.int F0,true,[]⟩/\Ql (Qa 0) (dC (.int 1)) ρ=some ⟨.int F1,true,[]⟩:=λρ h1=>
  ⟨Qdk (ns:=cs) (i:=0) (v:=F0) (Qhc h1) rfl (QU _ _) rfl (by decide) c0,Qdk (ns:=cs) (i:=1) (v:=F1) (Qhc h1) rfl (QU _ _) rfl (by decide) c1⟩
 have z1:=ZM F0 (by decide:(4:Int)≠0)
 have z2:=ZF F0 (by decide:(0:Int)<4)
 obtain⟨n,en⟩:∃n:Nat,1+F0 % 4=(n:Int):=⟨(1+F0 % 4).toNat,by omega⟩
 have n0:0<n:=by omega
 have n4:n<=4:=by omega
 refine⟨n,⟨n0,n4⟩,?_⟩
 refine run_seq (Qh (Qaz (a:=1) (b:=F0 % 4) (QU _ _) rfl (QaF (a:=F0) (b:=4) (cell _ rfl).1 rfl (QU _ _) rfl (by decide)) rfl) ?_)
 rw[Qn,en]
 refine run_seq (Qh (QaF (a:=F1) (b:=4) (cell _ rfl).2 rfl (QU _ _) rfl (by decide)) ?_)
 rw[Qn]
 refine Qw (QZ (b:=decide (F1 % 4=0)) (QI (Qa9 (a:=F1 % 4) (b:=0) (ra:=⟨.int (F1 % 4),true,[]⟩) rfl rfl (QU _ _) rfl) rfl) (λ_=>?_) (λ_=>Qr ?_))
 ·obtain⟨B,e,eB,hB,pe,bB⟩:=hs n cs n0 (by omega) (by omega)
  have nz:=hB.full pe
  rw[QgI n B]at nz
  exact Qw (QaY (Qm (r:=⟨[QB cs,.int n],false,[]⟩) rfl eB rfl) ⟨rfl,B,rfl,nz,bB⟩)
 have y1:=ZM (F1 / 4) (by decide:(3:Int)≠0)
 have y2:=ZF (F1 / 4) (by decide:(0:Int)<3)
 obtain⟨fa,hfa⟩:∃far,[9,60,(10^6:Int)][(F1 / 4 % 3).toNat]? =some far:=⟨_,Zam (by simp;omega)⟩
 have hfab:1<=fa/\fa<=10^6:=by
  have hm:=ZaG hfa
  have all:∀x∈[9,60,(10^6:Int)],1<=x/\x<=10^6:=by decide+kernel
  exact all fa hm
 refine run_seq (Qh (r:=⟨.int fa,false,[]⟩) ((QaT (Qdk (ns:=[9,60,(10^6:Int)]) (i:=F1 / 4 % 3) (v:=fa) (ra:=⟨.lst ([9,60,(10^6:Int)].map .int),true,[]⟩) ((Qe6 (rs:=⟨[.int 9,.int 60,.int (10^6)],true,[]⟩) (Qs (r:=⟨.int 9,true,[]⟩) rfl (Qs (r:=⟨.int 60,true,[]⟩) rfl (Qs (Qvx (a:=10) (k:=6) (by decide) (by decide)) (QP _)))) (by simp)).trans rfl) rfl (QaF (a:=F1 / 4) (b:=3) (Qhd (a:=F1) (b:=4) (cell _ rfl).2 rfl (QU _ _) rfl (by decide) (by decide)) rfl (QU _ _) rfl (by decide)) rfl y1 hfa)).trans rfl) ?_)
 rw[Qbt rfl]
 refine Q0 (P:=λρ=>∃far:Int,(1<=far/\far<=10^6)/\ρ=[some (QB cs,false),some (.int n,true),some (.int (F1 % 4),true),some (.int far,true),none,none]) ?_ ?_
 ·refine QZ (b:=decide ((n:Int)=4)) (QI (Qa9 (a:=n) (b:=4) (ra:=⟨.int n,true,[]⟩) rfl rfl (QU _ _) rfl) rfl) (λ_=>?_) (λ_=>Qr ⟨fa,hfab,rfl⟩)
  refine run_seq (Qh (r:=⟨.int 5,true,[]⟩) rfl (Qr ?_))
  rw[Qn]
  exact⟨5,by decide,rfl⟩
 rintro ρ ⟨far,hfar,rfl⟩
 have nn:n*n<=4*4:=ZaL n4 n4
 obtain⟨A,eA,hA⟩:=ht cs 2 n far (by omega) (by decide) (by omega) (by omega)
 have hA':∀i j,i<n->j<n->(A i j).natAbs<=2^40:=λi j hi hj=>by
  have:=hA i j hi hj
  omega
 obtain⟨s,hs4,ef,nz⟩:=hf n A n0 n4 hA'
 have big:=Qnx hA' (by omega:s<=4)
 generalize QaD A (s:Int)=T at ef nz big
 refine run_seq (Qh (Qm (Qs (Qm (r:=⟨[QB cs,.int ((2:Nat):Int),.int n,.int far],false,[]⟩) rfl eA rfl) (QP _)) ef rfl) ?_)
 rw[Qn]
 change Run _ [some (QB cs,false),some (.int n,true),some (.int (F1 % 4),true),some (.int far,true),some (Qc n n T,true),none] _
 refine Qw (QZ (b:=decide (F1 % 4=1)) (QI (Qa9 (a:=F1 % 4) (b:=1) (ra:=⟨.int (F1 % 4),true,[]⟩) rfl rfl (QU _ _) rfl) rfl) (λ_=>?_) (λ_=>Qr ?_))
 ·have x1:=ZM (F1 / 12) (by decide:(29:Int)≠0)
  have x2:=ZF (F1 / 12) (by decide:(0:Int)<29)
  obtain⟨m,em⟩:∃m:Int,2+F1 / 12 % 29=m:=⟨_,rfl⟩
  refine Qw (Qh (Qaz (a:=2) (b:=F1 / 12 % 29) (QU _ _) rfl (QaF (a:=F1 / 12) (b:=29) (Qhd (a:=F1) (b:=12) (cell _ rfl).2 rfl (QU _ _) rfl (by decide) (by decide)) rfl (QU _ _) rfl (by decide)) rfl) ?_)
  rw[Qn,em]
  refine Qw (QaY (r:=⟨Qc n n λi j=>T i j*m,true,[]⟩) (QL (toD:=λ(i:Nat)=>Qe n (T i)) (out:=λ(i:Nat)=>Qe n λj=>T i j*m) (List.range n) (Qag (r:=⟨Qc n n T,true,[4]⟩) rfl rfl) rfl λi hi=>⟨[none,some (Qe n (T i),false),some (.int m,true)],rfl,⟨Qe n λj=>T i j*m,true,[]⟩,QL (toD:=λ(j:Nat)=> .int (T i j)) (out:=λ(j:Nat)=> .int (T i j*m)) (List.range n) (Qag (r:=⟨Qe n (T i),false,[]⟩) rfl rfl) rfl (λj hj=>⟨[none,some (.int (T i j),true),some (.int m,true)],rfl,⟨.int (T i j*m),true,[]⟩,Qap (a:=T i j) (b:=m) rfl rfl rfl rfl (QbE (ZW (big i j (Zr.mp hi) (Zr.mp hj)) (by decide))),rfl,rfl⟩),rfl,rfl⟩) ⟨rfl,_,rfl,?_,λi j hi hj=>?_⟩)
  ·rw[Qlz]
   exact Int.mul_ne_zero nz (Int.pow_ne_zero (by omega))
  ·have:=big i j hi hj
   show(T i j*m).natAbs<=_
   rw[ZT]
   exact Zk (ZaL this (by omega:m.natAbs<=30)) (by decide)
 ·exact QE (r:=⟨Qc n n T,true,[4]⟩) rfl ⟨rfl,T,rfl,nz,λi j hi hj=>Zk (big i j hi hj) (by decide)⟩
noncomputable def QfN(QbF:Den)(Qbq:Den)(QcM:Den)(Q7:Den)(QbV:Den)(QaG:Den)(QaV:Den):DS:=(Qf (Qu 1 (Qk 1 QbF [] (Qd (Qa 0) Qg))) (Qf (Qu 2 (Qk 2 Qbq [] (Qd (Ql (Qa 1) (dC (.int 0))) (Qd (Ql (Qa 1) (dC (.int 1))) Qg)))) (Qf (Qne 2 3 4 5) (Qf (Qu 6 (QO (QdU (Qk 1 Q7 [] (Qd (dBf Qat (Qd (Qa 0) Qg)) Qg)) (Qa 5)) (.tp [1,2]) [none,none,none] QR (Qk 2 QcM [] (Qd (Qa 1) (Qd (Qa 2) Qg))))) (Qf (Qu 7 (QO (Q4 (Qk 2 QaG [] (Qd (Qa 6) (Qd (Qk 2 QaG [] (Qd (Qa 4) (Qd (Ql (Qa 1) (dC (.int 0))) Qg))) Qg)))) (.nm 1) [none,none,some 1] QR (Qk 2 QbV [] (Qd (Qa 1) (Qd (Ql (Qa 2) (dC (.int 1))) Qg))))) (Qf (Qu 8 (Qk 1 QaV [] (Qd (QO (QdU (Qk 1 QaV [] (Qd (Qk 2 QaG [] (Qd (Qa 0) (Qd (Qa 3) Qg))) Qg)) (Qa 5)) (.tp [1,2]) [none,none,none] QR (Qk 2 QbV [] (Qd (Qa 1) (Qd (Qa 2) Qg)))) Qg))) (Qf (QH (Qe3 (Qd (Qa 7) (Qd (Qa 6) (Qd (Qa 3) (Qd (Qa 8) (Qd (Qa 4) Qg))))))) Qi)))))))
def Qjk(d:Den):Prop:=∀(n:Nat) (f:Nat->Nat->Int),0<n->n<=8->(∀i j,i<n->j<n->(f i j).natAbs<=2^240)->(det n λj i=>f i j)≠0->∃(Lf R Lb Rb:Nat->Nat->Int) (len:Nat->Int),d [Qc n n f]=some (.tup [Qc n n Lf,Qc n n (Qt len),Qc n n R,Qc n n Lb,Qc n n Rb],true)/\QeR n f Lf R Lb Rb len/\Qan n 200000 Lf/\Qan n 130000 R/\Qan n 200000 Lb/\Qan n 130000 Rb/\∀j,j<n->(len j).natAbs<2^1999
theorem QqZ{db dr dn du ds dp dt:Den}(hb:Qkj db)(hr:Qk2 dr)(hn:Qk4 dn)(hu:Qf4 du)(hs:Qgl ds)(hp:Qfx dp)(ht:Qe9 dt):Qjk (Qq 9 (QfN db dr dn du ds dp dt)):=λn f n0 n8 hf hd=>by
 obtain⟨P,eb,hP,bP,wl⟩:=hb n f n8 hf hd
 obtain⟨w,hw⟩:∃w,w=det n λj i=>f i j:=⟨_,rfl⟩
 rw[← hw]at eb wl hd
 have hP:∀i j,i<n->j<n->prodF n f P i j=w*idF i j:=λi j hi hj=>by rw[hP i j hi hj,← hw]
 obtain⟨R,Rb,len,er,rg,bR,bB,ll⟩:=hr n f P w n0 n8 hd wl hP
 have wl':w.natAbs<2^2000:=ZbM wl (Nat.pow_lt_pow_right (by decide) (by decide))
 have ll':∀j,j<n->(len j).natAbs<2^2000:=λj hj=>ZbM (ll j hj) (Nat.pow_lt_pow_right (by decide) (by decide))
 obtain⟨Lf,hL⟩:∃Lf:Nat->Nat->Int,∀i j,i<n->j<n->len i*prodF n Rb P i j=w*Lf i j:=by
  refine⟨λi j=>len i*prodF n Rb P i j / w,λi j hi hj=>(Int.mul_ediv_cancel' ?_).symm⟩
  exact Int.natAbs_dvd.mp (rg.row j i hj hi)
 obtain⟨Lb,hB⟩:∃Lb:Nat->Nat->Int,∀i j,i<n->j<n->prodF n f R i j=len j*Lb i j:=
  ⟨λi j=>prodF n f R i j / len j,λi j hi hj=>(Int.mul_ediv_cancel' (rg.col i j hi hj)).symm⟩
 have BP:Qan n 1999 P:=λi j hi hj=>Zbk (bP i j hi hj)
 have BQ:=bB.prod n8 BP
 have Bf:Qan n 240 f:=hf
 have BM:=Bf.prod n8 bR
 have Bm:Qan n 1999 (Qt len):=λi j hi hj=>by
  unfold Qt idF
  split
  ·rw[ZX];exact Zbk (ll i hi)
  ·rw[Zu];exact ZS _
 have BmQ:=Bm.prod n8 BQ
 have mQ:∀i j,i<n->j<n->prodF n (Qt len) (prodF n Rb P) i j=w*Lf i j:=λi j hi hj=>by
  rw[← hL i j hi hj]
  show(Qp n λk=>Qt len i k*prodF n Rb P k j)=_
  rw[QbS hi λk hk ne=>by unfold Qt idF;rw[if_neg (Ne.symm ne),Zu,ZD]]
  unfold Qt idF
  rw[if_pos rfl,ZX]
 have dvL:∀a b c:Int,a=b*c->b≠0->c.natAbs<=a.natAbs:=λa b c h hb=>by
  rw[h,ZT]
  exact Nat.le_mul_of_pos_left _ (by omega)
 have BL:Qan n 200000 Lf:=λi j hi hj=>Zk (dvL _ _ _ (mQ i j hi hj) hd) (BmQ.mono (by decide) i j hi hj)
 have BLb:Qan n 200000 Lb:=λi j hi hj=>Zk (dvL _ _ _ (hB i j hi hj) (by have:=rg.pos j hj;omega)) (BM.mono (by decide) i j hi hj)
 refine⟨Lf,R,Lb,Rb,len,Q1 ?_,QsX hd (by rw[← hw];exact hd) hP rg hL hB,BL,bR,BLb,bB,ll⟩
 refine run_seq (Qh (Qm rfl eb rfl) ?_)
 rw[Qn]
 refine run_seq (Qh (Qm rfl er rfl) ?_)
 rw[Qn]
 refine run_seq ⟨_,rfl,?_⟩
 change Nx _ (.nx [some (Qc n n f,false),some (.tup [Qc n n P,.int w],true),none,some (Qc n n R,true),some (Qc n n Rb,true),some (Qe n len,true),none,none,none])
 refine run_seq (Qh (QL (List.range n) (Qen (Qm (Qs (QaH rfl rfl) (QP _)) (hu n (by omega)) rfl) rfl rfl rfl) rfl λi hi=>⟨[none,some (Qe n (idF i),false),some (.int (len i),true)],rfl,⟨Qe n (Qt len i),true,[]⟩,Qm rfl (hn n (idF i) (len i) (QaN (ll' i (Zr.mp hi))) λj _=>QaN (by unfold idF;split<;>exact Zp (by decide) (ZH (by decide) (show 1<=2000 by decide)))) rfl,rfl,rfl⟩) ?_)
 rw[Qn]
 change Nx _ (.nx [some (Qc n n f,false),some (.tup [Qc n n P,.int w],true),none,some (Qc n n R,true),some (Qc n n Rb,true),some (Qe n len,true),some (Qc n n (Qt len),true),none,none])
 have eQ:Qk 2 dp [] (Qd (Qa 4) (Qd (Ql (Qa 1) (dC (.int 0))) Qg)) [some (Qc n n f,false),some (.tup [Qc n n P,.int w],true),none,some (Qc n n R,true),some (Qc n n Rb,true),some (Qe n len,true),some (Qc n n (Qt len),true),none,none]=some ⟨Qc n n (prodF n Rb P),true,[]⟩:=Qm rfl (hp n Rb P (by omega) (bB.bits (by decide)) (BP.bits (by decide))) rfl
 have eMQ:Qk 2 dp [] (Qd (Qa 6) (Qd (Qk 2 dp [] (Qd (Qa 4) (Qd (Ql (Qa 1) (dC (.int 0))) Qg))) Qg)) [some (Qc n n f,false),some (.tup [Qc n n P,.int w],true),none,some (Qc n n R,true),some (Qc n n Rb,true),some (Qe n len,true),some (Qc n n (Qt len),true),none,none]=some ⟨Qc n n (prodF n (Qt len) (prodF n Rb P)),true,[]⟩:=Qm (Qs rfl (Qs eQ (QP _))) (hp n _ _ (by omega) (Bm.bits (by decide)) (BQ.bits (by decide))) rfl
 refine run_seq (Qh (QL (List.range n) (Qag eMQ rfl) rfl λi hi=>⟨[none,some (Qe n (prodF n (Qt len) (prodF n Rb P) i),false),some (.tup [Qc n n P,.int w],false)],rfl,⟨Qe n (Lf i),true,[]⟩,Qm rfl (hs n _ (Lf i) w hd wl' λj hj=>mQ i j (Zr.mp hi) hj) rfl,rfl,rfl⟩) ?_)
 rw[Qn]
 change Nx _ (.nx [some (Qc n n f,false),some (.tup [Qc n n P,.int w],true),none,some (Qc n n R,true),some (Qc n n Rb,true),some (Qe n len,true),some (Qc n n (Qt len),true),some (Qc n n Lf,true),none])
 have eM:Qk 2 dp [] (Qd (Qa 0) (Qd (Qa 3) Qg)) [some (Qc n n f,false),some (.tup [Qc n n P,.int w],true),none,some (Qc n n R,true),some (Qc n n Rb,true),some (Qe n len,true),some (Qc n n (Qt len),true),some (Qc n n Lf,true),none]=some ⟨Qc n n (prodF n f R),true,[]⟩:=Qm rfl (hp n f R (by omega) (Bf.bits (by decide)) (bR.bits (by decide))) rfl
 have eT:Qk 1 dt [] (Qd (Qk 2 dp [] (Qd (Qa 0) (Qd (Qa 3) Qg))) Qg) [some (Qc n n f,false),some (.tup [Qc n n P,.int w],true),none,some (Qc n n R,true),some (Qc n n Rb,true),some (Qe n len,true),some (Qc n n (Qt len),true),some (Qc n n Lf,true),none]=some ⟨Qc n n (λj i=>prodF n f R i j),true,[]⟩:=Qm (Qs eM (QP _)) (ht n _ (by omega)) rfl
 refine run_seq (Qh (Qm (Qs (QL (List.range n) (Qen eT rfl rfl rfl) rfl λi hi=>⟨[none,some (Qe n (λj=>prodF n f R j i),false),some (.int (len i),true)],rfl,⟨Qe n λj=>Lb j i,true,[]⟩,Qm rfl (hs n _ (λj=>Lb j i) (len i) (by have:=rg.pos i (Zr.mp hi);omega) (ll' i (Zr.mp hi)) λj hj=>hB j i hj (Zr.mp hi)) rfl,rfl,rfl⟩) (QP _)) (ht n _ (by omega)) rfl) ?_)
 rw[Qn]
 exact QE rfl ⟨rfl,rfl⟩
noncomputable def Qcs(QaM:Den)(Qa2:Den)(Qbh:Den):DS:=(Qf (sIf (QM (dOp gEq (dOp QaJ (dOp Qcq (Ql (Qa 0) (dC (.int 0))) (dC (.int 4))) (dC (.int 8))) (dC (.int 1)))) (Qf (QH (Qk 2 QaM [] (Qd (Qa 0) (Qd (Q8 (dC (.int 5)) (dOp QaJ (dOp Qcq (Ql (Qa 0) (dC (.int 0))) (dC (.int 32))) (dC (.int 4)))) Qg)))) Qi) Qi) (Qf (Qu 1 (Q8 (dC (.int 1)) (dOp QaJ (Ql (Qa 0) (dC (.int 0))) (dC (.int 4))))) (Qf (Qu 2 (dOp QaJ (Ql (Qa 0) (dC (.int 1))) (dC (.int 4)))) (Qf (sIf (QM (dOp gEq (Qa 2) (dC (.int 0)))) (Qf (QH (Qk 2 QaM [] (Qd (Qa 0) (Qd (Qa 1) Qg)))) Qi) Qi) (Qf (Qu 3 (Qao (Ql (Qav (Qd (dC (.int 9)) (Qd (dC (.int 60)) (Qd (dOp QgO (dC (.int 10)) (dC (.int 6))) Qg)))) (dOp QaJ (dOp Qcq (Ql (Qa 0) (dC (.int 1))) (dC (.int 4))) (dC (.int 3)))))) (Qf (sIf (QM (dOp gEq (Qa 1) (dC (.int 4)))) (Qf (Qu 3 (dC (.int 5))) Qi) Qi) (Qf (Qu 4 (Qk 1 Qbh [] (Qd (Qk 4 Qa2 [] (Qd (Qa 0) (Qd (dC (.int 2)) (Qd (Qa 1) (Qd (Qa 3) Qg))))) Qg))) (Qf (sIf (QM (dOp gEq (Qa 2) (dC (.int 1)))) (Qf (Qu 5 (Q8 (dC (.int 2)) (dOp QaJ (dOp Qcq (Ql (Qa 0) (dC (.int 1))) (dC (.int 12))) (dC (.int 29))))) (Qf (QH (QO (Q4 (Qa 4)) (.nm 1) [none,none,some 5] QR (QO (Q4 (Qa 1)) (.nm 1) [none,none,some 2] QR (Qaq (Qa 1) (Qa 2))))) Qi)) Qi) (Qf (QH (Qa 4)) Qi)))))))))
def QhC(d:Den):Prop:=∀cs:List Int,22<=cs.length->∃(n:Nat) (f:Nat->Nat->Int),0<n/\n<=8/\d [QB cs]=some (Qc n n f,true)/\det n f≠0/\∀i j,i<n->j<n->(f i j).natAbs<=2^50
theorem Qpn{ds dt df:Den}(hs:Qfw ds)(ht:QfB dt)(hf:Qgs df):QhC (Qq 6 (Qcs ds dt df)):=λcs hl=>by
 have c0:=Qh8 (cs:=cs) (k:=0) (by omega)
 generalize cs.getD 0 0=F0 at c0
 have cell:Ql (Qa 0) (dC (.int 0)) [some (QB cs,false),none,none,none,none,none]=some ⟨.int F0,true,[]⟩:=Qdk (ns:=cs) (i:=0) (v:=F0) (ra:=⟨QB cs,false,[]⟩) rfl rfl (QU _ _) rfl (by decide) c0
 have key:∃n,(0<n/\n<=8)/\Run (Qcs ds dt df) [some (QB cs,false),none,none,none,none,none] (Rt λd fr=>fr=true/\∃f,d=Qc n n f/\det n f≠0/\∀i j,i<n->j<n->(f i j).natAbs<=2^50):=by
  have ev:QM (dOp gEq (dOp QaJ (dOp Qcq (Ql (Qa 0) (dC (.int 0))) (dC (.int 4))) (dC (.int 8))) (dC (.int 1))) [some (QB cs,false),none,none,none,none,none]=some (decide (F0 / 4 % 8=1)):=QI (Qa9 (a:=F0 / 4 % 8) (b:=1) (QaF (a:=F0 / 4) (b:=8) (Qhd (a:=F0) (b:=4) cell rfl (QU _ _) rfl (by decide) (by decide)) rfl (QU _ _) rfl (by decide)) rfl (QU _ _) rfl) rfl
  by_cases hb:F0 / 4 % 8=1
  ·have z1:=ZM (F0 / 32) (by decide:(4:Int)≠0)
   have z2:=ZF (F0 / 32) (by decide:(0:Int)<4)
   obtain⟨n,en⟩:∃n:Nat,5+F0 / 32 % 4=(n:Int):=⟨(5+F0 / 32 % 4).toNat,by omega⟩
   obtain⟨B,e,eB,hB,pe,bB⟩:=hs n cs (by omega) (by omega) hl
   have nz:=hB.full pe
   rw[QgI n B]at nz
   refine⟨n,by omega,Qw (QZ ev (λ_=>?_) (λh=>absurd hb (of_decide_eq_false h)))⟩
   exact Qw (QaY (Qm (r:=⟨[QB cs,.int n],false,[]⟩) (Qs (r:=⟨QB cs,false,[]⟩) rfl (Qs ((Qaz (a:=5) (b:=F0 / 32 % 4) (QU _ _) rfl (QaF (a:=F0 / 32) (b:=4) (Qhd (a:=F0) (b:=32) cell rfl (QU _ _) rfl (by decide) (by decide)) rfl (QU _ _) rfl (by decide)) rfl).trans (by rw[en])) (QP _))) eB rfl) ⟨rfl,B,rfl,nz,bB⟩)
  ·obtain⟨n,hn,h⟩:=Qoc hs ht hf cs hl
   exact⟨n,by omega,Qw (QZ ev (λh=>absurd (of_decide_eq_true h) hb) (λ_=>Qr h))⟩
 obtain⟨n,⟨n0,n8⟩,out,h1,h2⟩:=key
 cases out with
 | rt d fr=>
  obtain⟨rfl,f,rfl,h⟩:=h2
  exact⟨n,f,n0,n8,by show Option.bind (Qcs ds dt df [some (QB cs,false),none,none,none,none,none]) outD=_;rw[h1];rfl,h⟩
 | _=>exact h2.elim
theorem QsF{fa fb:DE}{ρ:En}{ra rb:HS.R}{a b:Int}(ha:fa ρ=some ra)(ea:ra.d= .int a)(hb:fb ρ=some rb)(eb:rb.d= .int b):dBf QnT (Qd (dOp gEq fa fb) Qg) ρ=some ⟨.int (if a=b then 1 else 0),true,[]⟩:=by
 unfold dBf
 rw[Qs (Qa9 ha ea hb eb) (QP _),Za]
 show some (HS.R.mk (.int (if decide (a=b)=true then 1 else 0)) true [])=_
 by_cases h:a=b<;>simp[h]
theorem QwP{g1 g2:DT}{ρ:En}(h:g1 ρ=some false):QfT g1 g2 ρ=some false:=by unfold QfT;rw[h];rfl
theorem Qn2{fa:DE}{ρ:En}{r:HS.R}{xs:List D}(h:fa ρ=some r)(e:r.d= .tup xs)(hl:xs.length<=64):Q4 fa ρ=some ⟨xs,r.M⟩:=by
 unfold Q4
 rw[h,Za,e]
 exact if_pos (Qd2 hl)
theorem Qfa{fa fb fc:DE}{ρ:En}{ra rb rc:HS.R}{n:Nat}{f:Nat->Nat->Int}{i j:Nat}(ha:fa ρ=some ra)(ea:ra.d=Qc n n f)(hb:fb ρ=some rb)(eb:rb.d= .int i)(hc:fc ρ=some rc)(ec:rc.d= .int j)(hi:i<n)(hj:j<n):Ql (Ql fa fb) fc ρ=some ⟨.int (f i j),true,[]⟩:=
 Qam (m:=n) (f:=f i) (i:=j) ((Qcg (m:=n) (n:=n) (f:=f) (i:=(i:Int)) ha ea hb eb (by omega) (by omega)).trans (by rw[ZC])) rfl hc ec hj
theorem QdB{n k k':Nat}(h:(List.range n)[k]? =some k'):k<n/\k=k':=by
 obtain⟨h1,h2⟩:=Zd.mp h
 simp at h1 h2;exact⟨h1,h2⟩
noncomputable def Qet:DS:=(Qf (QaW (Q5 (dBf Qat (Qd (Qa 0) Qg))) (.nm 1) (Qf (QaW (Q5 (dBf Qat (Qd (Qa 0) Qg))) (.nm 2) (Qf (sIf (QM (dOp gNe (Ql (Ql (Qa 0) (Qa 1)) (Qa 2)) (dBf QnT (Qd (dOp gEq (Qa 1) (Qa 2)) Qg)))) (Qf (QH (dC (.bl false))) Qi) Qi) Qi)) Qi)) (Qf (QH (dC (.bl true))) Qi))
def QiN(d:Den):Prop:=∀(n:Nat) (f:Nat->Nat->Int),n<=8->EqT n f idF->d [Qc n n f]=some (.bl true,true)
theorem Qro:QiN (Qq 3 Qet):=λn f n8 hf=>Q1 (by
 refine Q0 (P:=λρ=>∃j1 j2,ρ=[some (Qc n n f,false),j1,j2]) ?_ ?_
 ·refine Qaj (toD:=λ(k:Nat)=> .int (k:Int)) (List.range n) (λk ρ=>∃j1 j2,ρ=[some (Qc n n f,false),j1,j2]) (Qac (n:=n) (QaH (n:=n) (m:=n) (f:=f) (r:=⟨Qc n n f,false,[]⟩) rfl rfl) rfl (by omega)) rfl ⟨none,none,rfl⟩ ?_ λρ h=>h
  rintro i i' ρ hi ⟨j1,j2,rfl⟩
  obtain⟨hin,rfl⟩:=QdB hi
  refine⟨[some (Qc n n f,false),some (.int i,true),j2],rfl,?_⟩
  refine Q0 (P:=λρ=>∃j2,ρ=[some (Qc n n f,false),some (.int i,true),j2]) ?_ (λρ ⟨j2,h⟩=>Qr ⟨_,j2,h⟩)
  refine Qaj (toD:=λ(k:Nat)=> .int (k:Int)) (List.range n) (λk ρ=>∃j2,ρ=[some (Qc n n f,false),some (.int i,true),j2]) (Qac (n:=n) (QaH (n:=n) (m:=n) (f:=f) (r:=⟨Qc n n f,false,[]⟩) rfl rfl) rfl (by omega)) rfl ⟨j2,rfl⟩ ?_ λρ h=>h
  rintro j j' ρ hj ⟨j2,rfl⟩
  obtain⟨hjn,rfl⟩:=QdB hj
  refine⟨[some (Qc n n f,false),some (.int i,true),some (.int j,true)],rfl,?_⟩
  refine run_seq (QZ (b:=false) (QI (QbQ (a:=f i j) (b:=if(i:Int)=j then 1 else 0) (Qfa (f:=f) (ra:=⟨Qc n n f,false,[]⟩) (rb:=⟨.int i,true,[]⟩) (rc:=⟨.int j,true,[]⟩) rfl rfl rfl rfl rfl rfl hin hjn) rfl (QsF (a:=i) (b:=j) (ra:=⟨.int i,true,[]⟩) (rb:=⟨.int j,true,[]⟩) rfl rfl rfl rfl) rfl) ?_) (λh=>by cases h) (λ_=>Qr (Qr ⟨_,rfl⟩)))
  show D.bl (!decide (f i j=if(i:Int)=j then 1 else 0))= .bl false
  rw[decide_eq_true (by
   rw[hf i j hin hjn];unfold idF
   by_cases z:i=j
   ·rw[if_pos z,if_pos (by omega)]
   ·rw[if_neg z,if_neg (by omega)])]
  rfl
 ·rintro ρ ⟨j1,j2,rfl⟩
  exact QE (r:=⟨.bl true,true,[]⟩) rfl ⟨rfl,rfl⟩)
noncomputable def QeK(Qbk:Den):DS:=(Qf (Qu 2 (dBf Qat (Qd (Qa 1) Qg))) (Qf (QaW (Q5 (Qa 2)) (.nm 3) (Qf (QaW (Q5 (Qa 2)) (.nm 4) (Qf (sIf (QfT (QM (dOp gNe (Qa 3) (Qa 4))) (QM (dOp gNe (Ql (Ql (Qa 0) (Qa 3)) (Qa 4)) (dC (.int 0))))) (Qf (QH (dC (.bl false))) Qi) Qi) Qi)) Qi)) (Qf (QaW (Q5 (Qa 2)) (.nm 5) (Qf (sIf (bOr (QM (dOp gLt (Ql (Ql (Qa 0) (Qa 5)) (Qa 5)) (dC (.int 1)))) (QfT (QM (dOp gGt (Qa 5) (dC (.int 0)))) (QM (dOp gNe (dOp QaJ (Ql (Ql (Qa 0) (Qa 5)) (Qa 5)) (Ql (Ql (Qa 0) (dOp QaP (Qa 5) (dC (.int 1)))) (dOp QaP (Qa 5) (dC (.int 1))))) (dC (.int 0)))))) (Qf (QH (dC (.bl false))) Qi) Qi) Qi)) (Qf (Qu 6 (dC (.int 0))) (Qf (QaW (Q4 (Qa 1)) (.nm 7) (Qf (QaW (Q4 (Qa 7)) (.nm 8) (Qf (Qu 6 (Qk 2 Qbk [] (Qd (Qa 6) (Qd (Qa 8) Qg)))) Qi)) Qi)) (Qf (QH (dOp gEq (Ql (Ql (Qa 0) (dC (.int 0))) (dC (.int 0))) (Qa 6))) Qi))))))
def Qgn(d:Den):Prop:=∀(n:Nat) (len:Nat->Int) (f:Nat->Nat->Int),0<n->n<=8->(∀j,j<n->0<len j)->(∀j,j+1<n->len j∣len (j+1))->(∀t:Int,t∣len 0↔∀i j,i<n->j<n->t∣f i j)->d [Qc n n (Qt len),Qc n n f]=some (.bl true,true)
theorem Qof{dv:Den}(hv:QkA dv):Qgn (Qq 9 (QeK dv)):=λn len f n0 n8 pos nxt share=>Q1 (by
 refine run_seq (Qh (QaH (n:=n) (m:=n) (f:=f) (r:=⟨Qc n n f,false,[]⟩) rfl rfl) ?_)
 rw[Qn]
 refine Q0 (P:=λρ=>∃j3 j4,ρ=[some (Qc n n (Qt len),false),some (Qc n n f,false),some (.int n,true),j3,j4,none,none,none,none]) ?_ ?_
 ·refine Qaj (toD:=λ(k:Nat)=> .int (k:Int)) (List.range n) (λk ρ=>∃j3 j4,ρ=[some (Qc n n (Qt len),false),some (Qc n n f,false),some (.int n,true),j3,j4,none,none,none,none]) (Qac (n:=n) (r:=⟨.int n,true,[]⟩) rfl rfl (by omega)) rfl ⟨none,none,rfl⟩ ?_ λρ h=>h
  rintro i i' ρ hi ⟨j3,j4,rfl⟩
  obtain⟨hin,rfl⟩:=QdB hi
  refine⟨[some (Qc n n (Qt len),false),some (Qc n n f,false),some (.int n,true),some (.int i,true),j4,none,none,none,none],rfl,?_⟩
  refine Q0 (P:=λρ=>∃j4,ρ=[some (Qc n n (Qt len),false),some (Qc n n f,false),some (.int n,true),some (.int i,true),j4,none,none,none,none]) ?_ (λρ ⟨j4,h⟩=>Qr ⟨_,j4,h⟩)
  refine Qaj (toD:=λ(k:Nat)=> .int (k:Int)) (List.range n) (λk ρ=>∃j4,ρ=[some (Qc n n (Qt len),false),some (Qc n n f,false),some (.int n,true),some (.int i,true),j4,none,none,none,none]) (Qac (n:=n) (r:=⟨.int n,true,[]⟩) rfl rfl (by omega)) rfl ⟨j4,rfl⟩ ?_ λρ h=>h
  rintro j j' ρ hj ⟨j4,rfl⟩
  obtain⟨hjn,rfl⟩:=QdB hj
  refine⟨[some (Qc n n (Qt len),false),some (Qc n n f,false),some (.int n,true),some (.int i,true),some (.int j,true),none,none,none,none],rfl,?_⟩
  refine run_seq (QZ (b:=false) ?_ (λh=>by cases h) (λ_=>Qr (Qr ⟨_,rfl⟩)))
  refine(Qkp (QI (QbQ (a:=(i:Int)) (b:=(j:Int)) (ra:=⟨.int i,true,[]⟩) rfl rfl (rb:=⟨.int j,true,[]⟩) rfl rfl) rfl) (QI (QbQ (a:=Qt len i j) (b:=0) (Qfa (f:=Qt len) (ra:=⟨Qc n n (Qt len),false,[]⟩) (rb:=⟨.int i,true,[]⟩) (rc:=⟨.int j,true,[]⟩) rfl rfl rfl rfl rfl rfl hin hjn) rfl (QU _ _) rfl) rfl)).trans ?_
  by_cases z:i=j
  ·rw[z];simp
  ·have:Qt len i j=0:=by unfold Qt idF;rw[if_neg z,Zu]
   rw[this];simp
 rintro ρ ⟨j3,j4,rfl⟩
 refine Q0 (P:=λρ=>∃j5,ρ=[some (Qc n n (Qt len),false),some (Qc n n f,false),some (.int n,true),j3,j4,j5,none,none,none]) ?_ ?_
 ·refine Qaj (toD:=λ(k:Nat)=> .int (k:Int)) (List.range n) (λk ρ=>∃j5,ρ=[some (Qc n n (Qt len),false),some (Qc n n f,false),some (.int n,true),j3,j4,j5,none,none,none]) (Qac (n:=n) (r:=⟨.int n,true,[]⟩) rfl rfl (by omega)) rfl ⟨none,rfl⟩ ?_ λρ h=>h
  rintro k k' ρ hk ⟨j5,rfl⟩
  obtain⟨hkn,rfl⟩:=QdB hk
  refine⟨[some (Qc n n (Qt len),false),some (Qc n n f,false),some (.int n,true),j3,j4,some (.int k,true),none,none,none],rfl,?_⟩
  have pk:=pos k hkn
  refine run_seq (QZ (b:=false) (Qd1 (a:=false) (b:=false) (QI (QbX (d:= .bl (decide (Qt len k k<1))) (rb:=⟨.int 1,true,[]⟩) (Qfa (f:=Qt len) (ra:=⟨Qc n n (Qt len),false,[]⟩) (rb:=⟨.int k,true,[]⟩) (rc:=⟨.int k,true,[]⟩) rfl rfl rfl rfl rfl rfl hkn hkn) rfl rfl) (by rw[Qhg,decide_eq_false (by omega)])) ?_) (λh=>by cases h) (λ_=>Qr (Qr ⟨_,rfl⟩)))
  have et:QM (dOp gGt (Qa 5) (dC (.int 0))) [some (Qc n n (Qt len),false),some (Qc n n f,false),some (.int n,true),j3,j4,some (.int k,true),none,none,none]=some (decide ((0:Int)<k)):=QI (QbX (d:= .bl (decide ((0:Int)<k))) (ra:=⟨.int k,true,[]⟩) (rb:=⟨.int 0,true,[]⟩) rfl rfl rfl) rfl
  by_cases z:k=0
  ·exact QwP (by rw[et,decide_eq_false (by omega)])
  ·obtain⟨l,rfl⟩:∃l,k=l+1:=⟨k-1,by omega⟩
   have es:dOp QaP (Qa 5) (dC (.int 1)) [some (Qc n n (Qt len),false),some (Qc n n f,false),some (.int n,true),j3,j4,some (.int ((l+1:Nat):Int),true),none,none,none]=some ⟨.int (l:Int),true,[]⟩:=(Qdr (a:=((l+1:Nat):Int)) (b:=1) (ra:=⟨.int ((l+1:Nat):Int),true,[]⟩) rfl rfl (QU _ _) rfl).trans (by rw[show((l+1:Nat):Int)-1=l by omega])
   refine(Qkp et (QI (b:=false) (QbQ (a:=Qt len (l+1) (l+1) % Qt len l l) (b:=0) (QaF (a:=Qt len (l+1) (l+1)) (b:=Qt len l l) (Qfa (f:=Qt len) (ra:=⟨Qc n n (Qt len),false,[]⟩) (rb:=⟨.int ((l+1:Nat):Int),true,[]⟩) (rc:=⟨.int ((l+1:Nat):Int),true,[]⟩) rfl rfl rfl rfl rfl rfl hkn hkn) rfl (Qfa (f:=Qt len) (i:=l) (j:=l) (ra:=⟨Qc n n (Qt len),false,[]⟩) rfl rfl es rfl es rfl (by omega) (by omega)) rfl (by rw[Qhg];exact pos l (by omega))) rfl (QU _ _) rfl) ?_)).trans (by rw[Bool.and_false])
   show D.bl (!decide (Qt len (l+1) (l+1) % Qt len l l=0))= .bl false
   rw[Qhg,Qhg,decide_eq_true (Int.emod_eq_zero_of_dvd (nxt l (by omega)))]
   rfl
 rintro ρ ⟨j5,rfl⟩
 refine run_seq (Qh (r:=⟨.int 0,true,[]⟩) rfl ?_)
 rw[Qn]
 refine Q0 (P:=λρ=>∃g j7 j8,(0<=g/\∀t,t∣g↔∀i j,i<n->j<n->t∣f i j)/\ρ=[some (Qc n n (Qt len),false),some (Qc n n f,false),some (.int n,true),j3,j4,j5,some (.int g,true),j7,j8]) ?_ ?_
 ·refine Qaj (toD:=λ(i:Nat)=>Qe n (f i)) (List.range n) (λk ρ=>∃g j7 j8,(0<=g/\∀t,t∣g↔∀i j,i<k->j<n->t∣f i j)/\ρ=[some (Qc n n (Qt len),false),some (Qc n n f,false),some (.int n,true),j3,j4,j5,some (.int g,true),j7,j8]) (Qag (r:=⟨Qc n n f,false,[]⟩) rfl rfl) rfl ⟨0,none,none,⟨by decide,λt=>⟨λ_ i j hi=>by omega,λ_=>Int.dvd_zero t⟩⟩,rfl⟩ ?_ (λρ h=>by rw[Zo]at h;exact h)
  rintro i i' ρ hi ⟨g,j7,j8,⟨g0,hg⟩,rfl⟩
  obtain⟨hin,rfl⟩:=QdB hi
  refine⟨[some (Qc n n (Qt len),false),some (Qc n n f,false),some (.int n,true),j3,j4,j5,some (.int g,true),some (Qe n (f i),false),j8],rfl,?_⟩
  refine Q0 (P:=λρ=>∃g j8,(0<=g/\∀t,t∣g↔(∀i' j,i'<i->j<n->t∣f i' j)/\∀j,j<n->t∣f i j)/\ρ=[some (Qc n n (Qt len),false),some (Qc n n f,false),some (.int n,true),j3,j4,j5,some (.int g,true),some (Qe n (f i),false),j8]) ?_ (λρ ⟨g,j8,⟨h0,h⟩,e⟩=>Qr ⟨g,_,j8,⟨h0,λt=>(h t).trans ⟨λ⟨h1,h2⟩ a b ha hb=>?_,λh=>⟨λa b ha hb=>h a b (by omega) hb,λb hb=>h i b (by omega) hb⟩⟩⟩,e⟩)
  ·refine Qaj (toD:=λ(j:Nat)=> .int (f i j)) (List.range n) (λk ρ=>∃g j8,(0<=g/\∀t,t∣g↔(∀i' j,i'<i->j<n->t∣f i' j)/\∀j,j<k->t∣f i j)/\ρ=[some (Qc n n (Qt len),false),some (Qc n n f,false),some (.int n,true),j3,j4,j5,some (.int g,true),some (Qe n (f i),false),j8]) (Qag (r:=⟨Qe n (f i),false,[]⟩) rfl rfl) rfl ⟨g,j8,⟨g0,λt=>(hg t).trans ⟨λh=>⟨h,λj hj=>by omega⟩,λh=>h.1⟩⟩,rfl⟩ ?_ (λρ h=>by rw[Zo]at h;exact h)
   rintro j j' ρ hj ⟨g,j8,⟨g0,hg⟩,rfl⟩
   obtain⟨hjn,rfl⟩:=QdB hj
   refine⟨[some (Qc n n (Qt len),false),some (Qc n n f,false),some (.int n,true),j3,j4,j5,some (.int g,true),some (Qe n (f i),false),some (.int (f i j),true)],rfl,?_⟩
   obtain⟨g',eg,h0,h⟩:=hv g (f i j)
   refine run_seq (Qh (Qm (r:=⟨[.int g,.int (f i j)],true,[]⟩) rfl eg rfl) (Qr ?_))
   rw[Qn]
   refine⟨g',_,⟨h0,λt=>(h t).trans ⟨λ⟨h1,h2⟩=>⟨((hg t).mp h1).1,λb hb=>?_⟩,λ⟨h1,h2⟩=>⟨(hg t).mpr ⟨h1,λb hb=>h2 b (by omega)⟩,h2 j (by omega)⟩⟩⟩,rfl⟩
   by_cases z:b=j
   ·rw[z];exact h2
   ·exact((hg t).mp h1).2 b (by omega)
  ·by_cases z:a=i
   ·rw[z];exact h2 b hb
   ·exact h1 a b (by omega) hb
 rintro ρ ⟨g,j7,j8,⟨g0,hg⟩,rfl⟩
 have e0:len 0=g:=Int.dvd_antisymm (Int.le_of_lt (pos 0 n0)) g0 ((hg _).mpr ((share _).mp (Int.dvd_refl _))) ((share _).mpr ((hg _).mp (Int.dvd_refl _)))
 refine QE (r:=⟨.bl true,true,[]⟩) ((Qa9 (a:=Qt len 0 0) (b:=g) (Qfa (f:=Qt len) (i:=0) (j:=0) (ra:=⟨Qc n n (Qt len),false,[]⟩) rfl rfl (QU _ _) rfl (QU _ _) rfl n0 n0) rfl (rb:=⟨.int g,true,[]⟩) rfl rfl).trans ?_) ⟨rfl,rfl⟩
 rw[Qhg,decide_eq_true e0])
theorem QeR.share{n:Nat}{f Lf R Lb Rb:Nat->Nat->Int}{len:Nat->Int}(h:QeR n f Lf R Lb Rb len)(n0:0<n)(t:Int):t∣len 0↔∀i j,i<n->j<n->t∣f i j:=by
 constructor
 ·intro ht i j hi hj
  rw[QK.back h.v2 h.u1 h.mid i j hi hj]
  refine Qcy λk hk=>Int.dvd_trans (Qcy λl hl=>Int.dvd_trans ?_ (Int.dvd_mul_right _ _)) (Int.dvd_mul_left _ _)
  exact Int.dvd_trans (Int.dvd_trans ht (QfI h.nxt (ZS k) hk)) (Int.dvd_mul_right _ _)
 ·intro ht
  have e:=h.mid 0 0 n0 n0
  have e1:idF 0 0=1:=rfl
  rw[e1,ZX]at e
  rw[← e]
  exact Qcy λk hk=>Int.dvd_trans (Qcy λl hl=>Int.dvd_trans (ht l k hl hk) (Int.dvd_mul_left _ _)) (Int.dvd_mul_right _ _)
noncomputable def Qfz(Qa6:Den)(QbM:Den)(QbA:Den)(QaU:Den):DS:=(Qf (Qu 2 (dBf Qat (Qd (Qa 1) Qg))) (Qf (sIf (bOr (QdW (QM (Qhv "tuple" (Qa 0)))) (QM (dOp gNe (dBf Qat (Qd (Qa 0) Qg)) (dC (.int 5))))) (Qf (QH (dC (.bl false))) Qi) Qi) (Qf (QaW (Q4 (Qa 0)) (.nm 3) (Qf (sIf (QdW (QM (Qk 2 Qa6 [] (Qd (Qa 3) (Qd (Qa 2) Qg))))) (Qf (QH (dC (.bl false))) Qi) Qi) Qi)) (Qf (sIf (bOr (QM (dOp gNe (Qk 2 QbM [] (Qd (Qk 2 QbM [] (Qd (Ql (Qa 0) (dC (.int 0))) (Qd (Qa 1) Qg))) (Qd (Ql (Qa 0) (dC (.int 2))) Qg))) (Ql (Qa 0) (dC (.int 1))))) (QdW (QM (Qk 2 QbA [] (Qd (Ql (Qa 0) (dC (.int 1))) (Qd (Qa 1) Qg)))))) (Qf (QH (dC (.bl false))) Qi) Qi) (Qf (QH (Qi0 (Qk 1 QaU [] (Qd (Qk 2 QbM [] (Qd (Ql (Qa 0) (dC (.int 0))) (Qd (Ql (Qa 0) (dC (.int 3))) Qg))) Qg)) (Qk 1 QaU [] (Qd (Qk 2 QbM [] (Qd (Ql (Qa 0) (dC (.int 2))) (Qd (Ql (Qa 0) (dC (.int 4))) Qg))) Qg)))) Qi)))))
def Qje(d:Den):Prop:=∀(n:Nat) (f Lf R Lb Rb:Nat->Nat->Int) (len:Nat->Int),0<n->n<=8->(∀i j,i<n->j<n->(f i j).natAbs<=2^240)->QeR n f Lf R Lb Rb len->Qan n 200000 Lf->Qan n 130000 R->Qan n 200000 Lb->Qan n 130000 Rb->d [.tup [Qc n n Lf,Qc n n (Qt len),Qc n n R,Qc n n Lb,Qc n n Rb],Qc n n f]=some (.bl true,true)
theorem Qqh{di db dm du:Den}(hi:QkI di)(hb:Qtv db)(hm:Qgn dm)(hu:QiN du):Qje (Qq 4 (Qfz di db dm du)):=λn f Lf R Lb Rb len n0 n8 hf hS bL bR bLb bRb=>Q1 (by
 have bf:Qan n 240 f:=hf
 have bLf:=bL.prod n8 bf
 have e1:Qc n n (prodF n (prodF n Lf f) R)=Qc n n (Qt len):=Qf7 λi j hi hj=>hS.mid i j hi hj
 refine run_seq (Qh (QaH (n:=n) (m:=n) (f:=f) (r:=⟨Qc n n f,false,[]⟩) rfl rfl) ?_)
 rw[Qn]
 refine Qw (QZ (b:=false) (Qd1 (a:=false) (b:=false) (Qc3 (b:=true) (QI (b:=true) rfl rfl)) (QI (b:=false) rfl rfl)) (λh=>by cases h) (λ_=>Qr ?_))
 change Run _ [some (.tup [Qc n n Lf,Qc n n (Qt len),Qc n n R,Qc n n Lb,Qc n n Rb],false),some (Qc n n f,false),some (.int n,true),none] _
 refine Q0 (P:=λρ=>∃j3,ρ=[some (.tup [Qc n n Lf,Qc n n (Qt len),Qc n n R,Qc n n Lb,Qc n n Rb],false),some (Qc n n f,false),some (.int n,true),j3]) ?_ ?_
 ·refine Qaj (toD:=λ(A:Nat->Nat->Int)=>Qc n n A) [Lf,Qt len,R,Lb,Rb] (λk ρ=>∃j3,ρ=[some (.tup [Qc n n Lf,Qc n n (Qt len),Qc n n R,Qc n n Lb,Qc n n Rb],false),some (Qc n n f,false),some (.int n,true),j3]) (Qn2 (r:=⟨.tup [Qc n n Lf,Qc n n (Qt len),Qc n n R,Qc n n Lb,Qc n n Rb],false,[]⟩) rfl rfl (by decide:5<=64)) rfl ⟨none,rfl⟩ ?_ λρ h=>h
  rintro k A ρ _ ⟨j3,rfl⟩
  refine⟨[some (.tup [Qc n n Lf,Qc n n (Qt len),Qc n n R,Qc n n Lb,Qc n n Rb],false),some (Qc n n f,false),some (.int n,true),some (Qc n n A,false)],rfl,?_⟩
  exact run_seq (QZ (b:=false) (Qc3 (b:=true) (QI (b:=true) (Qm (r:=⟨[Qc n n A,.int n],false,[]⟩) rfl (hi n A) rfl) rfl)) (λh=>by cases h) (λ_=>Qr (Qr ⟨_,rfl⟩)))
 rintro ρ ⟨j3,rfl⟩
 refine Qw (QZ (b:=false) (Qd1 (a:=false) (b:=false) (QI (b:=false) (Qhb (d:=Qc n n (Qt len)) (Qm (Qs (Qm (r:=⟨[Qc n n Lf,Qc n n f],false,[]⟩) rfl (hb n Lf f (by omega) (bL.bits (by decide)) (bf.bits (by decide))) rfl) (Qs (r:=⟨Qc n n R,false,[]⟩) rfl (QP _))) (hb n _ R (by omega) (bLf.bits (by decide)) (bR.bits (by decide))) rfl) e1 (rb:=⟨Qc n n (Qt len),false,[]⟩) rfl rfl (QhK 6 n n _)) rfl) (Qc3 (b:=true) (QI (b:=true) (Qm (r:=⟨[Qc n n (Qt len),Qc n n f],false,[]⟩) rfl (hm n len f n0 n8 hS.pos hS.nxt (hS.share n0)) rfl) rfl))) (λh=>by cases h) (λ_=>Qr ?_))
 exact QE (Qv2 (a:=true) (b:=true) (Qm (Qs (Qm (r:=⟨[Qc n n Lf,Qc n n Lb],false,[]⟩) rfl (hb n Lf Lb (by omega) (bL.bits (by decide)) (bLb.bits (by decide))) rfl) (QP _)) (hu n _ n8 hS.v1) rfl) (Qm (Qs (Qm (r:=⟨[Qc n n R,Qc n n Rb],false,[]⟩) rfl (hb n R Rb (by omega) (bR.bits (by decide)) (bRb.bits (by decide))) rfl) (QP _)) (hu n _ n8 hS.u1) rfl)) ⟨rfl,rfl⟩)
theorem Qm6{n:Nat}(hn:0<n)(M:Nat->Nat->Int):∃xs ys,Qc n n M= .lst (.lst (.int (M 0 0)::xs)::ys):=by
 obtain⟨m,rfl⟩:∃m,n=m+1:=⟨n-1,by omega⟩
 exact⟨((List.range m).map Nat.succ).map λj=> .int (M 0 j),((List.range m).map Nat.succ).map λi=>Qe (m+1) (M i),by unfold Qc Qe;rw[ZaO];rfl⟩
theorem QeV{n:Nat}:ixN (n+1) (0:Int)=some 0:=by
 unfold ixN
 rw[if_pos (by decide),if_pos (by omega)];rfl
theorem Qqs{x:Nat}{a c d e z:D}{xs ys:List D}{v:Int}{fa:DE}{ρ:En}{Q:Out->Prop}(hx:ρ[x]? =some (some (.tup [a,.lst (.lst (z::xs)::ys),c,d,e],true)))(ha:fa ρ=some ⟨.int v,true,[]⟩)(q:Q (.nx (ρ.set x (some (.tup [a,.lst (.lst (.int v::xs)::ys),c,d,e],true))))):Run (Qbf x (Qar (Qar Q2 (dC (.int 1))) (dC (.int 0))) (dC (.int 0)) fa) ρ Q:=by
 refine⟨_,?_,q⟩
 have hn:(HS.R.mk (.int v) true []).norm=⟨.int v,true,[]⟩:=rfl
 have i1:ixN 5 (1:Int)=some 1:=rfl
 unfold Qbf
 rw[ha,Za,hx]
 simp only[Q2,Qar,dC,Za,Zbd,ZaZ,Qax,D.items,atI,ZE,Zbe,ZbP,Nat.reduceAdd,i1,QeV,List.getElem?_cons_succ,List.getElem?_cons_zero,hn]
 simp[kill,Qay,i1,QeV]
theorem Qrf{x:Nat}{b c d e z:D}{xs ys:List D}{v:Int}{fa:DE}{ρ:En}{Q:Out->Prop}(hx:ρ[x]? =some (some (.tup [.lst (.lst (z::xs)::ys),b,c,d,e],true)))(ha:fa ρ=some ⟨.int v,true,[]⟩)(q:Q (.nx (ρ.set x (some (.tup [.lst (.lst (.int v::xs)::ys),b,c,d,e],true))))):Run (Qbf x (Qar (Qar Q2 (dC (.int 0))) (dC (.int 0))) (dC (.int 0)) fa) ρ Q:=by
 refine⟨_,?_,q⟩
 have hn:(HS.R.mk (.int v) true []).norm=⟨.int v,true,[]⟩:=rfl
 have i1:ixN 5 (0:Int)=some 0:=rfl
 unfold Qbf
 rw[ha,Za,hx]
 simp only[Q2,Qar,dC,Za,Zbd,ZaZ,Qax,D.items,atI,ZE,Zbe,ZbP,Nat.reduceAdd,i1,QeV,List.getElem?_cons_succ,List.getElem?_cons_zero,hn]
 simp[kill,Qay,i1,QeV]
theorem Qrs{x:Nat}{a b c e:D}{xs ys:List D}{ρ:En}{Q:Out->Prop}(hx:ρ[x]? =some (some (.tup [a,b,c,.lst (.lst xs::ys),e],true)))(hl:xs.length<1000)(q:Q (.nx (ρ.set x (some (.tup [a,b,c,.lst (.lst (xs++[.int 0])::ys),e],true))))):Run (QcP x (Qar (Qar Q2 (dC (.int 3))) (dC (.int 0))) (dC (.int 0))) ρ Q:=by
 have i3:ixN 5 (3:Int)=some 3:=rfl
 have hd:Qax (.tup [a,b,c,.lst (.lst xs::ys),e]) [3,0]=some (.lst xs):=by
  simp only[Qax,D.items,atI,ZE,Zbe,ZbP,Nat.reduceAdd,i3,QeV,Za,List.getElem?_cons_succ,List.getElem?_cons_zero]
 refine QsI (is:=[3,0]) hx rfl hd (d:= .int 0) rfl (by omega) ?_
 have e:Qay [3,0] (.tup [a,b,c,.lst (.lst xs::ys),e]) (.lst (xs++[.int 0]))= .tup [a,b,c,.lst (.lst (xs++[.int 0])::ys),e]:=by simp[Qay,i3,QeV]
 rw[e]
 exact q
theorem Qq2{x:Nat}{b c d e:D}{xs:List D}{ρ:En}{Q:Out->Prop}(hx:ρ[x]? =some (some (.tup [.lst xs,b,c,d,e],true)))(q:Q (.nx (ρ.set x (some (.tup [.lst [],b,c,d,e],true))))):Run (Qk3 x (Qar Q2 (dC (.int 0)))) ρ Q:=by
 refine⟨_,?_,q⟩
 have i1:ixN 5 (0:Int)=some 0:=rfl
 unfold Qk3
 rw[hx]
 simp only[Q2,Qar,dC,Za,Zbd,Qax,D.items,atI,ZE,Zbe,ZbP,Nat.reduceAdd,i1,List.getElem?_cons_zero]
 simp[Qay,i1]
noncomputable def QcO(n:Nat)(A:Nat->Nat->Int):Nat->Nat->Int:=λi j=>A (n-1-i) j
theorem Qmz{n:Nat}(A:Nat->Nat->Int)(hn:0<n):EqT n (QcO n A) (prodF n (QcO n idF) A):=λi j _ _=>(Qad A j (by omega)).symm
theorem QK.rev{n:Nat}{A:Nat->Nat->Int}{d:Nat->Int}(h:QK n A d)(hn:0<n):QK n (QcO n A) d:=by
 have u:Q9 n (QcO n idF) (QcO n idF):=λi j hi hj=>by
  rw[← Qmz _ hn i j hi hj]
  show idF (n-1-(n-1-i)) j=_
  rw[show n-1-(n-1-i)=i by omega]
 exact(h.left u u).congr (Qmz A hn)
theorem QsB{n:Nat}(F:Nat->D):((List.range n).map F).reverse=(List.range n).map λi=>F (n-1-i):=by
 refine List.ext_getElem (by simp) λi h1 h2=>?_
 simp only[List.getElem_reverse,List.getElem_map,List.getElem_range,Zx,Zo]
theorem QrX{x n:Nat}{f:Nat->Nat->Int}{ρ:En}{Q:Out->Prop}(hx:ρ[x]? =some (some (Qc n n f,true)))(q:Q (.nx (ρ.set x (some (Qc n n (QcO n f),true))))):Run (Qk1 x Q2) ρ Q:=by
 refine⟨_,?_,q⟩
 unfold Qk1
 rw[hx]
 simp only[Q2,Za,Qc,Qax,Qay,QsB]
 rfl
theorem Qmv(k n:Nat)(xs:List (Nat->Nat->Int)):(D.lst (xs.map λA=>Qc n n A)).sim (k+3)=true:=by
 simp only[D.sim,ZbN,Zai]
 exact λA _=>QhK k n n A
noncomputable def Qlv(QbZ:Den)(Qb4:Den)(Qaw:Den)(QaO:Den)(QbU:Den):DS:=(Qf (Qu 1 (Qk 1 Qb4 [] (Qd (Qk 2 QbZ [] (Qd (Qa 0) (Qd (dC (.int 22)) Qg))) Qg))) (Qf (Qu 2 (Qk 1 Qaw [] (Qd (Qa 1) Qg))) (Qf (Qu 3 (Qk 1 QaO [] (Qd (Qa 2) Qg))) (Qf (sIf (bOr (QdW (QM (Qk 2 QbU [] (Qd (Qa 3) (Qd (Qa 1) Qg))))) (QM (dOp gNe (Qa 2) (Qa 1)))) (Qf (QH (dC (.bl false))) Qi) Qi) (Qf (Qu 4 (QO (Q4 (Qa 3)) (.nm 1) [none,none] QR (Qk 1 Qaw [] (Qd (Qa 1) Qg)))) (Qf (Qk1 2 Q2) (Qf (Qu 5 (Qk 1 Qaw [] (Qd (Qa 2) Qg))) (Qf (sIf (bOr (QdW (QM (Qk 2 QbU [] (Qd (Qk 1 QaO [] (Qd (Qa 2) Qg)) (Qd (Qa 5) Qg))))) (QM (dOp gNe (Qa 2) (Qa 5)))) (Qf (QH (dC (.bl false))) Qi) Qi) (Qf (sIf (QM (dOp gNe (QO (Q4 (Qa 3)) (.nm 1) [none,none] QR (Qk 1 Qaw [] (Qd (Qa 1) Qg))) (Qa 4))) (Qf (QH (dC (.bl false))) Qi) Qi) (Qf (Qbf 3 (Qar (Qar Q2 (dC (.int 1))) (dC (.int 0))) (dC (.int 0)) (dC (.int 0))) (Qf (Qbf 3 (Qar (Qar Q2 (dC (.int 0))) (dC (.int 0))) (dC (.int 0)) (Q8 (Ql (Ql (Ql (Qa 3) (dC (.int 0))) (dC (.int 0))) (dC (.int 0))) (dC (.int 1)))) (Qf (QcP 3 (Qar (Qar Q2 (dC (.int 3))) (dC (.int 0))) (dC (.int 0))) (Qf (sIf (QM (dOp gNe (Qav (Qd (Qk 1 Qaw [] (Qd (Ql (Qa 3) (dC (.int 2))) Qg)) (Qd (Qk 1 Qaw [] (Qd (Ql (Qa 3) (dC (.int 4))) Qg)) Qg))) (Qav (Qd (Ql (Qa 4) (dC (.int 2))) (Qd (Ql (Qa 4) (dC (.int 4))) Qg))))) (Qf (QH (dC (.bl false))) Qi) Qi) (Qf (Qk3 3 (Qar Q2 (dC (.int 0)))) (Qf (QH (dOp gEq (QO (Q4 (Qk 1 QaO [] (Qd (Qa 1) Qg))) (.nm 1) [none,none] QR (Qk 1 Qaw [] (Qd (Qa 1) Qg))) (Qa 4))) Qi)))))))))))))))
theorem Qw8{dc dd dcp dr dg:Den}(hc:CellsOk dc)(hd:QhC dd)(hcp:QmL dcp)(hr:Qjk dr)(hg:Qje dg)(ns:List Int)(hl:ns.length<=63):Qq 6 (Qlv dc dd dcp dr dg) [.lst (ns.map .int)]=some (.bl true,true):=by
 obtain⟨cs,ecs,lcs,_⟩:=hc ns 22 hl (by decide)
 obtain⟨n,f,n0,n8,ef,nz,bf⟩:=hd cs (by omega)
 have f240:∀i j,i<n->j<n->(f i j).natAbs<=2^240:=λi j hi hj=>Zk (bf i j hi hj) (ZH (by decide) (by decide))
 obtain⟨Lf,R,Lb,Rb,len,er,hS,b1,b2,b3,b4,_⟩:=hr n f n0 n8 f240 (by rw[QgI n f];exact nz)
 have g1:=hg n f Lf R Lb Rb len n0 n8 f240 hS b1 b2 b3 b4
 have r240:∀i j,i<n->j<n->(QcO n f i j).natAbs<=2^240:=λi j hi hj=>f240 _ j (by omega) hj
 obtain⟨Lf',R',Lb',Rb',len',er',hS',c1,c2,c3,c4,_⟩:=hr n (QcO n f) n0 n8 r240 ((hS.has.rev n0).full hS.pos)
 have g2:=hg n (QcO n f) Lf' R' Lb' Rb' len' n0 n8 r240 hS' c1 c2 c3 c4
 clear hS hS' r240 b1 b2 b3 b4 c1 c2 c3 c4
 generalize Qt len=M at *
 generalize Qt len'=M' at *
 have copies:∀{fa:DE}{ρ:En}{r:HS.R},fa ρ=some r->r.d= .tup [Qc n n Lf,Qc n n M,Qc n n R,Qc n n Lb,Qc n n Rb]->QO (Q4 fa) (.nm 1) [none,none] QR (Qk 1 dcp [] (Qd (Qa 1) Qg)) ρ=some ⟨.lst [Qc n n Lf,Qc n n M,Qc n n R,Qc n n Lb,Qc n n Rb],true,[]⟩:=λ{fa ρ r} h e=>
  QL (toD:=λ(A:Nat->Nat->Int)=>Qc n n A) (out:=λ(A:Nat->Nat->Int)=>Qc n n A) [Lf,M,R,Lb,Rb] (Qn2 h e (by decide:5<=64)) rfl λA _=>⟨[none,some (Qc n n A,false)],rfl,⟨Qc n n A,true,[]⟩,Qm (r:=⟨[Qc n n A],false,[]⟩) rfl (hcp n n A) rfl,rfl,rfl⟩
 have sim5:(D.lst [Qc n n Lf,Qc n n M,Qc n n R,Qc n n Lb,Qc n n Rb]).sim 8=true:=Qmv 5 n [Lf,M,R,Lb,Rb]
 have sim2:(D.lst [Qc n n R,Qc n n Rb]).sim 8=true:=Qmv 5 n [R,Rb]
 refine Q1 ?_
 refine run_seq (Qh (Qm (Qs (Qm (r:=⟨[.lst (ns.map .int),.int 22],false,[]⟩) rfl ecs rfl) (QP _)) ef rfl) ?_)
 rw[Qn]
 refine run_seq (Qh (Qm (r:=⟨[Qc n n f],true,[1]⟩) rfl (hcp n n f) rfl) ?_)
 rw[Qn]
 refine run_seq (Qh (Qm (r:=⟨[Qc n n f],true,[2]⟩) rfl er rfl) ?_)
 rw[Qn]
 change Nx _ (.nx [some (.lst (ns.map .int),false),some (Qc n n f,true),some (Qc n n f,true),some (.tup [Qc n n Lf,Qc n n M,Qc n n R,Qc n n Lb,Qc n n Rb],true),none,none])
 refine Qw (QZ (b:=false) (Qd1 (a:=false) (b:=false) (Qc3 (b:=true) (QI (b:=true) (Qm (r:=⟨[.tup [Qc n n Lf,Qc n n M,Qc n n R,Qc n n Lb,Qc n n Rb],Qc n n f],true,[3,1]⟩) rfl g1 rfl) rfl)) (QI (b:=false) (Qhb (d:=Qc n n f) (ra:=⟨Qc n n f,true,[2]⟩) (rb:=⟨Qc n n f,true,[1]⟩) rfl rfl rfl rfl (QhK 6 n n f)) rfl)) (λh=>by cases h) (λ_=>Qr ?_))
 refine run_seq (Qh (copies (r:=⟨.tup [Qc n n Lf,Qc n n M,Qc n n R,Qc n n Lb,Qc n n Rb],true,[3]⟩) rfl rfl) ?_)
 rw[Qn]
 refine run_seq (QrX (x:=2) (n:=n) (f:=f) rfl ?_)
 refine run_seq (Qh (Qm (r:=⟨[Qc n n (QcO n f)],true,[2]⟩) rfl (hcp n n (QcO n f)) rfl) ?_)
 rw[Qn]
 change Nx _ (.nx [some (.lst (ns.map .int),false),some (Qc n n f,true),some (Qc n n (QcO n f),true),some (.tup [Qc n n Lf,Qc n n M,Qc n n R,Qc n n Lb,Qc n n Rb],true),some (.lst [Qc n n Lf,Qc n n M,Qc n n R,Qc n n Lb,Qc n n Rb],true),some (Qc n n (QcO n f),true)])
 refine Qw (QZ (b:=false) (Qd1 (a:=false) (b:=false) (Qc3 (b:=true) (QI (b:=true) (Qm (Qs (Qm (r:=⟨[Qc n n (QcO n f)],true,[2]⟩) rfl er' rfl) (Qs (r:=⟨Qc n n (QcO n f),true,[5]⟩) rfl (QP _))) g2 rfl) rfl)) (QI (b:=false) (Qhb (d:=Qc n n (QcO n f)) (ra:=⟨Qc n n (QcO n f),true,[2]⟩) (rb:=⟨Qc n n (QcO n f),true,[5]⟩) rfl rfl rfl rfl (QhK 6 n n _)) rfl)) (λh=>by cases h) (λ_=>Qr ?_))
 refine Qw (QZ (b:=false) (QI (b:=false) (Qhb (d:= .lst [Qc n n Lf,Qc n n M,Qc n n R,Qc n n Lb,Qc n n Rb]) (rb:=⟨.lst [Qc n n Lf,Qc n n M,Qc n n R,Qc n n Lb,Qc n n Rb],true,[4]⟩) (copies (r:=⟨.tup [Qc n n Lf,Qc n n M,Qc n n R,Qc n n Lb,Qc n n Rb],true,[3]⟩) rfl rfl) rfl rfl rfl sim5) rfl) (λh=>by cases h) (λ_=>Qr ?_))
 obtain⟨x1,y1,t1⟩:=Qm6 n0 M
 obtain⟨x0,y0,t0⟩:=Qm6 n0 Lf
 obtain⟨x3,y3,t3⟩:=Qm6 n0 Lb
 have l3:x3.length<999:=by
  have:=congrArg (λd=>match d with | D.lst (.lst xs::_)=>xs.length | _=>0) t3
  obtain⟨m,hm⟩:∃m,n=m+1:=⟨n-1,by omega⟩
  rw[hm]at this
  unfold Qc Qe at this
  rw[ZaO]at this
  simp at this
  omega
 refine run_seq (Qqs (x:=3) (v:=0) (z:= .int (M 0 0)) (xs:=x1) (ys:=y1) (a:=Qc n n Lf) (c:=Qc n n R) (d:=Qc n n Lb) (e:=Qc n n Rb) (by rw[← t1];rfl) (QU _ _) ?_)
 refine run_seq (Qrf (x:=3) (v:=Lf 0 0+1) (z:= .int (Lf 0 0)) (xs:=x0) (ys:=y0) (b:= .lst (.lst (.int 0::x1)::y1)) (c:=Qc n n R) (d:=Qc n n Lb) (e:=Qc n n Rb) (by rw[← t0];rfl) ?_ ?_)
 ·exact Qaz (a:=Lf 0 0) (b:=1) (Qfa (f:=Lf) (i:=0) (j:=0) (ra:=⟨Qc n n Lf,true,[3]⟩) rfl rfl (QU _ _) rfl (QU _ _) rfl n0 n0) rfl (QU _ _) rfl
 refine run_seq (Qrs (x:=3) (xs:= .int (Lb 0 0)::x3) (ys:=y3) (a:= .lst (.lst (.int (Lf 0 0+1)::x0)::y0)) (b:= .lst (.lst (.int 0::x1)::y1)) (c:=Qc n n R) (e:=Qc n n Rb) (by rw[← t3];rfl) (by simp;omega) ?_)
 refine Qw (QZ (b:=false) (QI (b:=false) (Qhb (d:= .lst [Qc n n R,Qc n n Rb]) (ra:=⟨.lst [Qc n n R,Qc n n Rb],true,[]⟩) (rb:=⟨.lst [Qc n n R,Qc n n Rb],true,[4,4]⟩) ?_ rfl ?_ rfl sim2) rfl) (λh=>by cases h) (λ_=>Qr ?_))
 ·exact(Qe6 (Qs (Qm (r:=⟨[Qc n n R],true,[3]⟩) rfl (hcp n n R) rfl) (Qs (Qm (r:=⟨[Qc n n Rb],true,[3]⟩) rfl (hcp n n Rb) rfl) (QP _))) (by decide:2<=64)).trans rfl
 ·exact(Qe6 (rs:=⟨[Qc n n R,Qc n n Rb],true,[4,4]⟩) rfl (by decide:2<=64)).trans rfl
 refine run_seq (Qq2 (x:=3) rfl ?_)
 refine QE (r:=⟨.bl true,true,[]⟩) (QuL (d:= .lst [Qc n n Lf,Qc n n M,Qc n n R,Qc n n Lb,Qc n n Rb]) (rb:=⟨.lst [Qc n n Lf,Qc n n M,Qc n n R,Qc n n Lb,Qc n n Rb],true,[4]⟩) (copies (Qm (r:=⟨[Qc n n f],true,[1]⟩) rfl er rfl) rfl) rfl rfl rfl sim5) ⟨rfl,rfl⟩
end HS
theorem HS.some_of{α:Type}{x:Option α}{d:α}(h:x.isSome=true):x=some (x.getD d):=by cases x with | none=>cases h | some a=>rfl
namespace Law
open PySem L2 HS
noncomputable section
def top(i:Nat):Stmt:=PySem.Challenge.pw_heapstill_k35_whole_ring_tables.main.body.getD i (.Pass ⟨0,0,0,0⟩)
abbrev cst:List (Str×Int):=[]
abbrev Sc(s:Stmt)(P:List Str):Prop:=Qc8 (namesOf (QA s)) P (QA s)
theorem scM{s:Stmt}{P:List Str}(h1:(QA s).kind= .function)(h2:(QA s).isCoroutine=false)(h3:(QA s).isGenerator=false)(h4:(namesOf (QA s)).Nodup/\(namesOf (QA s)).take P.length=P/\(∀x∈P,(QA s).names.lookup x=some .local ∨(QA s).names.lookup x=some .cell)/\∀y∈(QA s).names,y.2≠ .free):Sc s P:=⟨h1,h2,h3,h4.1,h4.2.1,h4.2.2.1,h4.2.2.2⟩
noncomputable abbrev Cp(s:Stmt)(Γ:List (Str×FnR)):Option DS:=QaC 60 (QkO s Γ cst) (Qb5 s)
noncomputable abbrev Dn(s:Stmt)(g:DS):Den:=Qq (namesOf (QA s)).length g
noncomputable abbrev Gc(x:Str)(n:Nat)(d:Den)(Γ:List (Str×FnR)):List (Str×FnR):=(x,⟨n,[],d⟩)::Γ
abbrev Qef:=top 4
theorem Qq5:Sc Qef ["table","at"]:=scM rfl rfl rfl (by decide+kernel)
theorem QtI:Qx "column" Qef ["table","at"]:=λ | _,_,_,_,_,_,[_,_],_=>rfl
def QnL:=(Cp Qef []).getD QF
theorem Qs0:Cp Qef []=some QnL:=some_of (by decide+kernel)
abbrev QbW:=Dn Qef QnL
abbrev QiT:=Gc "column" 2 QbW []
abbrev Qec:=top 5
theorem Qq1:Sc Qec ["table"]:=scM rfl rfl rfl (by decide+kernel)
theorem Qtt:Qx "turned" Qec ["table"]:=λ | _,_,_,_,_,_,[_],_=>rfl
def Qmp:=(Cp Qec QiT).getD QF
theorem Qr7:Cp Qec QiT=some Qmp:=some_of (by decide+kernel)
abbrev QaV:=Dn Qec Qmp
abbrev QiH:=Gc "turned" 1 QaV QiT
abbrev Qdc:=top 6
theorem Qn6:Sc Qdc ["size","at"]:=scM rfl rfl rfl (by decide+kernel)
theorem Qpo:Qx "unit_row" Qdc ["size","at"]:=λ | _,_,_,_,_,_,[_,_],_=>rfl
def QjC:=(Cp Qdc QiH).getD QF
theorem Qps:Cp Qdc QiH=some QjC:=some_of (by decide+kernel)
abbrev Qbc:=Dn Qdc QjC
abbrev QgN:=Gc "unit_row" 2 Qbc QiH
abbrev Qci:=top 7
theorem QlI:Sc Qci ["size"]:=scM rfl rfl rfl (by decide+kernel)
theorem Qnm:Qx "unit_table" Qci ["size"]:=λ | _,_,_,_,_,_,[_],_=>rfl
def Qhz:=(Cp Qci QgN).getD QF
theorem Qmj:Cp Qci QgN=some Qhz:=some_of (by decide+kernel)
abbrev Q7:=Dn Qci Qhz
abbrev Qe2:=Gc "unit_table" 1 Q7 QgN
abbrev Qdf:=top 8
theorem Qon:Sc Qdf ["line"]:=scM rfl rfl rfl (by decide+kernel)
theorem Qpd:Qx "opposite" Qdf ["line"]:=λ | _,_,_,_,_,_,[_],_=>rfl
def QjJ:=(Cp Qdf Qe2).getD QF
theorem Qpj:Cp Qdf Qe2=some QjJ:=some_of (by decide+kernel)
abbrev Qc7:=Dn Qdf QjJ
abbrev Qgq:=Gc "opposite" 1 Qc7 Qe2
abbrev Qeo:=top 9
theorem QqU:Sc Qeo ["one","other"]:=scM rfl rfl rfl (by decide+kernel)
theorem QtF:Qx "scalar" Qeo ["one","other"]:=λ | _,_,_,_,_,_,[_,_],_=>rfl
def QmF:=(Cp Qeo Qgq).getD QF
theorem QsK:Cp Qeo Qgq=some QmF:=some_of (by decide+kernel)
abbrev Qd7:=Dn Qeo QmF
abbrev Qiz:=Gc "scalar" 2 Qd7 Qgq
abbrev QdK:=top 11
theorem Qpa:Sc QdK ["line","columns"]:=scM rfl rfl rfl (by decide+kernel)
theorem Qqb:Qx "line_by" QdK ["line","columns"]:=λ | _,_,_,_,_,_,[_,_],_=>rfl
def Qlt:=(Cp QdK Qiz).getD QF
theorem Qq0:Cp QdK Qiz=some Qlt:=some_of (by decide+kernel)
abbrev QdS:=Dn QdK Qlt
abbrev Qg9:=Gc "line_by" 2 QdS Qiz
abbrev QdJ:=top 10
theorem Qo4:Sc QdJ ["one","other"]:=scM rfl rfl rfl (by decide+kernel)
theorem QrE:Qx "product" QdJ ["one","other"]:=λ | _,_,_,_,_,_,[_,_],_=>rfl
def Qlh:=(Cp QdJ Qg9).getD QF
theorem QqE:Cp QdJ Qg9=some Qlh:=some_of (by decide+kernel)
abbrev QaG:=Dn QdJ Qlh
abbrev Qhm:=Gc "product" 2 QaG Qg9
abbrev Qd8:=top 12
theorem Qry:Sc Qd8 ["numbers"]:=scM rfl rfl rfl (by decide+kernel)
theorem Qsn:Qx "common" Qd8 ["numbers"]:=λ | _,_,_,_,_,_,[_],_=>rfl
def QmV:=(Cp Qd8 Qhm).getD QF
theorem Qsx:Cp Qd8 Qhm=some QmV:=some_of (by decide+kernel)
abbrev QdF:=Dn Qd8 QmV
abbrev QiQ:=Gc "common" 1 QdF Qhm
abbrev Qch:=top 14
theorem Ql4:Sc Qch ["lines","at"]:=scM rfl rfl rfl (by decide+kernel)
theorem Qnp:Qx "with_pivot" Qch ["lines","at"]:=λ | _,_,_,_,_,_,[_,_],_=>rfl
def Qg1:=(Cp Qch QiQ).getD QF
theorem Qng:Cp Qch QiQ=some Qg1:=some_of (by decide+kernel)
abbrev Qcd:=Dn Qch Qg1
abbrev Qfi:=Gc "with_pivot" 2 Qcd QiQ
abbrev QcF:=top 15
theorem Qmo:Sc QcF ["line","pivot_line","at","before"]:=scM rfl rfl rfl (by decide+kernel)
theorem Qoe:Qx "taken_off" QcF ["line","pivot_line","at","before"]:=λ | _,_,_,_,_,_,[_,_,_,_],_=>rfl
def Qit:=(Cp QcF Qfi).getD QF
theorem Qom:Cp QcF Qfi=some Qit:=some_of (by decide+kernel)
abbrev QcL:=Dn QcF Qit
abbrev QfX:=Gc "taken_off" 4 QcL Qfi
abbrev QdH:=top 13
theorem Qo7:Sc QdH ["lines"]:=scM rfl rfl rfl (by decide+kernel)
theorem Qq8:Qx "cleared" QdH ["lines"]:=λ | _,_,_,_,_,_,[_],_=>rfl
def Qlu:=(Cp QdH QfX).getD QF
theorem Qrh:Cp QdH QfX=some Qlu:=some_of (by decide+kernel)
abbrev QdQ:=Dn QdH Qlu
abbrev Qhi:=Gc "cleared" 1 QdQ QfX
abbrev Qa4:=top 16
theorem QiY:Sc Qa4 ["lines"]:=scM rfl rfl rfl (by decide+kernel)
theorem Qj0:Qx "cleared_whole" Qa4 ["lines"]:=λ | _,_,_,_,_,_,[_],_=>rfl
def QfL:=(Cp Qa4 Qhi).getD QF
theorem QjK:Cp Qa4 Qhi=some QfL:=some_of (by decide+kernel)
abbrev Qa5:=Dn Qa4 QfL
abbrev Qd4:=Gc "cleared_whole" 1 Qa5 Qhi
abbrev QbK:=top 17
theorem Qkf:Sc QbK ["table"]:=scM rfl rfl rfl (by decide+kernel)
theorem QlQ:Qx "turned_back" QbK ["table"]:=λ | _,_,_,_,_,_,[_],_=>rfl
def QgV:=(Cp QbK Qd4).getD QF
theorem QlZ:Cp QbK Qd4=some QgV:=some_of (by decide+kernel)
abbrev QbF:=Dn QbK QgV
abbrev QeE:=Gc "turned_back" 1 QbF Qd4
abbrev QcG:=top 24
theorem QnE:Sc QcG ["lines","number"]:=scM rfl rfl rfl (by decide+kernel)
theorem Qod:Qx "in_common" QcG ["lines","number"]:=λ | _,_,_,_,_,_,[_,_],_=>rfl
def Qic:=(Cp QcG QeE).getD QF
theorem Qoo:Cp QcG QeE=some Qic:=some_of (by decide+kernel)
abbrev QaL:=Dn QcG Qic
abbrev QfZ:=Gc "in_common" 2 QaL QeE
abbrev QeZ:=top 28
theorem Qsv:Sc QeZ ["factor","line","other_factor","other_line"]:=scM rfl rfl rfl (by decide+kernel)
theorem QuE:Qx "added" QeZ ["factor","line","other_factor","other_line"]:=λ | _,_,_,_,_,_,[_,_,_,_],_=>rfl
def Qov:=(Cp QeZ QfZ).getD QF
theorem Qum:Cp QeZ QfZ=some Qov:=some_of (by decide+kernel)
abbrev QbI:=Dn QeZ Qov
abbrev QkZ:=Gc "added" 4 QbI QfZ
abbrev QdR:=top 29
theorem QpS:Sc QdR ["one","other"]:=scM rfl rfl rfl (by decide+kernel)
theorem Qqr:Qx "weighed" QdR ["one","other"]:=λ | _,_,_,_,_,_,[_,_],_=>rfl
def Qll:=(Cp QdR QkZ).getD QF
theorem Qqa:Cp QdR QkZ=some Qll:=some_of (by decide+kernel)
abbrev QdI:=Dn QdR Qll
abbrev Qhy:=Gc "weighed" 2 QdI QkZ
abbrev Qbr:=top 27
theorem Qj1:Sc Qbr ["free","last"]:=scM rfl rfl rfl (by decide+kernel)
theorem Qkl:Qx "column_steps" Qbr ["free","last"]:=λ | _,_,_,_,_,_,[_,_],_=>rfl
def Qf0:=(Cp Qbr Qhy).getD QF
theorem Qky:Cp Qbr Qhy=some Qf0:=some_of (by decide+kernel)
abbrev Qbi:=Dn Qbr Qf0
abbrev Qes:=Gc "column_steps" 2 Qbi Qhy
abbrev Qee:=top 23
theorem Qrv:Sc Qee ["line","length"]:=scM rfl rfl rfl (by decide+kernel)
theorem QsL:Qx "within" Qee ["line","length"]:=λ | _,_,_,_,_,_,[_,_],_=>rfl
def Qnb:=(Cp Qee Qes).getD QF
theorem QrN:Cp Qee Qes=some Qnb:=some_of (by decide+kernel)
abbrev Qcv:=Dn Qee Qnb
abbrev Qjl:=Gc "within" 2 Qcv Qes
abbrev QeX:=top 26
theorem QsN:Sc QeX ["one","other","length"]:=scM rfl rfl rfl (by decide+kernel)
theorem Quw:Qx "mixed" QeX ["one","other","length"]:=λ | _,_,_,_,_,_,[_,_,_],_=>rfl
def QoL:=(Cp QeX Qjl).getD QF
theorem QuY:Cp QeX Qjl=some QoL:=some_of (by decide+kernel)
abbrev QeW:=Dn QeX QoL
abbrev Qkn:=Gc "mixed" 3 QeW Qjl
abbrev QbB:=top 25
theorem QkK:Sc QbB ["lines","length"]:=scM rfl rfl rfl (by decide+kernel)
theorem QlS:Qx "free_column" QbB ["lines","length"]:=λ | _,_,_,_,_,_,[_,_],_=>rfl
def QgR:=(Cp QbB Qkn).getD QF
theorem Ql1:Cp QbB Qkn=some QgR:=some_of (by decide+kernel)
abbrev QbH:=Dn QbB QgR
abbrev QeI:=Gc "free_column" 2 QbH Qkn
abbrev Qep:=top 22
theorem Qqt:Sc Qep ["line","number"]:=scM rfl rfl rfl (by decide+kernel)
theorem Qsu:Qx "shared" Qep ["line","number"]:=λ | _,_,_,_,_,_,[_,_],_=>rfl
def QmS:=(Cp Qep QeI).getD QF
theorem QsC:Cp Qep QeI=some QmS:=some_of (by decide+kernel)
abbrev QbV:=Dn Qep QmS
abbrev QiW:=Gc "shared" 2 QbV QeI
abbrev Qbm:=top 20
theorem Qj3:Sc Qbm ["parts","whole"]:=scM rfl rfl rfl (by decide+kernel)
theorem QkF:Qx "right_tables" Qbm ["parts","whole"]:=λ | _,_,_,_,_,_,[_,_],_=>rfl
def Qf5:=(Cp Qbm QiW).getD QF
theorem Qk8:Cp Qbm QiW=some Qf5:=some_of (by decide+kernel)
abbrev Qbq:=Dn Qbm Qf5
abbrev Qem:=Gc "right_tables" 2 Qbq QiW
abbrev QcI:=top 21
theorem QnG:Sc QcI ["line","factor"]:=scM rfl rfl rfl (by decide+kernel)
theorem Qn9:Qx "by_number" QcI ["line","factor"]:=λ | _,_,_,_,_,_,[_,_],_=>rfl
def Qio:=(Cp QcI Qem).getD QF
theorem Qoj:Cp QcI Qem=some Qio:=some_of (by decide+kernel)
abbrev QcM:=Dn QcI Qio
abbrev QfY:=Gc "by_number" 2 QcM Qem
abbrev QbJ:=top 19
theorem Qke:Sc QbJ ["table"]:=scM rfl rfl rfl (by decide+kernel)
theorem Ql0:Qx "ring_tables" QbJ ["table"]:=λ | _,_,_,_,_,_,[_],_=>rfl
def QgQ:=(Cp QbJ QfY).getD QF
theorem QlW:Cp QbJ QfY=some QgQ:=some_of (by decide+kernel)
abbrev QaO:=Dn QbJ QgQ
abbrev QeH:=Gc "ring_tables" 1 QaO QfY
abbrev Qb3:=top 31
theorem QlK:Sc Qb3 ["_law_script","_law_many"]:=scM rfl rfl rfl (by decide+kernel)
theorem Qmm:Qx "_law_cells" Qb3 ["_law_script","_law_many"]:=λ | _,_,_,_,_,_,[_,_],_=>rfl
def Qhs:=(Cp Qb3 QeH).getD QF
theorem Qmh:Cp Qb3 QeH=some Qhs:=some_of (by decide+kernel)
abbrev QbZ:=Dn Qb3 Qhs
abbrev Qfs:=Gc "_law_cells" 2 QbZ QeH
abbrev Qcb:=top 32
theorem Ql5:Sc Qcb ["_law_found"]:=scM rfl rfl rfl (by decide+kernel)
theorem QnN:Qx "_law_whole" Qcb ["_law_found"]:=λ | _,_,_,_,_,_,[_],_=>rfl
def Qg0:=(Cp Qcb Qfs).getD QF
theorem QnI:Cp Qcb Qfs=some Qg0:=some_of (by decide+kernel)
abbrev Qcj:=Dn Qcb Qg0
abbrev Qe1:=Gc "_law_whole" 1 Qcj Qfs
abbrev Qbl:=top 33
theorem Qjw:Sc Qbl ["_law_found","_law_size"]:=scM rfl rfl rfl (by decide+kernel)
theorem Qkw:Qx "_law_numbers" Qbl ["_law_found","_law_size"]:=λ | _,_,_,_,_,_,[_,_],_=>rfl
def Qf3:=(Cp Qbl Qe1).getD QF
theorem Qkq:Cp Qbl Qe1=some Qf3:=some_of (by decide+kernel)
abbrev Qbn:=Dn Qbl Qf3
abbrev Qek:=Gc "_law_numbers" 2 Qbn Qe1
abbrev QbD:=top 34
theorem Qkk:Sc QbD ["_law_cell","_law_far"]:=scM rfl rfl rfl (by decide+kernel)
theorem QlP:Qx "_law_number" QbD ["_law_cell","_law_far"]:=λ | _,_,_,_,_,_,[_,_],_=>rfl
def QgS:=(Cp QbD Qek).getD QF
theorem QlH:Cp QbD Qek=some QgS:=some_of (by decide+kernel)
abbrev Qbz:=Dn QbD QgS
abbrev QeF:=Gc "_law_number" 2 Qbz Qek
abbrev Qcc:=top 35
theorem QlM:Sc Qcc ["_law_cells_here","_law_start","_law_size","_law_far"]:=scM rfl rfl rfl (by decide+kernel)
theorem Qmy:Qx "_law_table" Qcc ["_law_cells_here","_law_start","_law_size","_law_far"]:=λ | _,_,_,_,_,_,[_,_,_,_],_=>rfl
def QgX:=(Cp Qcc QeF).getD QF
theorem QmW:Cp Qcc QeF=some QgX:=some_of (by decide+kernel)
abbrev Qa2:=Dn Qcc QgX
abbrev Qft:=Gc "_law_table" 4 Qa2 QeF
abbrev Qa7:=top 36
theorem QiI:Sc Qa7 ["_law_found","_law_size"]:=scM rfl rfl rfl (by decide+kernel)
theorem Qj8:Qx "_law_is_table" Qa7 ["_law_found","_law_size"]:=λ | _,_,_,_,_,_,[_,_],_=>rfl
def Qfu:=(Cp Qa7 Qft).getD QF
theorem QjZ:Cp Qa7 Qft=some Qfu:=some_of (by decide+kernel)
abbrev Qa6:=Dn Qa7 Qfu
abbrev QjW:=Gc "_law_is_table" 2 Qa6 Qft
abbrev QT:=top 37
theorem QcT:Sc QT ["_law_table_here"]:=scM rfl rfl rfl (by decide+kernel)
theorem Qb7:Qx "_law_measure" QT ["_law_table_here"]:=λ | _,_,_,_,_,_,[_],_=>rfl
abbrev Qfd:Den:=λ_=>none
abbrev QdE:=Gc "_law_measure" 1 Qfd QjW
def Qfo:=(Cp QT QdE).getD QF
theorem QiP:Cp QT QdE=some Qfo:=some_of (by decide+kernel)
abbrev Qcu:=Dn QT Qfo
abbrev QdC:=Gc "_law_measure" 1 Qcu QdE
def Qfe:=(Cp QT QdC).getD QF
theorem Qja:Cp QT QdC=some Qfe:=some_of (by decide+kernel)
abbrev Qco:=Dn QT Qfe
abbrev Qdz:=Gc "_law_measure" 1 Qco QdC
def Qfh:=(Cp QT Qdz).getD QF
theorem QiX:Cp QT Qdz=some Qfh:=some_of (by decide+kernel)
abbrev Qcz:=Dn QT Qfh
abbrev Qdy:=Gc "_law_measure" 1 Qcz Qdz
def Qe8:=(Cp QT Qdy).getD QF
theorem Qiv:Cp QT Qdy=some Qe8:=some_of (by decide+kernel)
abbrev Qcp:=Dn QT Qe8
abbrev QdG:=Gc "_law_measure" 1 Qcp Qdy
abbrev Qb8:=Qcp
abbrev Qbo:=top 38
theorem QjN:Sc Qbo ["_law_one","_law_other"]:=scM rfl rfl rfl (by decide+kernel)
theorem QkC:Qx "_law_divisor" Qbo ["_law_one","_law_other"]:=λ | _,_,_,_,_,_,[_,_],_=>rfl
def Qgc:=(Cp Qbo QdG).getD QF
theorem Qk6:Cp Qbo QdG=some Qgc:=some_of (by decide+kernel)
abbrev Qbk:=Dn Qbo Qgc
abbrev Qd9:=Gc "_law_divisor" 2 Qbk QdG
abbrev QdP:=top 39
theorem Qpq:Sc QdP ["_law_one","_law_other"]:=scM rfl rfl rfl (by decide+kernel)
theorem Qqn:Qx "_law_by" QdP ["_law_one","_law_other"]:=λ | _,_,_,_,_,_,[_,_],_=>rfl
def QlF:=(Cp QdP Qd9).getD QF
theorem Qqf:Cp QdP Qd9=some QlF:=some_of (by decide+kernel)
abbrev QbM:=Dn QdP QlF
abbrev Qhx:=Gc "_law_by" 2 QbM Qd9
abbrev QcJ:=top 40
theorem Qn1:Sc QcJ ["_law_table_here"]:=scM rfl rfl rfl (by decide+kernel)
theorem Qn4:Qx "_law_copy" QcJ ["_law_table_here"]:=λ | _,_,_,_,_,_,[_],_=>rfl
def Qii:=(Cp QcJ Qhx).getD QF
theorem Qop:Cp QcJ Qhx=some Qii:=some_of (by decide+kernel)
abbrev Qaw:=Dn QcJ Qii
abbrev QfS:=Gc "_law_copy" 1 Qaw Qhx
abbrev Qb2:=top 41
theorem QlV:Sc Qb2 ["_law_table_here","_law_cells_here"]:=scM rfl rfl rfl (by decide+kernel)
theorem QmH:Qx "_law_mixed" Qb2 ["_law_table_here","_law_cells_here"]:=λ | _,_,_,_,_,_,[_,_],_=>rfl
def Qha:=(Cp Qb2 QfS).getD QF
theorem Qm7:Cp Qb2 QfS=some Qha:=some_of (by decide+kernel)
abbrev Qca:=Dn Qb2 Qha
abbrev Qfj:=Gc "_law_mixed" 2 Qca QfS
abbrev Qce:=top 42
theorem QlT:Sc Qce ["_law_cells_here","_law_size"]:=scM rfl rfl rfl (by decide+kernel)
theorem Qnr:Qx "_law_steps" Qce ["_law_cells_here","_law_size"]:=λ | _,_,_,_,_,_,[_,_],_=>rfl
def Qhh:=(Cp Qce Qfj).getD QF
theorem QnU:Cp Qce Qfj=some Qhh:=some_of (by decide+kernel)
abbrev QaM:=Dn Qce Qhh
abbrev Qe7:=Gc "_law_steps" 2 QaM Qfj
abbrev QcH:=top 43
theorem QmK:Sc QcH ["_law_table_here"]:=scM rfl rfl rfl (by decide+kernel)
theorem Qoi:Qx "_law_full" QcH ["_law_table_here"]:=λ | _,_,_,_,_,_,[_],_=>rfl
def Qik:=(Cp QcH Qe7).getD QF
theorem Qol:Cp QcH Qe7=some Qik:=some_of (by decide+kernel)
abbrev Qbh:=Dn QcH Qik
abbrev QfQ:=Gc "_law_full" 1 Qbh Qe7
abbrev Qb0:=top 44
theorem QlR:Sc Qb0 ["_law_cells_here"]:=scM rfl rfl rfl (by decide+kernel)
theorem Qmu:Qx "_law_drawn" Qb0 ["_law_cells_here"]:=λ | _,_,_,_,_,_,[_],_=>rfl
def Qg2:=(Cp Qb0 QfQ).getD QF
theorem QmU:Cp Qb0 QfQ=some Qg2:=some_of (by decide+kernel)
abbrev Qb4:=Dn Qb0 Qg2
abbrev Qfr:=Gc "_law_drawn" 1 Qb4 QfQ
abbrev Qbj:=top 45
theorem Qjs:Sc Qbj ["_law_table_here"]:=scM rfl rfl rfl (by decide+kernel)
theorem Qko:Qx "_law_is_unit" Qbj ["_law_table_here"]:=λ | _,_,_,_,_,_,[_],_=>rfl
def Qgd:=(Cp Qbj Qfr).getD QF
theorem Qkt:Cp Qbj Qfr=some Qgd:=some_of (by decide+kernel)
abbrev QaU:=Dn Qbj Qgd
abbrev Qeg:=Gc "_law_is_unit" 1 QaU Qfr
abbrev QbG:=top 46
theorem QkH:Sc QbG ["_law_middle_here","_law_table_here"]:=scM rfl rfl rfl (by decide+kernel)
theorem Ql3:Qx "_law_middle" QbG ["_law_middle_here","_law_table_here"]:=λ | _,_,_,_,_,_,[_,_],_=>rfl
def QgT:=(Cp QbG Qeg).getD QF
theorem Ql2:Cp QbG Qeg=some QgT:=some_of (by decide+kernel)
abbrev QbA:=Dn QbG QgT
abbrev QeG:=Gc "_law_middle" 2 QbA Qeg
abbrev QcD:=top 47
theorem Qm4:Sc QcD ["_law_five","_law_table_here"]:=scM rfl rfl rfl (by decide+kernel)
theorem Qn7:Qx "_law_good" QcD ["_law_five","_law_table_here"]:=λ | _,_,_,_,_,_,[_,_],_=>rfl
def Qih:=(Cp QcD QeG).getD QF
theorem Qor:Cp QcD QeG=some Qih:=some_of (by decide+kernel)
abbrev QbU:=Dn QcD Qih
abbrev Qij:=Gc "_law_good" 2 QbU QeG
abbrev QhQ:=top 48
theorem Qxj:Sc QhQ ["_law_script"]:=scM rfl rfl rfl (by decide+kernel)
theorem Qyj:Qx "law" QhQ ["_law_script"]:=λ | _,_,_,_,_,_,[_],_=>rfl
def QtU:=(Cp QhQ Qij).getD QF
theorem QxH:Cp QhQ Qij=some QtU:=some_of (by decide+kernel)
abbrev Qpm:=Dn QhQ QtU
theorem Qtc:QbW=Qq 2 (HS.Qno):=by kernel_rfl
theorem Qr1:QaV=Qq 1 (HS.Qm1 QbW):=by kernel_rfl
theorem Qpu:Qbc=Qq 2 (HS.Qjm):=by kernel_rfl
theorem QnO:Q7=Qq 1 (HS.QgZ Qbc):=by kernel_rfl
theorem QpP:Qc7=Qq 1 (HS.Qju):=by kernel_rfl
theorem Qsy:Qd7=Qq 2 (HS.QmY):=by kernel_rfl
theorem QqV:QdS=Qq 2 (HS.Qli Qd7):=by kernel_rfl
theorem QqY:QaG=Qq 3 (HS.QlG QaV QdS):=by kernel_rfl
theorem QsO:QdF=Qq 5 (HS.Qgt):=by kernel_rfl
theorem QnC:Qcd=Qq 4 (HS.Qge Qc7):=by kernel_rfl
theorem Qoh:QcL=Qq 4 (HS.Qin):=by kernel_rfl
theorem Qrm:QdQ=Qq 5 (HS.QfM Qcd QcL):=by kernel_rfl
theorem Qkb:Qa5=Qq 2 (HS.QfF QdQ):=by kernel_rfl
theorem QlJ:QbF=Qq 3 (HS.QgU Qbc Qa5):=by kernel_rfl
theorem Qn3:QaL=Qq 2 (HS.Qil QdF):=by kernel_rfl
theorem QuZ:QbI=Qq 4 (HS.QoX):=by kernel_rfl
theorem QrA:QdI=Qq 5 (HS.QfG QbI):=by kernel_rfl
theorem Qki:Qbi=Qq 10 (HS.Qdh Q7 QdI QbI QaV):=by kernel_rfl
theorem Qta:Qcv=Qq 2 (HS.QmM):=by kernel_rfl
theorem QuQ:QeW=Qq 5 (HS.Qh4 QaL Qcv):=by kernel_rfl
theorem QlX:QbH=Qq 4 (HS.Qdv QbW QeW):=by kernel_rfl
theorem Qs6:QbV=Qq 2 (HS.Qmk):=by kernel_rfl
theorem QkW:Qbq=Qq 11 (HS.Qdj Q7 QaL QbV Qcv QbH Qbi QaG):=by kernel_rfl
theorem Qot:QcM=Qq 2 (HS.Qip):=by kernel_rfl
theorem QlO:QaO=Qq 9 (HS.QfN QbF Qbq QcM Q7 QbV QaG QaV):=by kernel_rfl
theorem Qmx:QbZ=Qq 9 (HS.Qfg):=by kernel_rfl
theorem QnB:Qcj=Qq 1 (HS.Qhn):=by kernel_rfl
theorem QkS:Qbn=Qq 2 (HS.Qfb Qcj):=by kernel_rfl
theorem QlU:Qbz=Qq 2 (HS.QeL):=by kernel_rfl
theorem QmZ:Qa2=Qq 6 (HS.Qe4 Qbz):=by kernel_rfl
theorem QjP:Qa6=Qq 3 (HS.QfK Qbn):=by kernel_rfl
theorem Qi4:Qcu=Qq 4 (HS.Qb9 Qfd):=by kernel_rfl
theorem QiG:Qco=Qq 4 (HS.Qb9 Qcu):=by kernel_rfl
theorem QiU:Qcz=Qq 4 (HS.Qb9 Qco):=by kernel_rfl
theorem Qi8:Qcp=Qq 4 (HS.Qb9 Qcz):=by kernel_rfl
theorem Qk0:Qbk=Qq 3 (HS.Qdi):=by kernel_rfl
theorem Qrk:QbM=Qq 5 (HS.Qlg):=by kernel_rfl
theorem Qn8:Qaw=Qq 1 (HS.Qiq):=by kernel_rfl
theorem Qml:Qca=Qq 11 (HS.Qcw):=by kernel_rfl
theorem QmD:QaM=Qq 6 (HS.Qff Qca):=by kernel_rfl
theorem Qn5:Qbh=Qq 4 (HS.QcU Qb8):=by kernel_rfl
theorem Qnz:Qb4=Qq 6 (HS.Qcs QaM Qa2 Qbh):=by kernel_rfl
theorem QkD:QaU=Qq 3 (HS.Qet):=by kernel_rfl
theorem QlL:QbA=Qq 9 (HS.QeK Qbk):=by kernel_rfl
theorem Qob:QbU=Qq 4 (HS.Qfz Qa6 QbM QbA QaU):=by kernel_rfl
theorem Qye:Qpm=Qq 6 (HS.Qlv QbZ Qb4 Qaw QaO QbU):=by kernel_rfl
end
end Law
namespace HS
open PySem PySem.Spec L2
noncomputable def QrZ(mg:Str->Option Value):List Str->Prop
 | []=>True
 | x::r=>mg x=none/\QrZ mg r
theorem Qnh{mg:Str->Option Value}:∀{l:List Str},QrZ mg l->∀x∈l,mg x=none
 | [],_,x,h=>by simp at h
 | y::r,h,x,hx=>by
  rcases Zm.mp hx with rfl | hx
  ·exact h.1
  ·exact Qnh h.2 x hx
noncomputable def Qs3(mg:Str->Option Value):List (Str×Int)->Prop
 | []=>True
 | (x,i)::r=>(∃t,mg x=some (.int i t))/\Qs3 mg r
theorem Qm3{mg:Str->Option Value}:∀{l:List (Str×Int)},Qs3 mg l->∀x i,look x l=some i->∃t,mg x=some (.int i t)
 | [],_,x,i,h=>by cases h
 | (y,j)::r,h,x,i,hx=>by
  unfold look at hx
  split at hx
  ·rename_i e;cases hx;subst e;exact h.1
  ·exact Qm3 h.2 x i hx
theorem Qxf{mg:Str->Option Value}{cs:List (Str×Int)}(b:QrZ mg Qm8)(c:Qs3 mg cs):QgL mg cs:=⟨Qnh b,Qm3 c⟩
end HS
namespace Law
open HS
theorem QwU:CellsOk QbZ:=by rw[Qmx];exact QtL
theorem QyL:Qkr Qbz:=by rw[QlU];exact QsE
theorem QwT:QfB Qa2:=by rw[QmZ];exact QpU QyL
theorem Qwb:Qkz Qcj:=by rw[QnB];exact QsA
theorem QxC:QnZ Qbn:=by rw[QkS];exact Quh Qwb
theorem QyI:QkI Qa6:=by rw[QjP];exact Qtq QxC
theorem QyW:QpG Qc7:=by rw[QpP];exact QwF
theorem QoV:Qgw QbW:=by rw[Qtc];exact Qrz
theorem QkU:Qe9 QaV:=by rw[Qr1];exact QqA QoV
theorem Qut:QiZ Qd7:=by rw[Qsy];exact QqD
theorem QuF:QiB QdS:=by rw[QqV];exact QqS Qut
theorem Qmn:Qfx QaG:=by rw[QqY];exact QpM QkU QuF
theorem Qvj:QiK QdF:=by rw[QsO];exact Qqz
theorem QtS:Qjz Qbc:=by rw[Qpu];exact Qud
theorem QmP:Qf4 Q7:=by rw[QnO];exact QsQ QtS
theorem Qy7:Qi6 Qcd:=by rw[QnC];exact Qrb QyW
theorem Qyw:QkR QcL:=by rw[Qoh];exact Qs2
theorem QyD:QgJ QdQ:=by rw[Qrm];exact Qog Qy7 Qyw
theorem QyM:QfR Qa5:=by rw[Qkb];exact Qnv QyD
theorem hTB:Qkj QbF:=by rw[QlJ];exact QrP QtS QyM
theorem Qp7:QhS QaL:=by rw[Qn3];exact QsH Qvj
theorem Qqm:QhW QbI:=by rw[QuZ];exact Qsq
theorem Qxc:QkB QdI:=by rw[QrA];exact QsV Qqm
theorem Qxa:Qkm Qbi:=by rw[Qki];exact Qst QmP Qxc Qqm QkU
theorem QoA:Qgy Qcv:=by rw[Qta];exact QqG
theorem QvY:QkN QeW:=by rw[QuQ];exact Qs7 Qp7 QoA
theorem Qxx:QmC QbH:=by rw[QlX];exact Qul QoV QvY
theorem QoU:Qgl QbV:=by rw[Qs6];exact Qqv
theorem QwV:Qk2 Qbq:=by rw[QkW];exact Qtg QmP Qp7 QoU QoA Qxx Qxa Qmn
theorem QvZ:Qk4 QcM:=by rw[Qot];exact QrY
theorem Qw2:Qjk QaO:=by rw[QlO];exact QqZ hTB QwV QvZ QmP QoU Qmn QkU
theorem hM1:QdL 1 Qcu:=by rw[Qi4];exact QeT Qu8
theorem hM2:QdL 2 Qco:=by rw[QiG];exact QeT hM1
theorem hM3:QdL 3 Qcz:=by rw[QiU];exact QeT hM2
theorem hM4:QdL 4 Qcp:=by rw[Qi8];exact QeT hM3
theorem hMx:QkE Qca:=by rw[Qml];exact Qsf
theorem hSp:Qfw QaM:=by rw[QmD];exact Qpg hMx
theorem QyQ:Qgs Qbh:=by rw[Qn5];exact Qqg hM4
theorem Qzd:QhC Qb4:=by rw[Qnz];exact Qpn hSp QwT QyQ
theorem Qyb:QmL Qaw:=by rw[Qn8];exact Qu4
theorem hBy:Qtv QbM:=by rw[Qrk];exact Qx6
theorem hDiv:QkA Qbk:=by rw[Qk0];exact QtJ
theorem QyX:QiN QaU:=by rw[QkD];exact Qro
theorem Qyz:Qgn QbA:=by rw[QlL];exact Qof hDiv
theorem Qx0:Qje QbU:=by rw[Qob];exact Qqh QyI hBy Qyz QyX
theorem Qw9(ns:List Int)(h:ns.length<=63):∃fr,Qpm [.lst (ns.map .int)]=some (.bl true,fr):=by
 rw[Qye]
 exact⟨true,Qw8 QwU Qzd Qyb Qw2 Qx0 ns h⟩
end Law
namespace PySem.W.Fast
def tw16763854725758760034:=0
def tw16242047167125849593:=0
def tw11191900475027893831:=0
def tw7713690128487124687:=0
def tw11965129787423864442:=0
def tw1449488068029627105:=0
def tw1047125360408267495:=0
def tw3983324255089310513:=0
def tw1576553793113402047:=0
def tw2665967521040280925:=0
def tw3877356812831156328:=0
def tw5455936858042660190:=0
def tw15665847130663655139:=0
def tw13745995137351062209:=0
def tw1302267376279730399:=0
def tw5918041706193085734:=0
def tw9177388959349494947:=0
def tw8008148639707617419:=0
def tw12761699188969221106:=0
def tw6715643529270386912:=0
def tw4829708872998917869:=0
def tw14702746687385500652:=0
def tw238940519215046957:=0
def tw11245624382932589525:=0
def tw3640739772481625834:=0
def tw16528529144853893270:=0
def tw12568846796957262557:=0
def tw7240327047795495983:=0
def tw4645341937155945606:=0
def tw16488537064306213459:=0
def tw863852489290483989:=0
def tw10242493437397971089:=0
def tw9558510372955792297:=0
def tw8275029339617982712:=0
def tw934078309779672594:=0
def tw11932010806765111031:=0
def tw8482026562577977046:=0
def tw17081139598391910291:=0
def tw10393147450041337932:=0
def tw9381658336555588055:=0
def tw14839656349218709289:=0
def tw18194518588020059886:=0
def tw1351015981843412556:=0
def tw3588123011558375490:=0
def tw17951126806506802167:=0
def tw359182747693710665:=0
def tw113769390980713921:=0
def tw13563335448226960976:=0
def tw13182307082257035954:=0
def tw18078196446829184343:=0
def tw11468546477049678506:=0
def tw12554472461323672081:=0
def tw8024229502115762874:=0
def tw6398580293971989900:=0
def tw16459929717182830383:=0
def tw1037975277014663855:=0
def tw14841646036147470148:=0
def tw11233564091390959929:=0
def tw6427033663072887417:=0
def tw6921569588083754647:=0
def tw4387555553215670105:=0
def tw17222710189740130063:=0
def tw16875802938329764119:=0
def tw16774800228863085388:=0
def tw12740060354900740288:=0
def tw10186746439783736370:=0
def tw12388212039326744268:=0
def tw9956471967743546639:=0
def tw14424538146957821586:=0
def tw2056236740162775274:=0
def tw10496069150197388215:=0
def tw15619515556670682294:=0
def tw17498594012497489099:=0
def tw4885597294679970357:=0
def tw16276521761368905238:=0
def tw9432746228925807846:=0
def tw15294804655843238026:=0
def tw1159197750255267606:=0
def tw12865979320625200974:=0
def tw10813259652575877622:=0
def tw15948328508990699690:=0
def tw5881768939015165952:=0
def tw15638605617305755982:=0
def tw18109533060893512753:=0
def tw2986920130198720853:=0
def tw9362118418595426237:=0
def tw16644294213693695523:=0
def tw17951004842059174007:=0
def tw14592822958387854714:=0
def tw16377288810959888363:=0
def tw16777583271172655596:=0
def tw6604272322740445468:=0
def tw8901175833378156938:=0
def tw15876513372500847161:=0
def tw10989011728012145636:=0
def tw10100840998496618034:=0
def tw15206775334203237395:=0
def tw14514160465509684119:=0
def tw10322713405842542889:=0
def tw7330063724562706445:=0
def tw3537229374388875218:=0
def tw12836134117108235685:=0
def tw2795478892340920469:=0
def tw4174428507426450237:=0
def tw8667527490349689855:=0
def tw5537930584932817828:=0
def tw1865276409504695695:=0
def tw6888805789549749302:=0
def tw13029081505646742868:=0
def tw289308717787997073:=0
end PySem.W.Fast
open PySem PySem.W PyProof.Rows HS
set_option maxRecDepth 100000 in
set_option maxHeartbeats 0 in
theorem PySem.Challenge.cw_heapstill_k35_whole_ring_tables_holds : PySem.Challenge.rw_heapstill_k35_whole_ring_tables.Holds := by
 w_on;o_law;k_head;(case hw=>w_witness2)
 k_fill
 refine HS.QsU (l:=PySem.Challenge.rw_heapstill_k35_whole_ring_tables) (k:=47) (x:= "_law_script") (den:=Law.Qpm) rfl rfl ⟨rfl,by decide,by decide⟩ (λw h Y=>PySem.W.kIn_of Y) Law.Qw9 ?F
 case F=>
  intro w mg fa h KX G hmg
  obtain⟨f_column,f_turned,f_unit_row,f_unit_table,f_opposite,f_scalar,f_line_by,f_product,f_common,f_with_pivot,f_taken_off,f_cleared,f_cleared_whole,f_turned_back,f_in_common,f_added,f_weighed,f_column_steps,f_within,f_mixed,f_free_column,f_shared,f_right_tables,f_by_number,f_ring_tables,f__law_cells,f__law_whole,f__law_numbers,f__law_number,f__law_table,f__law_is_table,f__law_measure,f__law_divisor,f__law_by,f__law_copy,f__law_mixed,f__law_steps,f__law_full,f__law_drawn,f__law_is_unit,f__law_middle,f__law_good,f_law⟩:HS.Fact (L2.KOf KX) "column" Law.Qef/\HS.Fact (L2.KOf KX) "turned" Law.Qec/\HS.Fact (L2.KOf KX) "unit_row" Law.Qdc/\HS.Fact (L2.KOf KX) "unit_table" Law.Qci/\HS.Fact (L2.KOf KX) "opposite" Law.Qdf/\HS.Fact (L2.KOf KX) "scalar" Law.Qeo/\HS.Fact (L2.KOf KX) "line_by" Law.QdK/\HS.Fact (L2.KOf KX) "product" Law.QdJ/\HS.Fact (L2.KOf KX) "common" Law.Qd8/\HS.Fact (L2.KOf KX) "with_pivot" Law.Qch/\HS.Fact (L2.KOf KX) "taken_off" Law.QcF/\HS.Fact (L2.KOf KX) "cleared" Law.QdH/\HS.Fact (L2.KOf KX) "cleared_whole" Law.Qa4/\HS.Fact (L2.KOf KX) "turned_back" Law.QbK/\HS.Fact (L2.KOf KX) "in_common" Law.QcG/\HS.Fact (L2.KOf KX) "added" Law.QeZ/\HS.Fact (L2.KOf KX) "weighed" Law.QdR/\HS.Fact (L2.KOf KX) "column_steps" Law.Qbr/\HS.Fact (L2.KOf KX) "within" Law.Qee/\HS.Fact (L2.KOf KX) "mixed" Law.QeX/\HS.Fact (L2.KOf KX) "free_column" Law.QbB/\HS.Fact (L2.KOf KX) "shared" Law.Qep/\HS.Fact (L2.KOf KX) "right_tables" Law.Qbm/\HS.Fact (L2.KOf KX) "by_number" Law.QcI/\HS.Fact (L2.KOf KX) "ring_tables" Law.QbJ/\HS.Fact (L2.KOf KX) "_law_cells" Law.Qb3/\HS.Fact (L2.KOf KX) "_law_whole" Law.Qcb/\HS.Fact (L2.KOf KX) "_law_numbers" Law.Qbl/\HS.Fact (L2.KOf KX) "_law_number" Law.QbD/\HS.Fact (L2.KOf KX) "_law_table" Law.Qcc/\HS.Fact (L2.KOf KX) "_law_is_table" Law.Qa7/\HS.Fact (L2.KOf KX) "_law_measure" Law.QT/\HS.Fact (L2.KOf KX) "_law_divisor" Law.Qbo/\HS.Fact (L2.KOf KX) "_law_by" Law.QdP/\HS.Fact (L2.KOf KX) "_law_copy" Law.QcJ/\HS.Fact (L2.KOf KX) "_law_mixed" Law.Qb2/\HS.Fact (L2.KOf KX) "_law_steps" Law.Qce/\HS.Fact (L2.KOf KX) "_law_full" Law.QcH/\HS.Fact (L2.KOf KX) "_law_drawn" Law.Qb0/\HS.Fact (L2.KOf KX) "_law_is_unit" Law.Qbj/\HS.Fact (L2.KOf KX) "_law_middle" Law.QbG/\HS.Fact (L2.KOf KX) "_law_good" Law.QcD/\HS.Fact (L2.KOf KX) "law" Law.QhQ:=by
   refine⟨?_,?_,?_,?_,?_,?_,?_,?_,?_,?_,?_,?_,?_,?_,?_,?_,?_,?_,?_,?_,?_,?_,?_,?_,?_,?_,?_,?_,?_,?_,?_,?_,?_,?_,?_,?_,?_,?_,?_,?_,?_,?_,?_⟩<;>(dsimp only[L2.KOf];refine' HS.fact_mk ?a ?l ?c ?k;(case a=>k_is);(case l=>k_is);(case c=>k_is);(case k=>k_is))
  have M:HS.QgL mg Law.cst:=by
   obtain⟨n_range,n_enumerate,n_zip,n_len,n_list,n_min,n_max,n_sum,n_abs,n_isinstance,n_int,n_bool,n_tuple,n_str,n_divmod,n_sorted,n_any,n_all⟩:PySem.W.nsIn (L2.KOf KX) mainGlobals "range" =some none/\PySem.W.nsIn (L2.KOf KX) mainGlobals "enumerate" =some none/\PySem.W.nsIn (L2.KOf KX) mainGlobals "zip" =some none/\PySem.W.nsIn (L2.KOf KX) mainGlobals "len" =some none/\PySem.W.nsIn (L2.KOf KX) mainGlobals "list" =some none/\PySem.W.nsIn (L2.KOf KX) mainGlobals "min" =some none/\PySem.W.nsIn (L2.KOf KX) mainGlobals "max" =some none/\PySem.W.nsIn (L2.KOf KX) mainGlobals "sum" =some none/\PySem.W.nsIn (L2.KOf KX) mainGlobals "abs" =some none/\PySem.W.nsIn (L2.KOf KX) mainGlobals "isinstance" =some none/\PySem.W.nsIn (L2.KOf KX) mainGlobals "int" =some none/\PySem.W.nsIn (L2.KOf KX) mainGlobals "bool" =some none/\PySem.W.nsIn (L2.KOf KX) mainGlobals "tuple" =some none/\PySem.W.nsIn (L2.KOf KX) mainGlobals "str" =some none/\PySem.W.nsIn (L2.KOf KX) mainGlobals "divmod" =some none/\PySem.W.nsIn (L2.KOf KX) mainGlobals "sorted" =some none/\PySem.W.nsIn (L2.KOf KX) mainGlobals "any" =some none/\PySem.W.nsIn (L2.KOf KX) mainGlobals "all" =some none:=by refine⟨?_,?_,?_,?_,?_,?_,?_,?_,?_,?_,?_,?_,?_,?_,?_,?_,?_,?_⟩<;>(dsimp only[L2.KOf];k_is)
   exact HS.Qxf ⟨PySem.W.mg_none_of KX G n_range,PySem.W.mg_none_of KX G n_enumerate,PySem.W.mg_none_of KX G n_zip,PySem.W.mg_none_of KX G n_len,PySem.W.mg_none_of KX G n_list,PySem.W.mg_none_of KX G n_min,PySem.W.mg_none_of KX G n_max,PySem.W.mg_none_of KX G n_sum,PySem.W.mg_none_of KX G n_abs,PySem.W.mg_none_of KX G n_isinstance,PySem.W.mg_none_of KX G n_int,PySem.W.mg_none_of KX G n_bool,PySem.W.mg_none_of KX G n_tuple,PySem.W.mg_none_of KX G n_str,PySem.W.mg_none_of KX G n_divmod,PySem.W.mg_none_of KX G n_sorted,PySem.W.mg_none_of KX G n_any,PySem.W.mg_none_of KX G n_all,True.intro⟩ True.intro
  have t0:∀base:Heap,HS.Qct (PySem.Challenge.rw_heapstill_k35_whole_ring_tables).prog w (L2.KOf KX) mg base 0 []:=λ_=>HS.Qct.nil
  have t_column:=λb=>(t0 b).cons (HS.Qz KX G f_column Law.Qq5 Law.QtI M (t0 b) Law.Qs0)
  have t_turned:=λb=>(t_column b).cons (HS.Qz KX G f_turned Law.Qq1 Law.Qtt M (t_column b) Law.Qr7)
  have t_unit_row:=λb=>(t_turned b).cons (HS.Qz KX G f_unit_row Law.Qn6 Law.Qpo M (t_turned b) Law.Qps)
  have t_unit_table:=λb=>(t_unit_row b).cons (HS.Qz KX G f_unit_table Law.QlI Law.Qnm M (t_unit_row b) Law.Qmj)
  have t_opposite:=λb=>(t_unit_table b).cons (HS.Qz KX G f_opposite Law.Qon Law.Qpd M (t_unit_table b) Law.Qpj)
  have t_scalar:=λb=>(t_opposite b).cons (HS.Qz KX G f_scalar Law.QqU Law.QtF M (t_opposite b) Law.QsK)
  have t_line_by:=λb=>(t_scalar b).cons (HS.Qz KX G f_line_by Law.Qpa Law.Qqb M (t_scalar b) Law.Qq0)
  have t_product:=λb=>(t_line_by b).cons (HS.Qz KX G f_product Law.Qo4 Law.QrE M (t_line_by b) Law.QqE)
  have t_common:=λb=>(t_product b).cons (HS.Qz KX G f_common Law.Qry Law.Qsn M (t_product b) Law.Qsx)
  have t_with_pivot:=λb=>(t_common b).cons (HS.Qz KX G f_with_pivot Law.Ql4 Law.Qnp M (t_common b) Law.Qng)
  have t_taken_off:=λb=>(t_with_pivot b).cons (HS.Qz KX G f_taken_off Law.Qmo Law.Qoe M (t_with_pivot b) Law.Qom)
  have t_cleared:=λb=>(t_taken_off b).cons (HS.Qz KX G f_cleared Law.Qo7 Law.Qq8 M (t_taken_off b) Law.Qrh)
  have t_cleared_whole:=λb=>(t_cleared b).cons (HS.Qz KX G f_cleared_whole Law.QiY Law.Qj0 M (t_cleared b) Law.QjK)
  have t_turned_back:=λb=>(t_cleared_whole b).cons (HS.Qz KX G f_turned_back Law.Qkf Law.QlQ M (t_cleared_whole b) Law.QlZ)
  have t_in_common:=λb=>(t_turned_back b).cons (HS.Qz KX G f_in_common Law.QnE Law.Qod M (t_turned_back b) Law.Qoo)
  have t_added:=λb=>(t_in_common b).cons (HS.Qz KX G f_added Law.Qsv Law.QuE M (t_in_common b) Law.Qum)
  have t_weighed:=λb=>(t_added b).cons (HS.Qz KX G f_weighed Law.QpS Law.Qqr M (t_added b) Law.Qqa)
  have t_column_steps:=λb=>(t_weighed b).cons (HS.Qz KX G f_column_steps Law.Qj1 Law.Qkl M (t_weighed b) Law.Qky)
  have t_within:=λb=>(t_column_steps b).cons (HS.Qz KX G f_within Law.Qrv Law.QsL M (t_column_steps b) Law.QrN)
  have t_mixed:=λb=>(t_within b).cons (HS.Qz KX G f_mixed Law.QsN Law.Quw M (t_within b) Law.QuY)
  have t_free_column:=λb=>(t_mixed b).cons (HS.Qz KX G f_free_column Law.QkK Law.QlS M (t_mixed b) Law.Ql1)
  have t_shared:=λb=>(t_free_column b).cons (HS.Qz KX G f_shared Law.Qqt Law.Qsu M (t_free_column b) Law.QsC)
  have t_right_tables:=λb=>(t_shared b).cons (HS.Qz KX G f_right_tables Law.Qj3 Law.QkF M (t_shared b) Law.Qk8)
  have t_by_number:=λb=>(t_right_tables b).cons (HS.Qz KX G f_by_number Law.QnG Law.Qn9 M (t_right_tables b) Law.Qoj)
  have t_ring_tables:=λb=>(t_by_number b).cons (HS.Qz KX G f_ring_tables Law.Qke Law.Ql0 M (t_by_number b) Law.QlW)
  have t__law_cells:=λb=>(t_ring_tables b).cons (HS.Qz KX G f__law_cells Law.QlK Law.Qmm M (t_ring_tables b) Law.Qmh)
  have t__law_whole:=λb=>(t__law_cells b).cons (HS.Qz KX G f__law_whole Law.Ql5 Law.QnN M (t__law_cells b) Law.QnI)
  have t__law_numbers:=λb=>(t__law_whole b).cons (HS.Qz KX G f__law_numbers Law.Qjw Law.Qkw M (t__law_whole b) Law.Qkq)
  have t__law_number:=λb=>(t__law_numbers b).cons (HS.Qz KX G f__law_number Law.Qkk Law.QlP M (t__law_numbers b) Law.QlH)
  have t__law_table:=λb=>(t__law_number b).cons (HS.Qz KX G f__law_table Law.QlM Law.Qmy M (t__law_number b) Law.QmW)
  have t__law_is_table:=λb=>(t__law_table b).cons (HS.Qz KX G f__law_is_table Law.QiI Law.Qj8 M (t__law_table b) Law.QjZ)
  have t__law_measure_0:=λb=>(t__law_is_table b).cons (HS.Qo9 KX G f__law_measure Law.Qb7)
  have t__law_measure_1:=λb=>(t__law_measure_0 b).cons (HS.Qz KX G f__law_measure Law.QcT Law.Qb7 M (t__law_measure_0 b) Law.QiP)
  have t__law_measure_2:=λb=>(t__law_measure_1 b).cons (HS.Qz KX G f__law_measure Law.QcT Law.Qb7 M (t__law_measure_1 b) Law.Qja)
  have t__law_measure_3:=λb=>(t__law_measure_2 b).cons (HS.Qz KX G f__law_measure Law.QcT Law.Qb7 M (t__law_measure_2 b) Law.QiX)
  have t__law_measure_4:=λb=>(t__law_measure_3 b).cons (HS.Qz KX G f__law_measure Law.QcT Law.Qb7 M (t__law_measure_3 b) Law.Qiv)
  have t__law_divisor:=λb=>(t__law_measure_4 b).cons (HS.Qz KX G f__law_divisor Law.QjN Law.QkC M (t__law_measure_4 b) Law.Qk6)
  have t__law_by:=λb=>(t__law_divisor b).cons (HS.Qz KX G f__law_by Law.Qpq Law.Qqn M (t__law_divisor b) Law.Qqf)
  have t__law_copy:=λb=>(t__law_by b).cons (HS.Qz KX G f__law_copy Law.Qn1 Law.Qn4 M (t__law_by b) Law.Qop)
  have t__law_mixed:=λb=>(t__law_copy b).cons (HS.Qz KX G f__law_mixed Law.QlV Law.QmH M (t__law_copy b) Law.Qm7)
  have t__law_steps:=λb=>(t__law_mixed b).cons (HS.Qz KX G f__law_steps Law.QlT Law.Qnr M (t__law_mixed b) Law.QnU)
  have t__law_full:=λb=>(t__law_steps b).cons (HS.Qz KX G f__law_full Law.QmK Law.Qoi M (t__law_steps b) Law.Qol)
  have t__law_drawn:=λb=>(t__law_full b).cons (HS.Qz KX G f__law_drawn Law.QlR Law.Qmu M (t__law_full b) Law.QmU)
  have t__law_is_unit:=λb=>(t__law_drawn b).cons (HS.Qz KX G f__law_is_unit Law.Qjs Law.Qko M (t__law_drawn b) Law.Qkt)
  have t__law_middle:=λb=>(t__law_is_unit b).cons (HS.Qz KX G f__law_middle Law.QkH Law.Ql3 M (t__law_is_unit b) Law.Ql2)
  have t__law_good:=λb=>(t__law_middle b).cons (HS.Qz KX G f__law_good Law.Qm4 Law.Qn7 M (t__law_middle b) Law.Qor)
  exact HS.Qx5 KX G hmg f_law Law.Qxj Law.Qyj M (λbase=>t__law_good base) Law.QxH
