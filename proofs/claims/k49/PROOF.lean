import PyProof.Rows.All
import Wide.All
import OpenK.AllK
import Wide.FinOn
import Lean
import PyProof.EqAt
import PyProof.EqKinds
import PyProof.TupleCall
import PyProof.ZipIter
import PyProof.EnumMake
import PyProof.Rows.FactsT2
import PyProof.Rows.EnumRows
import PyProof.P3In
import PyProof.NeData
import KE.KUnpack
import PyProof.Rows.SumAny
import PyProof.Rows.MinMaxN
import PyProof.Rows.ListRangeD
import PyProof.Rows.Range3
import PyProof.Rows.RuleM_int
import PyProof.Rows.SortShell
import KE.KTryOn
import PyProof.ExcBaseAll.ValueError
import PyProof.RulesAs
import PyProof.ExcAttrAll.ValueError
import PyProof.Rows.RegTopCatchBFacts
import KE.RegKTryMore
import KE.RegKIsAll
import PySem.Challenge.RW_heapstill_k49_rows_refused
set_option Elab.async false
set_option linter.all false
set_option maxRecDepth 100000
local macro_rules | `(⋯)=> `(by first | with_reducible assumption | with_reducible exact Int.natCast_nonneg _ | with_reducible exact Int.ofNat_lt.2 (by assumption) | omega)
def Za:= @Option.bind_some
def Zb:= @PySem.Heap.get?_push_of_some
def Zc:= @List.mem_cons_of_mem
def Zd:= @List.getElem?_set_ne
def Ze:= @List.mem_append_right
def Zf:= @List.mem_append_left
def Zg:= @List.mem_range
def Zh:= @Option.map_eq_some_iff
def Zi:= @List.mem_cons
def Zj:= @Nat.le_refl
def Zk:= @List.getElem?_eq_some_iff
def Zl:= @List.mem_cons_self
def Zm:= @Bool.and_eq_true
def Zn:= @List.getElem?_set_self
def Zo:= @Nat.le_trans
def Zp:= @Nat.lt_of_lt_of_le
def Zq:= @List.length_map
def Zr:= @Nat.pow_le_pow_right
def Zs:= @List.getElem?_map
def Zt:= @PySem.Heap.lt_size
def Zu:= @List.getElem?_eq_none
def Zv:= @List.lookup_cons
def Zw:= @List.size_toArray
def Zx:= @Int.mul_assoc
def Zy:= @List.length_append
def Zz:= @PySem.Heap.get?_push_size
def ZA:= @Int.emod_lt_of_pos
def ZC:= @List.length_range
def ZD:= @Int.emod_nonneg
def ZE:= @List.mem_singleton
def ZF:= @List.mem_append
def ZG:= @Int.zero_mul
def ZH:= @List.map_cons
def ZI:= @List.map_congr_left
def ZJ:= @Int.mul_zero
def ZK:= @List.getElem?_range
def ZL:= @List.mem_map
def ZM:= @Nat.ne_of_lt
def ZN:= @Int.mul_left_comm
def ZO:= @Classical.byContradiction
def ZP:= @Int.mul_comm
def ZQ:= @Int.toNat_natCast
def ZR:= @List.length_cons
def ZS:= @List.count_eq_zero
def ZT:= @Int.one_mul
def ZU:= @Option.map_some
def ZV:= @Nat.lt_of_le_of_lt
def ZW:= @List.drop_eq_getElem_cons
def ZX:= @Nat.lt_irrefl
def ZY:= @List.length_set
def ZZ:= @Int.mul_le_mul_of_nonneg_left
def Zaa:= @Int.eq_of_mul_eq_mul_left
def Zab:= @Nat.zero_le
def Zac:= @Int.add_mul
def Zad:= @PyProof.Rows.callWith_type1
def Zae:= @Int.mul_one
def Zaf:= @Int.natAbs_dvd_natAbs
def Zag:= @Array.length_toList
def Zah:= @Bool.false_ne_true
def Zai:= @List.count_pos_iff
def Zaj:= @Int.natCast_mul
def Zak:= @Int.natAbs_mul
def Zal:= @PySem.mem_of_lookup
def Zam:= @List.replicate_succ
def Zan:= @Int.zero_sub
def Zao:= @PySem.Heap.size_push
def Zap:= @List.nodup_iff_count
def Zaq:= @Int.mul_neg
def Zar:= @List.flatten_cons
def Zas:= @List.count_append
def Zat:= @List.eq_nil_of_length_eq_zero
def Zau:= @Int.neg_mul
def Zav:= @Nat.le_of_ble_eq_true
def Zaw:= @List.map_map
def Zax:= @List.mem_of_getElem?
def Zay:= @Int.mul_add
def Zaz:= @Int.dvd_mul_of_dvd_left
def ZaA:= @List.getD_eq_getElem?_getD
def ZaB:= @List.mem_filter
def ZaC:= @List.nodup_cons
def ZaD:= @List.getElem?_zip_eq_some
def ZaE:= @Int.sub_add_cancel
def ZaF:= @Int.mul_le_mul_of_nonneg_right
def ZaG:= @List.sum_cons
def ZaH:= @Bool.not_eq_true'
def ZaI:= @List.map_append
def ZaJ:= @Int.dvd_add
def ZaK:= @List.all_eq_true
def ZaL:= @Nat.eq_zero_or_pos
def ZaM:= @Int.mul_nonpos_of_nonneg_of_nonpos
def ZaN:= @List.set_eq_take_append_cons_drop
def ZaO:= @List.append_nil
def ZaP:= @List.count_cons
def ZaQ:= @PySem.W.kia_one
def ZaR:= @Nat.lt_succ_of_lt
def ZaS:= @Nat.mul_comm
def ZaT:= @List.ext_getElem?
def ZaU:= @List.getElem?_eq_getElem
def ZaV:= @Int.mul_nonneg
def ZaW:= @Nat.mul_le_mul
def ZaX:= @List.mem_filterMap
def ZaY:= @Int.natCast_add
def ZaZ:= @List.take_append_drop
def Zba:= @List.append_assoc
def Zbb:= @List.nodup_nil
def Zbc:= @Nat.le_of_lt
def Zbd:= @Nat.lt_succ_self
def Zbe:= @List.getElem?_append_left
def Zbf:= @PySem.W.hideAll_get
def Zbg:= @List.map_eq_nil_iff
def Zbh:= @PySem.W.mg_of
def Zbi:= @Nat.le_of_dvd
def Zbj:= @Nat.add_sub_cancel
def Zbk:= @PyProof.Rows.intBits_le
def Zbl:= @Int.dvd_sub
def Zbm:= @Nat.le_mul_of_pos_right
def Zbn:= @Nat.ne_of_gt
def Zbo:= @List.reverse_cons
def Zbp:= @PyProof.Rows.boot_list
def Zbq:= @List.nodup_append
def Zbr:= @List.take_of_length_le
def Zbs:= @Int.emod_eq_of_lt
def Zbt:= @Int.sub_self
def Zbu:= @Int.natAbs_add_le
def Zbv:= @List.length_singleton
def Zbw:= @List.contains_iff_mem
def Zbx:= @Int.emod_add_mul_ediv
def Zby:= @List.not_mem_nil
def Zbz:= @List.mem_flatten
def ZbA:= @Nat.le_succ
def ZbB:= @Nat.add_le_add_right
def ZbC:= @Int.neg_neg
def ZbD:= @Nat.mul_le_mul_right
def ZbE:= @PySem.F.slot_zip_next
def ZbF:= @PyProof.Rows.boot_isinstance
def ZbG:= @List.filterMap_cons
def ZbH:= @List.length_reverse
def ZbI:= @List.sum_append_int
def ZbJ:= @Int.fdiv_eq_ediv_of_nonneg
def ZbK:= @List.getElem?_append_right
def ZbL:= @List.getElem?_set
def ZbM:= @Int.le_refl
def ZbN:= @Option.isSome_iff_exists
def ZbO:= @PyProof.noPylong_of_log2
def ZbP:= @List.length_take
def ZbQ:= @List.getElem?_replicate
def ZbR:= @PySem.Heap.IsList.push
def ZbS:= @List.cons_append
def ZbT:= @List.foldlM_cons
def ZbU:= @List.drop_length
def ZbV:= @PyProof.Rows.boot_tuple
def ZbW:= @Classical.axiomOfChoice
def ZbX:= @PySem.W.cellsFrom_some
def ZbY:= @Nat.lt_trans
def ZbZ:= @List.range_succ_eq_map
def Zca:= @Nat.pow_succ
def Zcb:= @Int.fmod_nonneg_of_pos
def Zcc:= @List.of_mem_zip
def Zcd:= @List.forIn_cons
def Zce:= @Bool.or_eq_true
def Zcf:= @List.nil_append
def Zcg:= @Nat.min_eq_left
def Zch:= @List.range_succ
def Zci:= @Int.mul_sub
abbrev Mt2:=Nat->Nat->Int
abbrev Mt1:=Nat->Int
abbrev Lpp:=List (Int×Int)
abbrev LAd:=List PySem.Addr
abbrev Fgg:=PySem.W.Frag
namespace L2
open PySem PySem.Spec PyProof.Rows
noncomputable abbrev Key:=Sum Int Str
noncomputable def Qxr:Key->Value->Bool
 | .inl k,v=>Value.isInt k v
 | .inr x,v=>Value.isStrOf x v
noncomputable def QDx(w:World):Key->Int
 | .inl k=>hashInt k
 | .inr x=>hashStr w x
theorem Qbq:∀{k:Key}{v:Value},Qxr k v=true->(∃i t,k=Sum.inl i/\v=Value.int i t)∨(∃x t,k=Sum.inr x/\v=Value.str x t)
 | .inl i,v,h=>by
  obtain⟨t,e⟩:=Value.isInt_shape (k:=i) (v:=v) h;exact .inl ⟨i,t,rfl,e⟩
 | .inr x,v,h=>by
  obtain⟨t,e⟩:=Value.isStrOf_shape (x:=x) (v:=v) h;exact .inr ⟨x,t,rfl,e⟩
theorem QBp(a b:Int):decide ((Sum.inl a:Key)=Sum.inl b)=(a == b):=by
 by_cases e:a=b
 ·subst e;simp
 ·have h:¬(Sum.inl a:Key)=Sum.inl b:=λq=>e (Sum.inl.inj q);rw[decide_eq_false h];exact(beq_eq_false_iff_ne.mpr e).symm
theorem QAi(a b:Str):decide ((Sum.inr a:Key)=Sum.inr b)=decide (a=b):=by
 by_cases e:a=b
 ·subst e;simp
 ·have h:¬(Sum.inr a:Key)=Sum.inr b:=λq=>e (Sum.inr.inj q);rw[decide_eq_false h,decide_eq_false e]
theorem QBE(a:Int)(b:Str):decide ((Sum.inl a:Key)=Sum.inr b)=false:=decide_eq_false (λq=>nomatch q)
theorem QBz(a:Str)(b:Int):decide ((Sum.inr a:Key)=Sum.inl b)=false:=decide_eq_false (λq=>nomatch q)
noncomputable def QmO(prog:Program)(w:World):PySem.KeyKind prog w Key where
 is:=Qxr
 hash:=QDx w
 inj:=λv a b ha hb=>by
  rcases Qbq ha with⟨i,t,rfl,rfl⟩ | ⟨x,t,rfl,rfl⟩
  ·rcases Qbq hb with⟨j,u,rfl,e⟩ | ⟨y,u,rfl,e⟩
   ·injection e with e1 _;rw[e1]
   ·exact nomatch e
  ·rcases Qbq hb with⟨j,u,rfl,e⟩ | ⟨y,u,rfl,e⟩
   ·exact nomatch e
   ·injection e with e1 _;rw[e1]
 byValue:=λk v h=>by
  rcases Qbq h with⟨i,t,rfl,rfl⟩ | ⟨x,t,rfl,rfl⟩<;>rfl
 pyHash:=λhv h=>by
  rcases Qbq hv with⟨i,t,rfl,rfl⟩ | ⟨x,t,rfl,rfl⟩
  ·exact wpAny_pyHash_int h
  ·exact wpAny_pyHash_str h
 eqBool:=λhu hv h=>by
  rcases Qbq hu with⟨i,t,rfl,rfl⟩ | ⟨x,t,rfl,rfl⟩
  ·rcases Qbq hv with⟨j,u,rfl,rfl⟩ | ⟨y,u,rfl,rfl⟩
   ·rw[QBp]at h;exact wpAny_eqBool_int h
   ·rw[QBE]at h;exact SeqAt.EqAt.int_str i t y u _ _ _ _ h
  ·rcases Qbq hv with⟨j,u,rfl,rfl⟩ | ⟨y,u,rfl,rfl⟩
   ·rw[QBz]at h;exact SeqAt.EqAt.str_int x t j u _ _ _ _ h
   ·rw[QAi]at h;exact wpAny_eqBool_str h
 «strs» :=λk x t v h=>by
  rcases Qbq h with⟨i,u,rfl,e⟩ | ⟨y,u,rfl,e⟩
  ·exact nomatch e
  ·injection e with e1 _;subst e1;cases v<;>rfl
inductive V where
 | non | bl (b:Bool) | int (i:Int) | str (x:Str) | byt (b:Array UInt8) | flt (b:UInt64) | ref (a:Addr) | ty (n:String)
 deriving DecidableEq
noncomputable def RelV:V->Value->Prop
 | .non,u=>u=Value.none
 | .bl b,u=>u=Value.bool b
 | .int i,u=>∃t,u=Value.int i t
 | .str x,u=>∃t,u=Value.str x t
 | .byt b,u=>∃t,u=Value.bytes b t
 | .flt b,u=>∃t,u=Value.float b t
 | .ref a,u=>u=Value.ref a
 | .ty n,u=>u=Value.type n
noncomputable abbrev QM:List V->List Value->Prop:=Paired RelV
theorem QM.length{xs:List V}{us:List Value}(r:QM xs us):xs.length=us.length:=Paired.length r
theorem QM.get:∀{xs:List V}{us:List Value}{i:Nat}{x:V},QM xs us->xs[i]? =some x->∃u,us[i]? =some u/\RelV x u
 | _,_,_,_,.nil,e=>by simp at e
 | _,_,0,_,.cons r _,e=>by simp at e;subst e;exact⟨_,rfl,r⟩
 | _,_,i+1,x,.cons _ t,e=>by
  obtain⟨u,h1,h2⟩:=QM.get (i:=i) (x:=x) t (by simpa using e);exact⟨u,by simpa using h1,h2⟩
theorem QM.set{x:V}{u:Value}(r:RelV x u):∀{xs:List V}{us:List Value}(i:Nat),QM xs us->QM (xs.set i x) (us.set i u)
 | _,_,_,.nil=> .nil
 | _,_,0,.cons _ t=> .cons r t
 | _,_,i+1,.cons q t=> .cons q (QM.set r i t)
theorem exK{α β γ δ:Type}{P Q R:α->β->γ->δ->Prop}{G:Prop}(k:∀a b c d,P a b c d->Q a b c d->R a b c d->G)(h:∃a b c d,P a b c d/\Q a b c d/\R a b c d):G:=let ⟨a,b,c,d,p,q,r⟩:=h;k a b c d p q r
theorem exJ{α β:Type}{P Q R:α->β->Prop}{G:Prop}(k:∀a b,P a b->Q a b->R a b->G)(h:∃a b,P a b/\Q a b/\R a b):G:=let ⟨a,b,p,q,r⟩:=h;k a b p q r
theorem QM.append{xs ys:List V}{us ws:List Value}(h:QM xs us)(s:QM ys ws):QM (xs++ys) (us++ws):=by
 induction h with
 | nil=>exact s
 | cons r t ih=>exact .cons r ih
theorem QM.take:∀{xs:List V}{us:List Value}(n:Nat),QM xs us->QM (xs.take n) (us.take n)
 | _,_,0,_=> .nil
 | _,_,_+1,.nil=> .nil
 | _,_,n+1,.cons r t=> .cons r (QM.take n t)
theorem QM.drop:∀{xs:List V}{us:List Value}(n:Nat),QM xs us->QM (xs.drop n) (us.drop n)
 | _,_,0,r=>r
 | _,_,_+1,.nil=> .nil
 | _,_,n+1,.cons _ t=>QM.drop n t
noncomputable def QAB:Option V->Option Value->Prop
 | some v,some u=>RelV v u
 | none,none=>True
 | _,_=>False
noncomputable def KV{κ:Type}:List (κ×V)->List (κ×Value)->Prop:=Paired λ(p:κ×V) (q:κ×Value)=>p.1=q.1/\RelV p.2 q.2
noncomputable def kV:Key->V
 | .inl i=> .int i
 | .inr x=> .str x
inductive HO where
 | lst (xs:List V)
 | tup (xs:List V)
 | dK (kvs:List (Key×V)) | dT (kvs:List (List Key×V))
 | set (S:Int->Bool) (n:Nat)
 | ins (C dx:Addr) (fs:List (Str×V))
 | own (x:Addr)
 | xd (fs:List (Str×V))
 | met (f x:Addr)
 | rng (lo hi:Int)
 | frz (o:Obj) (u:HO)
 | tbl (ps:Array Value)
 | ext (φ:Heap->Prop)
noncomputable abbrev Hp:=Addr->Option HO
noncomputable def upd(H:Hp)(a:Addr)(o:HO):Hp:=λb=>if b=a then some o else H b
theorem Qaa{H:Hp}{a:Addr}{o:HO}:upd H a o a=some o:=by unfold upd;rw[if_pos rfl]
theorem QR{H:Hp}{a b:Addr}{o:HO}(h:b≠a):upd H a o b=H b:=by unfold upd;rw[if_neg h]
theorem QoH{H:Hp}{a b:Addr}{o u:HO}(h:H a=some o)(h':H b=some u)(d:o≠u):a≠b:=by
 intro e;subst e;rw[h]at h';exact d (Option.some.inj h')
theorem Qb8{H:Hp}{a b:Addr}{o:HO}(h:H a=some o)(h':H b=none):a≠b:=by
 intro e;subst e;rw[h]at h';cases h'
section
variable (P:Program) (w:World)
noncomputable def Qb6(H:Hp)(h:Heap)(a:Addr):HO->Prop
 | .lst xs=>xs.length<=sizeLine/\∃(its:List Value) (n:Nat),QM xs its/\h.get? a=some {cls:= .type "list",data:= .seq its.toArray n}
 | .tup xs=>xs.length<=sizeLine/\∃its:List Value,QM xs its/\IsTup h a its.toArray
 | .dK kvs=>kvs.length<=sizeLine/\(a == sysModules)=false/\∃vs,KV kvs vs/\h.DictOf (QmO P w) a vs
 | .dT kvs=>kvs.length<=sizeLine/\(a == sysModules)=false/\∃xs:List (List Key×Addr×Value),
   Paired (λ(p:List Key×V) (q:List Key×Addr×Value)=>p.1=q.1/\H q.2.1=some (.tup (p.1.map kV))/\RelV p.2 q.2.2) kvs xs∧
   ∃o es ep,h.get? a=some o/\o.ExactDict/\o.data= .dict es ep/\es.toList=xs.map (entryOfKey (tupleKind (QmO P w)))/\(xs.map (·.1)).Nodup
 | .set S n=>h.SetOf (intKind P w) a S n
 | .ins C dx fs=>H dx=some (.own a)/\fs.length<=1000/\dx≠a/\h.get? a=some (PySem.W.instObj C dx)∧
   ∃mA,h.Ns1 dx mA/\(∀f,QAB (fs.lookup f) (mA f))/\PySem.Within mA (fs.map (·.1))
 | .own _=>∃o,h.get? a=some o
 | .xd fs=>∃mA,h.Ns1 a mA/\∀f,QAB (fs.lookup f) (mA f)
 | .rng lo hi=>∃t u v,h.get? a=some {cls:= .type "range",data:= .fields #[.int lo t,.int hi u,.int 1 v]}
 | .frz o u=>h.get? a=some o/\Qb6 H h a u
 | .tbl ps=>h.get? a=some {cls:= .none,data:= .fields ps}
 | .met f x=>h.get? a=some (PySem.W.methodObj (.ref f) (.ref x))
 | .ext φ=>φ h/\(∃o,h.get? a=some o)/\∀h1 h2:Heap,φ h1->(∀o,h1.get? a=some o->h2.get? a=some o)->φ h2
def HOk(H:Hp)(h:Heap):Prop:=∀a o,H a=some o->Qb6 P w H h a o
end
section
variable {P:Program}{w:World}{H H':Hp}{h h':Heap}{a:Addr}{o:HO}
theorem Qb6.lt(x:Qb6 P w H h a o):a<h.objs.size:=by
 cases o with
 | lst xs=>obtain⟨_,_,_,_,e⟩:=x;exact Zt e
 | tup xs=>obtain⟨_,_,_,p⟩:=x;exact p.lt
 | dK kvs=>obtain⟨_,_,_,_,o,_,_,e,_⟩:=x;exact Zt e
 | dT kvs=>obtain⟨_,_,_,_,o,_,_,e,_⟩:=x;exact Zt e
 | set S n=>obtain⟨o,_,_,_,e,_⟩:=x;exact Zt e
 | ins C dx fs=>obtain⟨_,_,_,e,_⟩:=x;exact Zt e
 | own y=>obtain⟨_,e⟩:=x;exact Zt e
 | xd fs=>obtain⟨_,⟨_,_,_,e,_⟩,_⟩:=x;exact Zt e
 | rng lo hi=>obtain⟨_,_,_,e⟩:=x;exact Zt e
 | frz ob u=>obtain⟨e,_⟩:=x;exact Zt e
 | tbl ps=>exact Zt (show h.get? a=some _ from x)
 | met f y=>exact Zt (show h.get? a=some _ from x)
 | ext φ=>obtain⟨_,⟨_,e⟩,_⟩:=x;exact Zt e
theorem Paired.QzR{α β:Type}{F G:α->β->Prop}:∀{l₁:List α}{l₂:List β},Paired F l₁ l₂->(∀a b,F a b->G a b)->Paired G l₁ l₂
 | _,_,.nil,_=> .nil
 | _,_,.cons r t,f=> .cons (f _ _ r) (Paired.QzR t f)
theorem Qb6.QgP(x:Qb6 P w H h a o)(k:∀b u,(b=a∨H b=some (.own a))->h.get? b=some u->h'.get? b=some u)
  (ho:∀b,H b=some (.own a)->H' b=some (.own a)) (ht:∀b xs,H b=some (.tup xs)->H' b=some (.tup xs)):Qb6 P w H' h' a o:=by
 induction o with
 | lst xs=>obtain⟨z,its,n,r,e⟩:=x;exact⟨z,its,n,r,k _ _ (.inl rfl) e⟩
 | tup xs=>obtain⟨z,its,r,ob,e,c⟩:=x;exact⟨z,its,r,ob,k _ _ (.inl rfl) e,c⟩
 | dK kvs=>obtain⟨z,y,vs,r,ob,es,ep,e,c⟩:=x;exact⟨z,y,vs,r,ob,es,ep,k _ _ (.inl rfl) e,c⟩
 | dT kvs=>
  obtain⟨z,y,xs,r,ob,es,ep,e,c⟩:=x;exact⟨z,y,xs,Paired.QzR r λp q z=>⟨z.1,ht _ _ z.2.1,z.2.2⟩,ob,es,ep,k _ _ (.inl rfl) e,c⟩
 | set S n=>obtain⟨ob,es,ep,t,e,c⟩:=x;exact⟨ob,es,ep,t,k _ _ (.inl rfl) e,c⟩
 | ins C dx fs=>
  obtain⟨d,z,ne,e,mA,⟨od,es,ep,e2,c⟩,r⟩:=x;exact⟨ho _ d,z,ne,k _ _ (.inl rfl) e,mA,⟨od,es,ep,k _ _ (.inr d) e2,c⟩,r⟩
 | own y=>obtain⟨ob,e⟩:=x;exact⟨ob,k _ _ (.inl rfl) e⟩
 | xd fs=>obtain⟨mA,⟨od,es,ep,e,c⟩,r⟩:=x;exact⟨mA,⟨od,es,ep,k _ _ (.inl rfl) e,c⟩,r⟩
 | rng lo hi=>obtain⟨t,u,v,e⟩:=x;exact⟨t,u,v,k _ _ (.inl rfl) e⟩
 | frz ob u ih=>obtain⟨e,q⟩:=x;exact⟨k _ _ (.inl rfl) e,ih q⟩
 | tbl ps=>
  have e:h.get? a=some {cls:= .none,data:= .fields ps}:=x;show h'.get? a=some {cls:= .none,data:= .fields ps};exact k a _ (.inl rfl) e
 | met f y=>
  have e:h.get? a=some (PySem.W.methodObj (.ref f) (.ref y)):=x;show h'.get? a=some (PySem.W.methodObj (.ref f) (.ref y));exact k a _ (.inl rfl) e
 | ext φ=>obtain⟨p,⟨o,e⟩,st⟩:=x;exact⟨st _ _ p λo q=>k _ _ (.inl rfl) q,⟨o,k _ _ (.inl rfl) e⟩,st⟩
theorem HOk.lt(x:HOk P w H h)(e:H a=some o):a<h.objs.size:=(x a o e).lt
theorem HOk.fresh(x:HOk P w H h)(e:h.objs.size<=a):H a=none:=by
 cases q:H a with
 | none=>rfl
 | some u=>exact absurd (Zp (x.lt q) e) (ZX _)
theorem HOk.kept(x:HOk P w H h)(k:∀b u,h.get? b=some u->h'.get? b=some u):HOk P w H h':=λa o e=>
 (x a o e).QgP (λb u _ q=>k b u q) (λ_ q=>q) λ_ _ q=>q
theorem HOk.laid(x:HOk P w H h)(k:∀b u,h.get? b=some u->h'.get? b=some u)(hp:h.objs.size<=a)(new:Qb6 P w (upd H a o) h' a o):HOk P w (upd H a o) h':=λb u e=>by
 have hn:=x.fresh hp;by_cases hb:b=a
 ·subst hb;rw[Qaa]at e;cases e;exact new
 ·rw[QR hb]at e;exact(x b u e).QgP (λc v _ q=>k c v q) (λc q=>by rw[QR (Qb8 q hn)];exact q) λc xs q=>by rw[QR (Qb8 q hn)];exact q
end
def Rd(H:Hp)(a:Addr)(u:HO):Prop:=H a=some u∨∃o,H a=some (.frz o u)
theorem Rd.ok{P:Program}{w:World}{H:Hp}{h:Heap}{a:Addr}{u:HO}(r:Rd H a u)(x:HOk P w H h):Qb6 P w H h a u:=by
 rcases r with r | ⟨o,r⟩
 ·exact x a u r
 ·obtain⟨_,q⟩:=x a _ r;exact q
noncomputable def Mut:Option HO->Prop
 | some (.lst _)=>True
 | some (.dK _)=>True
 | some (.dT _)=>True
 | some (.set _ _)=>True
 | some (.ins _ _ _)=>True
 | some (.ext _)=>True
 | _=>False
section
variable {P:Program}{w:World}{H:Hp}{h h':Heap}{x e:Addr}{o':HO}
theorem HOk.write(ok:HOk P w H h)(mu:Mut (H x))(he:e=x∨H e=some (.own x))(k:∀b u,b≠e->h.get? b=some u->h'.get? b=some u)(heo:∃u,h'.get? e=some u)
  (new:Qb6 P w (upd H x o') h' x o'):HOk P w (upd H x o') h':=λb u q=>by
 have nown:∀c y,H c=some (.own y)->c≠x:=λc y r z=>by subst z;rw[r]at mu;exact mu
 have ntup:∀c xs,H c=some (.tup xs)->c≠x:=λc xs r z=>by subst z;rw[r]at mu;exact mu
 by_cases hb:b=x
 ·subst hb;rw[Qaa]at q;cases q;exact new
 ·rw[QR hb]at q;by_cases hbe:b=e
  ·have q':H b=some (.own x):=by
    rcases he with z | z
    ·exact absurd (hbe.trans z) hb
    ·rw[hbe];exact z
   rw[q]at q';cases q';obtain⟨v,hv⟩:=heo;exact⟨v,by rw[hbe];exact hv⟩
  ·refine(ok b u q).QgP (λc v hc r=>k c v ?_ r) (λc r=>by rw[QR (nown c b r)];exact r) λc xs r=>by rw[QR (ntup c xs r)];exact r
   rcases hc with rfl | hc
   ·exact hbe
   ·rintro rfl;rcases he with z | z
    ·exact nown c b hc z
    ·rw[hc]at z;cases z;exact hb rfl
end
structure Un (fs ex:LAd) (H H':Hp) (h h':Heap):Prop where
 keep:∀b o,h.get? b=some o->H b=none->b∉fs->b∉ex->h'.get? b=some o
 slot:∀b o,h.get? b=some o->H b=none->b∈fs->b∉ex->∃sl,h'.get? b=some {o with slots:=sl}
 free:∀b o,h.get? b=some o->H b=none->b∉ex->H' b=none
 there:∀b o,h.get? b=some o->b∉ex->∃o',h'.get? b=some o'
 tups:∀b xs,H b=some (.tup xs)->H' b=some (.tup xs)
 frzs:∀b o u,H b=some (.frz o u)->H' b=some (.frz o u)
 tbls:∀b ps,H b=some (.tbl ps)->∃more,H' b=some (.tbl (ps++more))
section
variable {fs fs' ex ex':LAd}{H H1 H2:Hp}{h h1 h2 h':Heap}{a x e:Addr}{o:HO}
theorem Un.any(u:Un fs ex H H1 h h1){b:Addr}{ob:Obj}(q:h.get? b=some ob)(n:H b=none)(hx:b∉ex):∃sl,h1.get? b=some {ob with slots:=sl}:=by
 by_cases hb:b∈fs
 ·exact u.slot b ob q n hb hx
 ·exact⟨ob.slots,u.keep b ob q n hb hx⟩
theorem Un.kept(k:∀b u,h.get? b=some u->h'.get? b=some u):Un fs ex H H h h':=
 ⟨λb ob q _ _ _=>k b ob q,λb ob q _ _ _=>⟨ob.slots,k b ob q⟩,λ_ _ _ n _=>n,λb ob q _=>⟨ob,k b ob q⟩,λ_ _ q=>q,λ_ _ _ q=>q,λ_ ps q=>⟨#[],by rw[q];simp⟩⟩
theorem Un.refl:Un fs ex H H h h:=Un.kept λ_ _ q=>q
theorem Un.laid(k:∀b u,h.get? b=some u->h'.get? b=some u)(hp:h.objs.size<=a)(hn:H a=none):Un fs ex H (upd H a o) h h' where
 keep:=λb u q _ _ _=>k b u q
 slot:=λb u q _ _ _=>⟨u.slots,k b u q⟩
 free:=λb u q n _=>by rw[QR (ZM (Zp (Zt q) hp))];exact n
 there:=λb u q _=>⟨u,k b u q⟩
 tups:=λb xs q=>by rw[QR (Qb8 q hn)];exact q
 frzs:=λb u xs q=>by rw[QR (Qb8 q hn)];exact q
 tbls:=λb ps q=>⟨#[],by rw[QR (Qb8 q hn),q];simp⟩
theorem Un.write(mu:Mut (H x))(he:e=x∨H e=some (.own x))(k:∀b u,b≠e->h.get? b=some u->h'.get? b=some u)(heo:∃u,h'.get? e=some u):Un fs ex H (upd H x o) h h':=by
 have hx:∀b,H b=none->b≠x:=λb n z=>by subst z;rw[n]at mu;exact mu
 have hb:∀b,H b=none->b≠e:=λb n z=>by
  subst z;rcases he with r | r
  ·exact hx b n r
  ·rw[n]at r;cases r
 have hm:∀b u,H b=some u->¬Mut (some u)->b≠x:=λb u q nm z=>by subst z;rw[q]at mu;exact nm mu
 refine⟨λb u q n _ _=>k b u (hb b n) q,λb u q n _ _=>⟨u.slots,k b u (hb b n) q⟩,λb u q n _=>by rw[QR (hx b n)];exact n,λb u q _=>?_,
  λb xs q=>by rw[QR (hm b _ q λz=>z)];exact q,λb u xs q=>by rw[QR (hm b _ q λz=>z)];exact q,λb ps q=>⟨#[],by rw[QR (hm b _ q λz=>z),q];simp⟩⟩
 by_cases hbe:b=e
 ·subst hbe;exact heo
 ·exact⟨u,k b u hbe q⟩
end
noncomputable def trk(h:Heap)(H:Hp):List Addr:=(List.range h.objs.size).filter λa=>(H a).isSome
noncomputable def QhY(h:Heap)(H:Hp):Heap:=PySem.W.hideAll h (trk h H)
theorem QtG(h:Heap)(H:Hp):(QhY h H).objs.size=h.objs.size:=PySem.W.hideAll_size _ _
theorem Qve{h:Heap}{H:Hp}{b:Addr}{o:Obj}(e:h.get? b=some o)(n:H b=none):(QhY h H).get? b=some o:=
 Zbf _ e λhm=>by
  have q:(H b).isSome=true:=(ZaB.mp hm).2;rw[n]at q;simp at q
theorem QyZ{h:Heap}{H:Hp}{b:Addr}{o:Obj}(e:(QhY h H).get? b=some o):h.get? b=some o/\H b=none:=by
 have e':h.get? b=some o:=PySem.W.of_hideAll (trk h H) e;refine⟨e',?_⟩;cases q:H b with
 | none=>rfl
 | some x=>
  have hm:b∈trk h H:=ZaB.mpr ⟨Zg.mpr (Zt e'),by simp[q]⟩;have z:(QhY h H).get? b=none:=PySem.W.hideAll_none (trk h H) hm;rw[z]at e;cases e
structure Mod (K:Fgg) (mg:Str->Option Value) (base:Heap):Prop where
 kin:K.In base
 glob:base.Ns mainGlobals mg
 blt:∃mb,base.Ns builtinsNs mb/\∀x:Str,x≠ "__name__" ->mb x=bootBuiltins x
 nolimit:base.NoLimit
structure Cx where
 prog:Program
 w:World
 K:PySem.W.Frag
 mg:Str->Option Value
 base:Heap
 A:Around
 N:List Str
 s₀:Shared
 H₀:Hp
 env:Env
 outer:List Env
 stack:List Env
 ex:List Addr
 fn:Str->Bool
 calm:Bool
 pn:List (Addr×Obj)
 xe:Value->Shared->Prop
noncomputable def frs(l:List Env):List Addr:=l.filterMap (·.frame)
noncomputable abbrev Cx.fs(X:Cx):List Addr:=frs X.outer
def Vis(sc:Scope)(x:Str):Prop:=sc.names.lookup x=some .local ∨sc.names.lookup x=some .cell∨sc.names.lookup x=some .free
def Loc(sc:Scope)(x:Str):Prop:=sc.names.lookup x=some .local ∨sc.names.lookup x=some .cell
def Look(env:Env)(h:Heap)(m:Str->Option Value)(x:Str)(u:Value):Prop:=
 (env.kindOf x=some .local /\m x=some u)∨((env.kindOf x=some .cell∨env.kindOf x=some .free)/\∃c,env.cells.lookup x=some c/\h.IsCell c (some u))
structure Cx.Ok (X:Cx):Prop where
 mod:Mod X.K X.mg X.base
 kind:X.env.scope.kind= .function
 glob:X.env.globals=mainGlobals
 blt:X.env.builtins=builtinsNs
 above:X.s₀.heap.objs.size<=X.env.locals
 inj:∀x y c,X.env.cells.lookup x=some c->X.env.cells.lookup y=some c->x=y
 has:∀x,(X.env.kindOf x=some .cell∨X.env.kindOf x=some .free)->∃c,X.env.cells.lookup x=some c
 cab:∀x c,X.fn x=true->X.env.cells.lookup x=some c->X.s₀.heap.objs.size<=c
 hd:X.calm=true->X.A.handled=none
 frames:X.A.frames=some X.stack
 stk:X.stack=X.outer∨(X.stack=X.env::X.outer/\X.env.frame=some X.env.locals)
 exf:∀b∈X.ex,b≠X.env.locals/\∀x c,X.env.cells.lookup x=some c->c≠b
 bs:∀b o,X.base.get? b=some o->X.s₀.heap.get? b=some o/\X.H₀ b=none
 bsz:X.base.objs.size<=X.s₀.heap.objs.size
 noex:∀b o,X.base.get? b=some o->b∉X.ex
 exfs:∀b∈X.ex,b∉X.fs
 Qet:X.s₀.heap.FunFrames X.base X.outer
 frf:∀b∈X.fs,X.H₀ b=none
structure Inv (X:Cx) (pins:List (Addr×Obj)) (σ:List (Option V)) (H:Hp) (s:Shared):Prop where
 ok:X.Ok
 os:s.os=X.s₀.os
 bare:AllBare s.gens
 base:Un X.fs X.ex X.H₀ H X.s₀.heap s.heap
 loc:∃m,s.heap.Ns X.env.locals m/\∀(i:Nat) (x:Str) (v:V),X.N[i]? =some x->σ[i]? =some (some v)->Vis X.env.scope x->∃u,RelV v u/\Look X.env s.heap m x u
 cell:∀x c,X.env.cells.lookup x=some c->∃v,s.heap.IsCell c v
 free:H X.env.locals=none
 freeC:∀x c,X.env.cells.lookup x=some c->H c=none
 pin:∀p∈X.pn++pins,s.heap.get? p.1=some p.2/\H p.1=none/\p.1≠X.env.locals/\p.1∉X.fs/\∀v,p.2.data≠ .cell v
 hok:HOk X.prog X.w H s.heap
 len:σ.length=X.N.length
section
variable {X:Cx}{pins:List (Addr×Obj)}{σ:List (Option V)}{H H':Hp}{s:Shared}{h':Heap}
theorem Cx.Ok.QC8(ok:X.Ok){b:Addr}{o:Obj}(e:X.base.get? b=some o):b∉X.fs:=λhb=>by
 have:=(ok.Qet.mem hb).1;rw[e]at this;cases this
theorem Inv.bs(I:Inv X pins σ H s):∀b o,X.base.get? b=some o->s.heap.get? b=some o/\H b=none:=λb o e=>
 ⟨I.base.keep b o (I.ok.bs b o e).1 (I.ok.bs b o e).2 (I.ok.QC8 e) (I.ok.noex b o e),I.base.free b o (I.ok.bs b o e).1 (I.ok.bs b o e).2 (I.ok.noex b o e)⟩
theorem Inv.bk(I:Inv X pins σ H s):∀b o,X.base.get? b=some o->s.heap.get? b=some o:=λb o e=>(I.bs b o e).1
theorem Inv.mod(I:Inv X pins σ H s):Mod X.K X.mg X.base:=I.ok.mod
theorem Inv.kIn(I:Inv X pins σ H s):X.K.In s.heap:=I.ok.mod.kin.keeps I.bk
theorem Inv.lt(I:Inv X pins σ H s):X.env.locals<s.heap.objs.size:=let ⟨_,hn,_⟩:=I.loc;hn.lt
theorem Inv.sz(I:Inv X pins σ H s):X.s₀.heap.objs.size<=s.heap.objs.size:=Zo I.ok.above (Zbc I.lt)
theorem Inv.QCZ(I:Inv X pins σ H s){a:Addr}(h:s.heap.objs.size<=a):a∉X.fs:=λhb=>by
 obtain⟨_,o,ho,_⟩:=I.ok.Qet.mem hb;exact absurd (Zp (Zt ho) (Zo I.sz h)) (ZX _)
theorem Inv.cne(I:Inv X pins σ H s):∀x c,X.env.cells.lookup x=some c->c≠X.env.locals:=λx c e z=>by
 obtain⟨v,o,ho,hd⟩:=I.cell x c e;obtain⟨m,⟨o',es,ep,ho',hd',_⟩,_⟩:=I.loc;rw[z,ho']at ho;cases ho;rw[hd']at hd;cases hd
theorem Inv.Qet(I:Inv X pins σ H s):s.heap.FunFrames X.base X.outer:=by
 have all:∀(l:List Env),(∀b∈frs l,b∈X.fs)->X.s₀.heap.FunFrames X.base l->s.heap.FunFrames X.base l:=by
  intro l
  induction l with
  | nil=>intro _ _;trivial
  | cons env r ih=>
   intro hs hl;obtain⟨hk,⟨L,o,hf,hn,ho,hd⟩,hr⟩:=hl;have hL:L∈X.fs:=hs L (by unfold frs;rw[ZbG,hf];exact Zl);obtain⟨sl,e⟩:=I.base.slot L o ho (I.ok.frf L hL) hL λz=>I.ok.exfs L z hL;exact⟨hk,⟨L,_,hf,hn,e,hd⟩,ih (λb hb=>hs b (by unfold frs;rw[ZbG,hf];exact Zc _ hb)) hr⟩
 exact all X.outer (λ_ hb=>hb) I.ok.Qet
theorem Inv.stack(I:Inv X pins σ H s):s.heap.FunFrames X.base X.stack:=by
 rcases I.ok.stk with e | ⟨e,hf⟩
 ·rw[e];exact I.Qet
 ·rw[e];obtain⟨m,hn,_⟩:=I.loc;refine .cons (by rw[I.ok.kind];decide) hf hn ?_ I.Qet;exact Heap.get?_none_of_le (Zo I.ok.bsz I.ok.above)
theorem Inv.Qf5(I:Inv X pins σ H s):∀b∈frs X.stack,b∈X.env.locals::X.fs:=λb hb=>by
 rcases I.ok.stk with e | ⟨e,hf⟩
 ·rw[e]at hb;exact Zc _ hb
 ·rw[e]at hb;unfold frs at hb;rw[ZbG,hf]at hb;exact hb
theorem Inv.Qns(I:Inv X pins σ H s):∀b∈frs X.stack,H b=none:=λb hb=>by
 rcases Zi.mp (I.Qf5 b hb)with e | hb
 ·rw[e];exact I.free
 ·obtain⟨_,o,ho,_⟩:=I.ok.Qet.mem hb;exact I.base.free b o ho (I.ok.frf b hb) λz=>I.ok.exfs b z hb
theorem Inv.step{g':Array GenState}{t':Nat}{d':Drawn}{ch:LAd}(I:Inv X pins σ H s)
  (hch:∀b∈ch,(b∈X.ex∨X.s₀.heap.objs.size<=b)/\b≠X.env.locals/\(∀x c,X.env.cells.lookup x=some c->c≠b)/\∀p∈X.pn++pins,p.1≠b)
  (keep:∀b o,b≠X.env.locals->b∉X.fs->b∉ch->s.heap.get? b=some o->H b=none->h'.get? b=some o)
  (slot:∀b o,b≠X.env.locals->b∈X.fs->b∉ch->s.heap.get? b=some o->H b=none->∃sl,h'.get? b=some {o with slots:=sl}) (free:∀b o,b∉ch->s.heap.get? b=some o->H b=none->H' b=none)
  (there:∀b o,b∉ch->s.heap.get? b=some o->∃o',h'.get? b=some o')
  (tups:∀b xs,H b=some (.tup xs)->H' b=some (.tup xs)) (frzs:∀b o u,H b=some (.frz o u)->H' b=some (.frz o u)) (tbls:∀b ps,H b=some (.tbl ps)->∃more,H' b=some (.tbl (ps++more)))
  (ns:∀m,s.heap.Ns X.env.locals m->h'.Ns X.env.locals m) (hok:HOk X.prog X.w H' h') (hg:AllBare g'):
  Inv X pins σ H' {s with heap:=h',gens:=g',drawn:=d',toks:=t'}:=by
 have neL:∀b o,X.s₀.heap.get? b=some o->b≠X.env.locals:=λb o e=>ZM (Zp (Zt e) I.ok.above);have neC:∀b o,X.s₀.heap.get? b=some o->b∉X.ex->b∉ch:=λb o e hx hb=>by
  rcases(hch b hb).1 with z | z
  ·exact hx z
  ·exact absurd (Zp (Zt e) z) (ZX _)
 have cellK:∀x c,X.env.cells.lookup x=some c->∀v,s.heap.IsCell c v->h'.IsCell c v:=λx c e v Z=>by
  obtain⟨o,ho,hd⟩:=Z;have nch:c∉ch:=λz=>(hch c z).2.2.1 x c e rfl;by_cases hc:c∈X.fs
  ·obtain⟨sl,q⟩:=slot c o (I.cne x c e) hc nch ho (I.freeC x c e);exact⟨_,q,hd⟩
  ·exact⟨o,keep c o (I.cne x c e) hc nch ho (I.freeC x c e),hd⟩
 refine⟨I.ok,I.os,hg,⟨λb o e n hb hx=>?_,λb o e n hb hx=>?_,λb o e n hx=>?_,λb o e hx=>?_,λb xs e=>tups b xs (I.base.tups b xs e),λb o xs e=>frzs b o xs (I.base.frzs b o xs e),λb ps e=>?_⟩,?_,λx c e=>?_,?_,λx c e=>?_,λp hp=>?_,hok,I.len⟩
 ·exact keep b o (neL b o e) hb (neC b o e hx) (I.base.keep b o e n hb hx) (I.base.free b o e n hx)
 ·obtain⟨sl,e1⟩:=I.base.slot b o e n hb hx;obtain⟨sl',e2⟩:=slot b _ (neL b o e) hb (neC b o e hx) e1 (I.base.free b o e n hx);exact⟨sl',e2⟩
 ·obtain⟨o',e1⟩:=I.base.there b o e hx;exact free b o' (neC b o e hx) e1 (I.base.free b o e n hx)
 ·obtain⟨o',e1⟩:=I.base.there b o e hx;exact there b o' (neC b o e hx) e1
 ·obtain⟨m1,e1⟩:=I.base.tbls b ps e;obtain⟨m2,e2⟩:=tbls b _ e1;exact⟨m1++m2,by rw[e2,Array.append_assoc]⟩
 ·obtain⟨m,hn,hl⟩:=I.loc;refine⟨m,ns m hn,λi x v e1 e2 e3=>?_⟩;obtain⟨u,r,l⟩:=hl i x v e1 e2 e3;refine⟨u,r,?_⟩;rcases l with l | ⟨k,c,e,z⟩
  ·exact .inl l
  ·exact .inr ⟨k,c,e,cellK x c e _ z⟩
 ·obtain⟨v,z⟩:=I.cell x c e;exact⟨v,cellK x c e v z⟩
 ·obtain⟨m,⟨o,_,_,ho,_⟩,_⟩:=I.loc;exact free _ o (λz=>(hch _ z).2.1 rfl) ho I.free
 ·obtain⟨v,o,ho,hd⟩:=I.cell x c e;exact free c o (λz=>(hch c z).2.2.1 x c e rfl) ho (I.freeC x c e)
 ·obtain⟨e,n,ne,nf,d⟩:=I.pin p hp;have nch:p.1∉ch:=λz=>(hch p.1 z).2.2.2 p hp rfl;exact⟨keep p.1 p.2 ne nf nch e n,free p.1 p.2 nch e n,ne,nf,d⟩
theorem Inv.un{t':Nat}(I:Inv X pins σ H s)(u:Un X.fs [] H H' s.heap h')(hok:HOk X.prog X.w H' h'):Inv X pins σ H' {s with heap:=h',toks:=t'}:=by
 obtain⟨m,⟨o,es,ep,ho,r⟩,_⟩:=id I.loc;obtain⟨sl,hL⟩:=u.any ho I.free (by simp);exact I.step (g':=s.gens) (d':=s.drawn) (ch:=[]) (λ_ z=>nomatch z) (λb o _ hb _ e n=>u.keep b o e n hb (by simp)) (λb o _ hb _ e n=>u.slot b o e n hb (by simp)) (λb o _ e n=>u.free b o e n (by simp)) (λb o _ e=>u.there b o e (by simp)) u.tups u.frzs u.tbls (λm' hm=>by
  obtain⟨o',es',ep',ho',r'⟩:=hm;rw[ho]at ho';cases ho';exact⟨_,es',ep',hL,r'⟩) hok I.bare
theorem Inv.call{g':Array GenState}{t':Nat}{d':Drawn}{ch:LAd}(I:Inv X pins σ H s)(u:Un (frs X.stack) ch H H' s.heap h')(hok:HOk X.prog X.w H' h')(hg:AllBare g')
  (hch:∀b∈ch,(b∈X.ex∨X.s₀.heap.objs.size<=b)/\b≠X.env.locals/\(∀x c,X.env.cells.lookup x=some c->c≠b)/\∀p∈X.pn++pins,p.1≠b):
  Inv X pins σ H' {s with heap:=h',gens:=g',drawn:=d',toks:=t'}:=by
 obtain⟨m,⟨o,es,ep,ho,r⟩,_⟩:=id I.loc;obtain⟨sl,hL⟩:=u.any ho I.free λz=>(hch _ z).2.1 rfl;exact I.step (ch:=ch) hch (λb o hL hb hc e n=>u.keep b o e n (λz=>(Zi.mp (I.Qf5 b z)).elim hL hb) hc) (λb o _ _ hc e n=>u.any e n hc) (λb o hc e n=>u.free b o e n hc) (λb o hc e=>u.there b o e hc) u.tups u.frzs u.tbls (λm' hm=>by
  obtain⟨o',es',ep',ho',r'⟩:=hm;rw[ho]at ho';cases ho';exact⟨_,es',ep',hL,r'⟩) hok hg
theorem Inv.turned{t':Nat}{it:Addr}(I:Inv X pins σ H s)(k:∀b o,b≠it->s.heap.get? b=some o->h'.get? b=some o)(hn:H it=none)(hL:it≠X.env.locals)
  (h1:it∈X.ex∨X.s₀.heap.objs.size<=it) (h2:∀x c,X.env.cells.lookup x=some c->c≠it) (h3:∀p∈X.pn++pins,p.1≠it):Inv X pins σ H {s with heap:=h',toks:=t'}:=by
 have nit:∀b u,H b=some u->b≠it:=λb u e z=>by rw[z,hn]at e;cases e
 refine I.step (g':=s.gens) (d':=s.drawn) (ch:=[it]) (λb hb=>?_) (λb o _ _ hc e _=>k b o (λz=>hc (by simp[z])) e) (λb o _ _ hc e _=>⟨o.slots,k b o (λz=>hc (by simp[z])) e⟩) (λ_ _ _ _ n=>n)
  (λb o hc e=>⟨o,k b o (λz=>hc (by simp[z])) e⟩) (λ_ _ e=>e) (λ_ _ _ e=>e) (λb ps e=>⟨#[],by rw[e];simp⟩) (λm hm=>?_) (λb u e=>?_) I.bare
 ·have e:b=it:=by simpa using hb
  subst e;exact⟨h1,hL,h2,h3⟩
 ·obtain⟨o,es,ep,ho,r⟩:=hm;exact⟨o,es,ep,k _ o (Ne.symm hL) ho,r⟩
 ·refine(I.hok b u e).QgP (λc v hc q=>k c v ?_ q) (λ_ q=>q) λ_ _ q=>q;rcases hc with z | z
  ·rw[z];exact nit b u e
  ·exact nit c _ z
theorem Inv.tok(I:Inv X pins σ H s)(t:Nat):Inv X pins σ H {s with toks:=t}:=I.un (h':=s.heap) (t':=t) Un.refl I.hok
theorem Inv.kept{t':Nat}(I:Inv X pins σ H s)(k:∀b u,s.heap.get? b=some u->h'.get? b=some u):Inv X pins σ H {s with heap:=h',toks:=t'}:=I.un (Un.kept k) (I.hok.kept k)
theorem Inv.laid{a:Addr}{o:HO}{t':Nat}(I:Inv X pins σ H s)(k:∀b u,s.heap.get? b=some u->h'.get? b=some u)(hp:s.heap.objs.size<=a)(new:Qb6 X.prog X.w (upd H a o) h' a o):
  Inv X pins σ (upd H a o) {s with heap:=h',toks:=t'}:=I.un (Un.laid k hp (I.hok.fresh hp)) (I.hok.laid k hp new)
theorem Inv.write{x e:Addr}{o:HO}{t':Nat}(I:Inv X pins σ H s)(mu:Mut (H x))(he:e=x∨H e=some (.own x))(k:∀b u,b≠e->s.heap.get? b=some u->h'.get? b=some u)(heo:∃u,h'.get? e=some u)
  (new:Qb6 X.prog X.w (upd H x o) h' x o):Inv X pins σ (upd H x o) {s with heap:=h',toks:=t'}:=I.un (Un.write mu he k heo) (I.hok.write mu he k heo new)
theorem Inv.weak{σ':List (Option V)}(I:Inv X pins σ H s)(hl:σ'.length=σ.length)(w:∀(i:Nat) v,σ'[i]? =some (some v)->σ[i]? =some (some v)):Inv X pins σ' H s:=
 ⟨I.ok,I.os,I.bare,I.base,let ⟨m,hn,hl'⟩:=I.loc;⟨m,hn,λi x v e1 e2 e3=>hl' i x v e1 (w i v e2) e3⟩,I.cell,I.free,I.freeC,I.pin,I.hok,hl.trans I.len⟩
theorem Inv.Qrs{pins':List (Addr×Obj)}(I:Inv X pins σ H s)(h:∀p∈pins',s.heap.get? p.1=some p.2/\H p.1=none/\p.1≠X.env.locals/\p.1∉X.fs/\∀v,p.2.data≠ .cell v):Inv X pins' σ H s:=
 ⟨I.ok,I.os,I.bare,I.base,I.loc,I.cell,I.free,I.freeC,λp hp=>(ZF.mp hp).elim (λz=>I.pin p (Zf _ z)) (h p),I.hok,I.len⟩
theorem Qk2{N:List Str}(hN:N.Nodup){i j:Nat}{x:Str}(a:N[i]? =some x)(b:N[j]? =some x):i=j:=by
 obtain⟨h1,e1⟩:=Zk.mp a;obtain⟨h2,e2⟩:=Zk.mp b;exact(List.getElem_inj hN).mp (e1.trans e2.symm)
theorem QnQ{M:Model}{A:Around}{E:Value->Shared->Prop}{i:Nat}{x:Str}{v:V}{u:Value}{Q:Unit->Shared->Prop}(I:Inv X pins σ H s)(hN:X.N.Nodup)(hi:X.N[i]? =some x)(hx:Loc X.env.scope x)(r:RelV v u)
  (h:∀s',Inv X pins (σ.set i (some v)) H s'->(∃a,Heap.SameBut a s.heap s'.heap/\(a=X.env.locals∨X.env.cells.lookup x=some a))->Q () s') (hf:X.fn x=true∨X.env.scope.names.lookup x=some .local :=by first | exact .inl rfl | exact .inr rfl | assumption):wpAny M A (storeName X.env x u) Q E s:=by
 obtain⟨m,hn,hl⟩:=id I.loc;have hcls:(X.env.scope.kind == .class || (X.env.scope.kind == .module && X.env.locals != X.env.globals))=false:=by rw[I.ok.kind];rfl
 have hiσ:i<σ.length:=by rw[I.len];exact(Zk.mp hi).1
 have cne:=I.cne;have tracked:∀{a:Addr}{h':Heap},(∃o,s.heap.get? a=some o/\H a=none)->Heap.SameBut a s.heap h'->HOk X.prog X.w H h':=λ{a h'} ha hs b ob e=>by
  obtain⟨_,_,hfree⟩:=ha;refine(I.hok b ob e).QgP (λc w' hc q=>(hs.2 c ?_).trans q) (λ_ q=>q) λ_ _ q=>q;rintro rfl;rcases hc with rfl | hc
  ·rw[hfree]at e;cases e
  ·rw[hfree]at hc;cases hc
 rcases hx with hk | hk
 ·refine wpAny_storeName_local hk hn (λh' hn' hs=>?_) hcls;obtain⟨oL,_,_,hoL,_⟩:=id hn;refine h _ ⟨I.ok,I.os,I.bare,⟨λb o e n hb hx=>?_,λb o e n hb hx=>?_,I.base.free,λb o e hx=>?_,I.base.tups,I.base.frzs,I.base.tbls⟩,⟨_,hn',λj y v' e1 e2 e3=>?_⟩,λy c e=>?_,I.free,I.freeC,λp hp=>?_,tracked ⟨oL,hoL,I.free⟩ hs,by simpa using I.len⟩ ⟨_,hs,.inl rfl⟩
  ·exact(hs.2 b (ZM (Zp (Zt e) I.ok.above))).trans (I.base.keep b o e n hb hx)
  ·obtain⟨sl,e1⟩:=I.base.slot b o e n hb hx;exact⟨sl,(hs.2 b (ZM (Zp (Zt e) I.ok.above))).trans e1⟩
  ·obtain⟨o',e1⟩:=I.base.there b o e hx;exact⟨o',(hs.2 b (ZM (Zp (Zt e) I.ok.above))).trans e1⟩
  ·by_cases hj:j=i
   ·subst hj;rw[hi]at e1;cases e1;rw[Zn hiσ]at e2;cases e2;exact⟨u,r,.inl ⟨hk,by simp⟩⟩
   ·rw[Zd (Ne.symm hj)]at e2;obtain⟨u',r',q⟩:=hl j y v' e1 e2 e3;refine⟨u',r',?_⟩;rcases q with⟨k,e⟩ | ⟨k,c,e,z⟩
    ·refine .inl ⟨k,?_⟩;have:y≠x:=λe=>hj (Qk2 hN e1 (e▸hi));simp[this,e]
    ·exact .inr ⟨k,c,e,z.sameBut hs (cne y c e)⟩
  ·obtain⟨w',z⟩:=I.cell y c e;exact⟨w',z.sameBut hs (cne y c e)⟩
  ·obtain⟨e,n,ne,nf,d⟩:=I.pin p hp;exact⟨(hs.2 p.1 ne).trans e,n,ne,nf,d⟩
 ·have hfn:X.fn x=true:=by
   rcases hf with z | z
   ·exact z
   ·rw[z]at hk;cases hk
  obtain⟨c,hc⟩:=I.ok.has x (.inl hk);obtain⟨w',z⟩:=I.cell x c hc;refine wpAny_storeName_cell I.ok.kind hk hc z (λh' hc' hs=>?_);obtain⟨oc,hoc,hocd⟩:=id z;refine h {s with heap:=h'} ⟨I.ok,I.os,I.bare,⟨λb o e n hb hx=>?_,λb o e n hb hx=>?_,I.base.free,λb o e hx=>?_,I.base.tups,I.base.frzs,I.base.tbls⟩,⟨m,hn.sameBut hs (Ne.symm (cne x c hc)),λj y v' e1 e2 e3=>?_⟩,λy c' e=>?_,I.free,I.freeC,λp hp=>?_,tracked ⟨oc,hoc,I.freeC x c hc⟩ hs,by simpa using I.len⟩ ⟨c,hs,.inr hc⟩
  ·exact(hs.2 b (ZM (Zp (Zt e) (I.ok.cab x c hfn hc)))).trans (I.base.keep b o e n hb hx)
  ·obtain⟨sl,e1⟩:=I.base.slot b o e n hb hx;exact⟨sl,(hs.2 b (ZM (Zp (Zt e) (I.ok.cab x c hfn hc)))).trans e1⟩
  ·obtain⟨o',e1⟩:=I.base.there b o e hx;exact⟨o',(hs.2 b (ZM (Zp (Zt e) (I.ok.cab x c hfn hc)))).trans e1⟩
  ·by_cases hj:j=i
   ·subst hj;rw[hi]at e1;cases e1;rw[Zn hiσ]at e2;cases e2;exact⟨u,r,.inr ⟨.inl hk,c,hc,hc'⟩⟩
   ·rw[Zd (Ne.symm hj)]at e2;obtain⟨u',r',q⟩:=hl j y v' e1 e2 e3;refine⟨u',r',?_⟩;rcases q with q | ⟨k,c',e,z'⟩
    ·exact .inl q
    ·refine .inr ⟨k,c',e,z'.sameBut hs ?_⟩;rintro rfl;exact hj (Qk2 hN e1 (I.ok.inj _ _ _ e hc▸hi))
  ·by_cases hcc:c'=c
   ·subst hcc;exact⟨_,hc'⟩
   ·obtain⟨w2,z2⟩:=I.cell y c' e;exact⟨w2,z2.sameBut hs hcc⟩
  ·obtain⟨e,n,ne,nf,d⟩:=I.pin p hp;refine⟨(hs.2 p.1 ?_).trans e,n,ne,nf,d⟩;intro q;rw[q,hoc]at e;have q':oc=p.2:=Option.some.inj e;exact d w' (by rw[← q'];exact hocd)
theorem QhJ{M:Model}{A:Around}{E:Value->Shared->Prop}{i:Nat}{x:Str}{v:V}{u:Value}{Q:Unit->Shared->Prop}(I:Inv X pins σ H s)(hN:X.N.Nodup)(hi:X.N[i]? =some x)(hx:Loc X.env.scope x)(r:RelV v u)
  (h:∀s',Inv X pins (σ.set i (some v)) H s'->Q () s') (hf:X.fn x=true∨X.env.scope.names.lookup x=some .local :=by first | exact .inl rfl | exact .inr rfl | assumption):wpAny M A (storeName X.env x u) Q E s:=
 QnQ I hN hi hx r (λs' I' _=>h s' I') hf
theorem Inv.QxB{s':Shared}{ch:LAd}(I:Inv X pins σ H s)(ho:s'.os=s.os)(u:Un (frs X.stack) ch H H' s.heap s'.heap)(hok:HOk X.prog X.w H' s'.heap)(hg:AllBare s'.gens)
  (hch:∀b∈ch,(b∈X.ex∨X.s₀.heap.objs.size<=b)/\b≠X.env.locals/\(∀x c,X.env.cells.lookup x=some c->c≠b)/\∀p∈X.pn++pins,p.1≠b):Inv X pins σ H' s':=by
 obtain⟨h',g',d',t',o'⟩:=s';have e:o'=s.os:=ho;subst e;exact I.call (g':=g') (t':=t') (d':=d') u hok hg hch
end
noncomputable abbrev XK:=Value->Option Addr->Hp->Prop
noncomputable abbrev St:=List (Option V)
noncomputable abbrev VK:=V->Hp->Prop
noncomputable abbrev TE:=St->Hp->VK->Prop
noncomputable abbrev TT:=St->Hp->(Bool->Hp->Prop)->Prop
noncomputable abbrev TA:=St->Hp->(List V->Hp->Prop)->Prop
structure Ends where
 nx:St->Hp->Prop
 rt:VK
 bk:St->Hp->Prop:=λ_ _=>False
 ct:St->Hp->Prop:=λ_ _=>False
noncomputable abbrev TS:=Ends->St->Hp->Prop
def EP(X:Cx)(pins:List (Addr×Obj))(σ:St)(Q:VK)(u:Value)(s':Shared):Prop:=∃v H',Inv X pins σ H' s'/\RelV v u/\Q v H'
def TP(X:Cx)(pins:List (Addr×Obj))(σ:St)(Q:Bool->Hp->Prop)(b:Bool)(s':Shared):Prop:=∃H',Inv X pins σ H' s'/\Q b H'
def AP(X:Cx)(pins:List (Addr×Obj))(σ:St)(Q:List V->Hp->Prop)(us:List Value)(s':Shared):Prop:=∃vs H',Inv X pins σ H' s'/\QM vs us/\Q vs H'
def SP(X:Cx)(pins:List (Addr×Obj))(D:Ends)(f:Flow)(s':Shared):Prop:=
 match f with
 | .next=>∃σ' H',Inv X pins σ' H' s'/\D.nx σ' H'
 | .brk=>∃σ' H',Inv X pins σ' H' s'/\D.bk σ' H'
 | .cont=>∃σ' H',Inv X pins σ' H' s'/\D.ct σ' H'
 | .ret u=>∃v σ' H',Inv X pins σ' H' s'/\RelV v u/\D.rt v H'
def PE(X:Cx)(e:Expr)(t:TE):Prop:=
 ∀(pins:List (Addr×Obj)) (s:Shared) (σ:St) (H:Hp) (Q:VK),Inv X pins σ H s->t σ H Q->wpAny (model X.prog X.w) X.A (eval e X.env) (EP X pins σ Q) X.xe s
def PT(X:Cx)(e:Expr)(t:TT):Prop:=
 ∀(pins:List (Addr×Obj)) (s:Shared) (σ:St) (H:Hp) (Q:Bool->Hp->Prop),Inv X pins σ H s->t σ H Q->wpAny (model X.prog X.w) X.A (isTrue e X.env (eval e X.env)) (TP X pins σ Q) X.xe s
def PW(X:Cx)(e:Expr)(t:TT):Prop:=
 ∀(whole:Sem Value) (pins:List (Addr×Obj)) (s:Shared) (σ:St) (H:Hp) (Q:Bool->Hp->Prop),Inv X pins σ H s->t σ H Q->wpAny (model X.prog X.w) X.A (isTrue e X.env whole) (TP X pins σ Q) X.xe s
theorem PW.pt{X:Cx}{e:Expr}{t:TT}(h:PW X e t):PT X e t:=h _
def PA(X:Cx)(es:List Expr)(t:TA):Prop:=
 ∀(pos:Pos) (pins:List (Addr×Obj)) (s:Shared) (σ:St) (H:Hp) (Q:List V->Hp->Prop),Inv X pins σ H s->t σ H Q->wpAny (model X.prog X.w) X.A (spliced (backTo pos (starEach es X.env))) (AP X pins σ Q) X.xe s
def PS(X:Cx)(st:Stmt)(t:TS):Prop:=
 ∀(pins:List (Addr×Obj)) (s:Shared) (σ:St) (H:Hp) (D:Ends),Inv X pins σ H s->t D σ H->wpAny (model X.prog X.w) X.A (exec st X.env) (SP X pins D) X.xe s
def PSs(X:Cx)(st:List Stmt)(t:TS):Prop:=
 ∀(pins:List (Addr×Obj)) (s:Shared) (σ:St) (H:Hp) (D:Ends),Inv X pins σ H s->t D σ H->wpAny (model X.prog X.w) X.A (execs st X.env) (SP X pins D) X.xe s
theorem thn{α:Type}{t:Sem α}{Q Q':α->Shared->Prop}{M:Model}{A:Around}{E:Value->Shared->Prop}{s:Shared}(h:wpAny M A t Q E s)(hQ:∀a s,Q a s->Q' a s):wpAny M A t Q' E s:=wpAny_mono h hQ λ_ _ x=>x
section
variable {X:Cx}
noncomputable def QgO(i:Nat):TE:=λσ H Q=>∃v,σ[i]? =some (some v)/\Q v H
noncomputable def tC(v:V):TE:=λ_ H Q=>Q v H
theorem QBb{i:Nat}{x:Str}{pos:Pos}(hN:X.N[i]? =some x)(hv:Vis X.env.scope x)(hd:(x == ("__debug__" :Str))=false:=by decide)(hcd:(x == ("__classdict__" :Str))=false:=by decide):PE X (.Name x pos) (QgO i):=by
 intro pins s σ H Q I h;obtain⟨v,e,h⟩:=h;obtain⟨m,hn,hl⟩:=I.loc;obtain⟨u,r,l⟩:=hl i x v hN e hv;have fin:EP X pins σ Q u s:=⟨v,H,I,r,h⟩;rcases l with⟨hk,hm⟩ | ⟨hk,c,hc,hcell⟩
 ·exact wpAny_Name (wpAny_loadName_local I.ok.kind hk hn hm fin) hd
 ·rcases hk with hk | hk
  ·exact wpAny_Name (wpAny_loadName_cell I.ok.kind hk hc hcell fin) hd
  ·exact wpAny_Name (wpAny_loadName_free I.ok.kind hk hc hcell fin hcd) hd
theorem QAH{i j pos}:PE X (.Constant (.int i) j pos) (tC (.int i)):=λ_ _ _ H _ I h=>wpAny_Constant_int ⟨.int i,H,I.tok _,⟨_,rfl⟩,h⟩
theorem Qxm{b j pos}:PE X (.Constant (.bool b) j pos) (tC (.bl b)):=λ_ _ _ H _ I h=>Constant_bool ⟨.bl b,H,I,rfl,h⟩
theorem QAD{j pos}:PE X (.Constant .none j pos) (tC .non):=λ_ _ _ H _ I h=>Constant_none ⟨.non,H,I,rfl,h⟩
theorem QtZ{x j pos}:PE X (.Constant (.str x) j pos) (tC (.str x)):=λ_ _ _ H _ I h=>Calls.Constant_str ⟨.str x,H,I.tok _,⟨_,rfl⟩,h⟩
def Gl(X:Cx)(x:Str):Prop:=X.env.kindOf x=some .globalImplicit
theorem QfI{E:Value->Shared->Prop}{pins:List (Addr×Obj)}{s:Shared}{σ:St}{H:Hp}{x:Str}{u:Value}{pos:Pos}{Q:Value->Shared->Prop}(I:Inv X pins σ H s)(hg:Gl X x)(hm:X.mg x=some u)(h:Q u s)
  (hd:(x == ("__debug__" :Str))=false:=by decide):wpAny (model X.prog X.w) X.A (eval (.Name x pos) X.env) Q E s:=
 Calls.Name_function_global I.ok.kind hg (Calls.loadGlobal_global (by rw[I.ok.glob];exact I.mod.glob.keeps I.bk) hm h) hd
theorem Qdx{E:Value->Shared->Prop}{pins:List (Addr×Obj)}{s:Shared}{σ:St}{H:Hp}{x:Str}{u:Value}{pos:Pos}{Q:Value->Shared->Prop}(I:Inv X pins σ H s)(hg:Gl X x)(hm:X.mg x=none)(hv:bootBuiltins x=some u)(h:Q u s)
  (hn:x≠ "__name__" :=by decide) (hd:(x == ("__debug__" :Str))=false:=by decide):wpAny (model X.prog X.w) X.A (eval (.Name x pos) X.env) Q E s:=by
 obtain⟨mb,h1,h2⟩:=I.mod.blt;exact Calls.Name_function_global I.ok.kind hg (Calls.loadGlobal_builtin (by rw[I.ok.glob];exact I.mod.glob.keeps I.bk) hm (by rw[I.ok.blt];exact h1.keeps I.bk) ((h2 x hn).trans hv) h) hd
theorem QxH{x:Str}{v:V}{u:Value}{pos:Pos}(hg:Gl X x)(hm:X.mg x=some u)(r:RelV v u)(hd:(x == ("__debug__" :Str))=false:=by decide):PE X (.Name x pos) (tC v):=
 λ_ _ _ H _ I h=>QfI I hg hm ⟨v,H,I,r,h⟩ hd
theorem Qhn{x:Str}{v:V}{u:Value}{pos:Pos}(hg:Gl X x)(hm:X.mg x=none)(hv:bootBuiltins x=some u)(r:RelV v u)(hn:x≠ "__name__" :=by decide)(hd:(x == ("__debug__" :Str))=false:=by decide):PE X (.Name x pos) (tC v):=
 λ_ _ _ H _ I h=>Qdx I hg hm hv ⟨v,H,I,r,h⟩ hn hd
variable {a b:Expr}{ta tb:TE}{pos:Pos}
variable {tA tB':TT}{rest:List Expr}
noncomputable def QCX(t u:TT):TT:=λσ H Q=>t σ H λc H1=>if c=true then u σ H1 Q else Q false H1
noncomputable def tOr(t u:TT):TT:=λσ H Q=>t σ H λc H1=>if c=true then Q true H1 else u σ H1 Q
noncomputable def QDc(t:TT):TT:=λσ H Q=>t σ H λc H1=>Q (!c) H1
theorem Qyf(ha:PT X a tA):PW X (.BoolOp .And [a] pos) tA:=by
 intro wh pins s σ H Q I h;refine isTrue_and (thn (ha pins s σ H Q I h) λc s1 e=>?_);cases c with
 | true=>exact isTrue_and_nil e
 | false=>exact e
theorem QBk(ha:PT X a tA):PW X (.BoolOp .Or [a] pos) tA:=by
 intro wh pins s σ H Q I h;refine isTrue_or (thn (ha pins s σ H Q I h) λc s1 e=>?_);cases c with
 | false=>exact isTrue_or_nil e
 | true=>exact e
theorem QzJ(ha:PT X a tA)(hb:PW X (.BoolOp .And (b::rest) pos) tB'):PW X (.BoolOp .And (a::b::rest) pos) (QCX tA tB'):=by
 intro wh pins s σ H Q I h;refine isTrue_and (thn (ha pins s σ H _ I h) λc s1 Z=>?_);obtain⟨H1,I1,q1⟩:=Z;cases c with
 | true=>exact hb wh pins s1 σ H1 Q I1 q1
 | false=>exact⟨H1,I1,q1⟩
theorem QCD(ha:PT X a tA)(hb:PW X (.BoolOp .Or (b::rest) pos) tB'):PW X (.BoolOp .Or (a::b::rest) pos) (tOr tA tB'):=by
 intro wh pins s σ H Q I h;refine isTrue_or (thn (ha pins s σ H _ I h) λc s1 Z=>?_);obtain⟨H1,I1,q1⟩:=Z;cases c with
 | true=>exact⟨H1,I1,q1⟩
 | false=>exact hb wh pins s1 σ H1 Q I1 q1
theorem QAn(ha:PT X a tA):PT X (.UnaryOp .Not a pos) (QDc tA):=by
 intro pins s σ H Q I h;exact isTrue_not (ha pins s σ H (λc H1=>Q (!c) H1) I h)
theorem QA0{op}{t:TE}(h:PE X a t):PE X (.BoolOp op [a] pos) t:=λpins s σ H Q I hw=>BoolOp_one (h pins s σ H Q I hw)
noncomputable def tIf(t:TT)(ta tb:TE):TE:=λσ H Q=>t σ H λc H1=>if c=true then ta σ H1 Q else tb σ H1 Q
theorem Qv5{c:Expr}(hc:PT X c tA)(ha:PE X a ta)(hb:PE X b tb):PE X (.IfExp c a b pos) (tIf tA ta tb):=by
 intro pins s σ H Q I h;refine wpAny_IfExp (thn (hc pins s σ H _ I h) λd s1 Z=>?_);obtain⟨H1,I1,q1⟩:=Z;cases d with
 | true=>exact ha pins s1 σ H1 Q I1 q1
 | false=>exact hb pins s1 σ H1 Q I1 q1
end
def SqL(K:Fgg)(H:Hp)(a:Addr)(xs:List V):Prop:=
 Rd H a (.lst xs)∨
  ∃(o:Obj) (its:Array Value) (n:Nat),K.lookup a=some o/\o.cls= .type "list" /\o.dict=none/\o.data= .seq its n/\its.size<=sizeLine/\QM xs its.toList
def SqT(K:Fgg)(H:Hp)(a:Addr)(xs:List V):Prop:=
 Rd H a (.tup xs)∨
  ∃(o:Obj) (its:Array Value) (n:Nat),K.lookup a=some o/\o.cls= .type "tuple" /\o.data= .seq its n/\its.size<=sizeLine/\QM xs its.toList
noncomputable def QDt:Value->Option V
 | .none=>some .non
 | .bool b=>some (.bl b)
 | .int i _=>some (.int i)
 | .str x _=>some (.str x)
 | .bytes b _=>some (.byt b)
 | .float b _=>some (.flt b)
 | .ref a=>some (.ref a)
 | .type n=>some (.ty n)
 | _=>none
theorem RelV.abs{x:V}{u:Value}(r:RelV x u):QDt u=some x:=by
 cases x with
 | non=>cases r;rfl
 | bl _=>cases r;rfl
 | int _=>obtain⟨t,rfl⟩:=r;rfl
 | str _=>obtain⟨t,rfl⟩:=r;rfl
 | byt _=>obtain⟨t,rfl⟩:=r;rfl
 | flt _=>obtain⟨t,rfl⟩:=r;rfl
 | ref _=>cases r;rfl
 | ty _=>cases r;rfl
theorem RelV.inj{x y:V}{u:Value}(r:RelV x u)(q:RelV y u):x=y:=Option.some.inj (r.abs.symm.trans q.abs)
theorem QM.inj:∀{xs ys:List V}{us:List Value},QM xs us->QM ys us->xs=ys
 | _,_,_,.nil,.nil=>rfl
 | _,_,_,.cons r t,.cons r' t'=>by rw[r.inj r',QM.inj t t']
section
variable {X:Cx}{pins:List (Addr×Obj)}{σ:St}{H:Hp}{s:Shared}{a:Addr}{xs ys:List V}
theorem SqL.of{K:Fgg}(h:H a=some (.lst xs)):SqL K H a xs:= .inl (.inl h)
theorem SqT.of{K:Fgg}(h:H a=some (.tup xs)):SqT K H a xs:= .inl (.inl h)
theorem Inv.list(I:Inv X pins σ H s)(h:SqL X.K H a xs):∃its:List Value,QM xs its/\PlainL s.heap a its.toArray/\xs.length<=sizeLine:=by
 rcases h with h | ⟨o,its,n,hk,hc,hd,hs,hz,r⟩
 ·obtain⟨z,its,n,r,e⟩:=h.ok I.hok;exact⟨its,r,⟨_,n,e,rfl,rfl,rfl⟩,z⟩
 ·refine⟨its.toList,r,⟨o,n,I.kIn a o hk,hc,hd,by simpa using hs⟩,?_⟩;have e:=r.length;simp only[Zag]at e;omega
theorem Inv.tuple(I:Inv X pins σ H s)(h:SqT X.K H a xs):∃its:List Value,QM xs its/\IsTup s.heap a its.toArray/\xs.length<=sizeLine:=by
 rcases h with h | ⟨o,its,n,hk,hc,hs,hz,r⟩
 ·obtain⟨z,its,r,p⟩:=h.ok I.hok;exact⟨its,r,p,z⟩
 ·refine⟨its.toList,r,⟨o,I.kIn a o hk,hc,n,by simpa using hs⟩,?_⟩;have e:=r.length;simp only[Zag]at e;omega
theorem Inv.QdP(I:Inv X pins σ H s)(h:SqL X.K H a xs)(h':SqL X.K H a ys):xs=ys:=by
 obtain⟨its,r,⟨o,n,e,_,_,d⟩,_⟩:=I.list h;obtain⟨its',r',⟨o',n',e',_,_,d'⟩,_⟩:=I.list h';rw[e]at e';cases e';rw[d]at d';injection d' with d1 _;have:its=its':=by simpa using congrArg Array.toList d1
 subst this;exact r.inj r'
theorem Inv.Qt9(I:Inv X pins σ H s)(h:SqT X.K H a xs)(h':SqT X.K H a ys):xs=ys:=by
 obtain⟨its,r,⟨o,e,_,n,d⟩,_⟩:=I.tuple h;obtain⟨its',r',⟨o',e',_,n',d'⟩,_⟩:=I.tuple h';rw[e]at e';cases e';rw[d]at d';injection d' with d1 _;have:its=its':=by simpa using congrArg Array.toList d1
 subst this;exact r.inj r'
end
noncomputable abbrev Cx.QfX(X:Cx)(E:Value->Shared->Prop):Cx:={X with xe:=E}
noncomputable abbrev Cx.nox(X:Cx):Cx:=X.QfX λ_ _=>False
theorem Cx.Ok.QfX{X:Cx}(ok:X.Ok)(E:Value->Shared->Prop):(X.QfX E).Ok:=
 ⟨ok.mod,ok.kind,ok.glob,ok.blt,ok.above,ok.inj,ok.has,ok.cab,ok.hd,ok.frames,ok.stk,ok.exf,ok.bs,ok.bsz,ok.noex,ok.exfs,ok.Qet,ok.frf⟩
theorem Cx.Ok.Qfd{X:Cx}{E:Value->Shared->Prop}(ok:(X.QfX E).Ok):X.Ok:=
 ⟨ok.mod,ok.kind,ok.glob,ok.blt,ok.above,ok.inj,ok.has,ok.cab,ok.hd,ok.frames,ok.stk,ok.exf,ok.bs,ok.bsz,ok.noex,ok.exfs,ok.Qet,ok.frf⟩
section
variable {X:Cx}{pins:List (Addr×Obj)}{σ:St}{H:Hp}{s:Shared}{E:Value->Shared->Prop}
theorem Inv.QfX(I:Inv X pins σ H s)(E:Value->Shared->Prop):Inv (X.QfX E) pins σ H s:=⟨I.ok.QfX E,I.os,I.bare,I.base,I.loc,I.cell,I.free,I.freeC,I.pin,I.hok,I.len⟩
theorem Inv.Qfd(I:Inv (X.QfX E) pins σ H s):Inv X pins σ H s:=⟨I.ok.Qfd,I.os,I.bare,I.base,I.loc,I.cell,I.free,I.freeC,I.pin,I.hok,I.len⟩
theorem SP.Qfd{D:Ends}{f:Flow}{s':Shared}(h:SP (X.QfX E) pins D f s'):SP X pins D f s':=by
 cases f with
 | next=>obtain⟨σ',H',I,q⟩:=h;exact⟨σ',H',I.Qfd,q⟩
 | brk=>obtain⟨σ',H',I,q⟩:=h;exact⟨σ',H',I.Qfd,q⟩
 | cont=>obtain⟨σ',H',I,q⟩:=h;exact⟨σ',H',I.Qfd,q⟩
 | ret u=>obtain⟨v,σ',H',I,r,q⟩:=h;exact⟨v,σ',H',I.Qfd,r,q⟩
theorem PSs.nox{st:List Stmt}{t:TS}(h:PSs X.nox st t):PSs X st t:=λpins s σ H D I hw=>
 wpAny_mono (h pins s σ H D (I.QfX _) hw) (λ_ _ q=>q.Qfd) λ_ _ z=>False.elim z
end
section
variable {X:Cx}{st:Stmt}{rest:List Stmt}{t u:TS}{e:Expr}{te:TE}{pos:Pos}
noncomputable def QsI:TS:=λD σ H=>D.nx σ H
noncomputable def Qwc(t u:TS):TS:=λD σ H=>t {D with nx:=u D} σ H
theorem QyF:PSs X [] QsI:=λ_ _ σ H _ I h=>wpAny_execs_nil ⟨σ,H,I,h⟩
theorem Qce(h1:PS X st t)(h2:PSs X rest u):PSs X (st::rest) (Qwc t u):=by
 intro pins s σ H D I h;refine wpAny_execs_cons (thn (h1 pins s σ H {D with nx:=u D} I h) λf s1 q=>?_);cases f with
 | next=>
  obtain⟨σ',H',I',q⟩:=q;exact h2 pins s1 σ' H' D I' q
 | ret v=>exact q
 | brk=>exact q
 | cont=>exact q
noncomputable def QAS:TS:=λD σ H=>D.bk σ H
noncomputable def QCi:TS:=λD σ H=>D.ct σ H
theorem Qyu:PS X (.Pass pos) QsI:=λ_ _ σ H _ I h=>wpAny_Pass ⟨σ,H,I,h⟩
theorem QvS:PS X (.Break pos) QAS:=λ_ _ σ H _ I h=>wpAny_Break ⟨σ,H,I,h⟩
theorem QqO:PS X (.Continue pos) QCi:=λ_ _ σ H _ I h=>wpAny_Continue ⟨σ,H,I,h⟩
theorem Inv.quiet{pins:List (Addr×Obj)}{σ:St}{H:Hp}{s:Shared}(I:Inv X pins σ H s):interactive X.env=false:=by simp[interactive,I.ok.kind]
theorem QAO{x j pos pos'}:PS X (.Expr (.Constant (.str x) j pos) pos') QsI:=λ_ s σ H _ I h=>wpAny_Expr (Calls.Constant_str (show SP X _ _ .next {s with toks:=s.toks+1}from⟨σ,H,I.tok _,h⟩)) I.quiet
noncomputable def Qss(te:TE):TS:=λD σ H=>te σ H λ_ H1=>D.nx σ H1
theorem Qm2(he:PE X e te)(hs:swapsWith e none pos.line X.env=pure false:=by rfl):PS X (.Expr e pos) (Qss te):=by
 intro pins s σ H D I h;exact wpAny_Expr_any (thn (he pins s σ H _ I h) λv s1 ⟨x,H1,I1,r1,q1⟩=>⟨σ,H1,I1,q1⟩) I.quiet hs
noncomputable def QC3(te:TE):TS:=λD σ H=>te σ H D.rt
theorem QuC(he:PE X e te):PS X (.Return (some e) pos) (QC3 te):=by
 intro pins s σ H D I h;exact wpAny_Return_some (thn (he pins s σ H _ I h) λv s1 ⟨x,H1,I1,r1,q1⟩=>⟨x,σ,H1,I1,r1,q1⟩)
noncomputable def QDI(c:TT)(t u:TS):TS:=λD σ H=>c σ H λb H1=>if b=true then t D σ H1 else u D σ H1
theorem Qxz{c:Expr}{a b:List Stmt}{tc:TT}(hc:PT X c tc)(ha:PSs X a t)(hb:PSs X b u):PS X (.If c a b pos) (QDI tc t u):=by
 intro pins s σ H D I h;refine wpAny_If (thn (hc pins s σ H _ I h) λd s1 Z=>?_);obtain⟨H1,I1,q1⟩:=Z;cases d with
 | true=>exact ha pins s1 σ H1 D I1 q1
 | false=>exact hb pins s1 σ H1 D I1 q1
noncomputable def QA3:TS:=λ_ _ _=>False
theorem QvR:PS X st QA3:=λ_ _ _ _ _ _ h=>h.elim
end
noncomputable abbrev TG:=V->St->Hp->(St->Hp->Prop)->Prop
noncomputable abbrev TGs:=List V->St->Hp->(St->Hp->Prop)->Prop
def PG(X:Cx)(target:Expr)(t:TG):Prop:=
 ∀(pins:List (Addr×Obj)) (s:Shared) (σ:St) (H:Hp) (v:V) (u:Value) (Q:St->Hp->Prop),Inv X pins σ H s->RelV v u->t v σ H Q→
  wpAny (model X.prog X.w) X.A (assign target X.env u) (λ_ s'=>∃σ' H',Inv X pins σ' H' s'/\Q σ' H') X.xe s
def PGs(X:Cx)(ts:List Expr)(t:TGs):Prop:=
 ∀(pins:List (Addr×Obj)) (s:Shared) (σ:St) (H:Hp) (vs:List V) (us:List Value) (Q:St->Hp->Prop),Inv X pins σ H s->QM vs us->t vs σ H Q→
  wpAny (model X.prog X.w) X.A (assignInOrder ((assignEach ts X.env).map (·.2)) us) (λ_ s'=>∃σ' H',Inv X pins σ' H' s'/\Q σ' H') X.xe s
noncomputable abbrev Qqi:=V->V->V->Hp->(Hp->Prop)->Prop
def Qv3(X:Cx)(t:Qqi):Prop:=
 ∀(pins:List (Addr×Obj)) (s:Shared) (σ:St) (H:Hp) (o i v:V) (ov iv u:Value) (Q:Hp->Prop),Inv X pins σ H s->RelV o ov->RelV i iv->RelV v u->t o i v H Q→
  wpAny (model X.prog X.w) X.A (setItem ov iv u) (λ_ s'=>∃H',Inv X pins σ H' s'/\Q H') X.xe s
noncomputable abbrev TIp:=V->V->Hp->VK->Prop
def PIp(X:Cx)(op:Operator)(t:TIp):Prop:=
 ∀(pins:List (Addr×Obj)) (s:Shared) (σ:St) (H:Hp) (x y:V) (v u:Value) (Q:VK),Inv X pins σ H s->RelV x v->RelV y u->t x y H Q→
  wpAny (model X.prog X.w) X.A (inplaceOp op v u) (EP X pins σ Q) X.xe s
section
variable {X:Cx}{pos:Pos}
noncomputable def Qgy(i:Nat):TG:=λv σ H Q=>Q (σ.set i (some v)) H
theorem QqT{i:Nat}{x:Str}(hN:X.N.Nodup)(hi:X.N[i]? =some x)(hx:Loc X.env.scope x)(hf:X.fn x=true∨X.env.scope.names.lookup x=some .local :=by first | exact .inl rfl | exact .inr rfl | assumption):PG X (.Name x pos) (Qgy i):=by
 intro pins s σ H v u Q I r h;exact wpAny_assign_Name (QhJ I hN hi hx r (λs' I'=>⟨_,H,I',h⟩) hf)
noncomputable def QzH:TGs:=λvs σ H Q=>vs=[]/\Q σ H
noncomputable def Qxd(t:TG)(u:TGs):TGs:=λvs σ H Q=>∃v r,vs=v::r/\t v σ H λσ' H'=>u r σ' H' Q
theorem QxJ:PGs X [] QzH:=by
 intro pins s σ H vs us Q I r h;obtain⟨e,h⟩:=h;subst e;cases r;exact assignInOrder_nil ⟨σ,H,I,h⟩
theorem Qu8{e:Expr}{es:List Expr}{t:TG}{u:TGs}(h1:PG X e t)(h2:PGs X es u)
  (hs:(assignEach (e::es) X.env).map (·.2)=assign e X.env::(assignEach es X.env).map (·.2):=by rfl):PGs X (e::es) (Qxd t u):=by
 intro pins s σ H vs us Q I r h;obtain⟨v,vr,e1,h⟩:=h;subst e1;cases r with
 | cons r rr=>
  rw[hs];refine assignInOrder_cons (thn (h1 pins s σ H _ _ _ I r h) λ_ s1 Z=>?_);obtain⟨σ1,H1,I1,q1⟩:=Z;exact h2 pins s1 σ1 H1 _ _ Q I1 rr q1
noncomputable def QDm(K:Fgg)(n:Nat)(t:TGs):TG:=λv σ H Q=>∃a xs,v= .ref a/\SqT K H a xs/\xs.length=n/\t xs σ H Q
theorem QBg{es:List Expr}{k:Nat}{t:TGs}{n:Nat}(hc:X.calm=true)(h:PGs X es t)
  (hn:(assignEach es X.env).length=n:=by rfl) (hst:(assignEach es X.env).findIdx? (·.1)=none:=by rfl):PG X (.Tuple es k pos) (QDm X.K n t):=by
 intro pins s σ H v u Q I r hw;obtain⟨a,xs,e1,hq,hl,hw⟩:=hw;subst e1;cases r;obtain⟨its,rv,ht,hz⟩:=I.tuple hq;refine assign_Tuple_tuple (I.ok.hd hc) ht (by simp[hn,← hl,rv.length]) hst λh' hx=>?_;have I1:Inv X pins σ H {s with heap:=h'}:=I.kept (t':=s.toks) λb o e=>hx b o (ZM (Zt e)) e;exact h pins _ σ H xs _ Q I1 (by simpa using rv) hw
noncomputable def QaL(to ti:TE)(t:Qqi):TG:=λv σ H Q=>to σ H λo H1=>ti σ H1 λi H2=>t o i v H2 λH3=>Q σ H3
theorem Qgl{o i:Expr}{to ti:TE}{t:Qqi}(ho:PE X o to)(hi:PE X i ti)(hs:Qv3 X t)
  (ha:∀v,assign (.Subscript o i pos) X.env v=(do
   let ov ← holding [v] (eval o X.env)
   let iv ← holding [v,ov] (eval i X.env)
   standAt pos
   holding [v,ov,iv] (setItem ov iv v)
   release [v,ov,iv] []):=by intro _;rfl):PG X (.Subscript o i pos) (QaL to ti t):=by
 intro pins s σ H v u Q I r h;rw[ha];refine wpAny_bind (wpAny_holding (thn (ho pins s σ H _ I h) λov s1=>exJ λx H1 I1 r1 q1=>?_));refine wpAny_bind (wpAny_holding (thn (hi pins s1 σ H1 _ I1 q1) λiv s2=>exJ λy H2 I2 r2 q2=>?_));refine wpAny_bind (wpAny_standAt (wpAny_bind (wpAny_holding (thn (hs pins s2 σ H2 x y v ov iv u _ I2 r1 r2 r q2) λ_ s3 Z=>?_))));obtain⟨H3,I3,q3⟩:=Z;exact wpAny_release ⟨σ,H3,I3,q3⟩
noncomputable def QeO(te:TE)(g:TG):TS:=λD σ H=>te σ H λx H1=>g x σ H1 D.nx
theorem Qgi{tg e:Expr}{te:TE}{g:TG}(he:PE X e te)(hg:PG X tg g)(hs:swapsWithSole [tg] e pos.line X.env=pure false:=by rfl)(hw:swappedStores [tg] e X.env=pure none:=by rfl)
  (h1:(assignEach [tg] X.env).map (·.2)=[assign tg X.env]:=by rfl):PS X (.Assign [tg] e pos) (QeO te g):=by
 intro pins s σ H D I h;refine wpAny_Assign_stores (thn (he pins s σ H _ I h) λv s1 ⟨x,H1,I1,r1,q1⟩=>?_) hs hw;rw[h1];exact thn (hg pins s1 σ H1 x v _ I1 r1 q1) λ_ s2 q=>q
theorem Qga{i:Nat}{x:Str}{e:Expr}{te:TE}{pos':Pos}(hN:X.N.Nodup)(hi:X.N[i]? =some x)(hx:Loc X.env.scope x)(he:PE X e te)(hs:swapsWith e (some (.Name x pos')) pos.line X.env=pure false:=by rfl)(hf:X.fn x=true∨X.env.scope.names.lookup x=some .local :=by first | exact .inl rfl | exact .inr rfl | assumption):
  PS X (.Assign [.Name x pos'] e pos) (QeO te (Qgy i)):=by
 intro pins s σ H D I h;refine wpAny_Assign_Name (thn (he pins s σ H _ I h) λv s1 ⟨y,H1,I1,r1,q1⟩=>?_) hs;exact QhJ I1 hN hi hx r1 (λs2 I2=>⟨_,H1,I2,q1⟩) hf
noncomputable def QCJ(to ti te:TE)(tget:V->V->Hp->VK->Prop)(tip:TIp)(tset:Qqi):TS:=λD σ H=>to σ H λo H1=>ti σ H1 λi H2=>tget o i H2 λx H3=>te σ H3 λy H4=>tip x y H4 λz H5=>tset o i z H5 λH6=>D.nx σ H6
def QBt(X:Cx)(t:V->V->Hp->VK->Prop):Prop:=
 ∀(pins:List (Addr×Obj)) (s:Shared) (σ:St) (H:Hp) (o i:V) (ov iv:Value) (Q:VK),Inv X pins σ H s->RelV o ov->RelV i iv->t o i H Q→
  wpAny (model X.prog X.w) X.A (getItem ov iv) (EP X pins σ Q) X.xe s
theorem Qzm{o i e:Expr}{to ti te:TE}{tget:V->V->Hp->VK->Prop}{tip:TIp}{tset:Qqi}{op:Operator}{tpos:Pos}(ho:PE X o to)(hi:PE X i ti)(hg:QBt X tget)(he:PE X e te)(hp:PIp X op tip)(hs:Qv3 X tset)
  (ha:∀ov iv new,augStore i ov iv new=(do holding [new,ov,iv] (setItem ov iv new);release [new,ov,iv] [];pure .next):=by intros;rfl):PS X (.AugAssign (.Subscript o i tpos) op e pos) (QCJ to ti te tget tip tset):=by
 intro pins s σ H D I h;refine wpAny_AugAssign_SubscriptAny (thn (ho pins s σ H _ I h) λov s1 ⟨x1,H1,I1,r1,q1⟩=>?_) ha;refine thn (hi pins s1 σ H1 _ I1 q1) λiv s2=>exJ λx2 H2 I2 r2 q2=>?_;refine thn (hg pins s2 σ H2 x1 x2 ov iv _ I2 r1 r2 q2) λold s3=>exJ λx3 H3 I3 r3 q3=>?_;refine thn (he pins s3 σ H3 _ I3 q3) λv s4=>exJ λx4 H4 I4 r4 q4=>?_;refine thn (hp pins s4 σ H4 x3 x4 old v _ I4 r3 r4 q4) λnew s5=>exJ λx5 H5 I5 r5 q5=>?_;exact thn (hs pins s5 σ H5 x1 x2 x5 ov iv new _ I5 r1 r2 r5 q5) λ_ s6 ⟨H6,I6,q6⟩=>⟨σ,H6,I6,q6⟩
end
section
variable {X:Cx}{pos:Pos}
noncomputable def QAa(c:TT)(tb:TS):TS:=λD σ H=>∃W:Nat->St->Hp->Prop,(∃m,W m σ H)/\∀m σ H,W m σ H→
 c σ H λb H1=>if b=true then ∃N:St->Hp->Prop,(∀σ' H',N σ' H'->∃m',m'<m/\W m' σ' H')/\tb {D with nx:=N,ct:=N,bk:=D.nx} σ H1 else D.nx σ H1
theorem QvX{c:Expr}{body:List Stmt}{tc:TT}{tb:TS}(hp:PassesOwn (model X.prog X.w) X.A X.env X.xe)(hc:PT X c tc)(hb:PSs X body tb):PS X (.While c body [] pos) (QAa tc tb):=by
 intro pins s σ H D I h;obtain⟨W,⟨m0,w0⟩,turn⟩:=h;refine wpAny_While (codeAny_whileLoop (λn s'=>∃σ' H',Inv X pins σ' H' s'/\W n σ' H') ?_ m0 ⟨σ,H,I,w0⟩);rintro n s1 ⟨σ1,H1,I1,w1⟩;refine wpAny_passesOwn hp (thn (hc pins s1 σ1 H1 _ I1 (turn n σ1 H1 w1)) λb s2 Z=>?_);obtain⟨H2,I2,q2⟩:=Z;cases b with
 | true=>
  obtain⟨N,hN,q2⟩:=q2;rw[if_pos rfl];refine wpAny_passesOwn hp (thn (hb pins s2 σ1 H2 _ I2 q2) λf s3 q3=>?_);cases f with
  | next=>
   obtain⟨σ3,H3,I3,n3⟩:=q3;obtain⟨m',hm,w3⟩:=hN σ3 H3 n3;exact⟨m',hm,σ3,H3,I3,w3⟩
  | cont=>
   obtain⟨σ3,H3,I3,n3⟩:=q3;obtain⟨m',hm,w3⟩:=hN σ3 H3 n3;exact⟨m',hm,σ3,H3,I3,w3⟩
  | brk=>exact q3
  | ret v=>exact q3
 | false=>
  rw[if_neg Zah];exact wpAny_execs_nil ⟨σ1,H2,I2,q2⟩
end
structure It where
 go:Nat->Hp->Prop
 yld:Nat->Hp->V->Hp->Prop
 stop:Nat->Hp->Prop
def Qd6(X:Cx)(pins:List (Addr×Obj))(H:Hp)(b:Addr):Prop:=
 H b=none/\b≠X.env.locals/\b∉X.fs/\(b∈X.ex∨X.s₀.heap.objs.size<=b)/\(∀x c,X.env.cells.lookup x=some c->c≠b)/\∀p∈X.pn++pins,p.1≠b
theorem Inv.QkU{X:Cx}{pins:List (Addr×Obj)}{σ:St}{H H':Hp}{s:Shared}{b:Addr}(I:Inv X pins σ H s)(hb:s.heap.objs.size<=b)(hn:H' b=none):Qd6 X pins H' b:=by
 refine⟨hn,Zbn (Zp I.lt hb),I.QCZ hb,.inr (Zo I.sz hb),λx c e z=>?_,λp hp z=>?_⟩
 ·obtain⟨v,q⟩:=I.cell x c e;exact absurd (Zp q.lt (by rw[z];exact hb)) (ZX _)
 ·exact absurd (Zp (Zt (I.pin p hp).1) (by rw[z];exact hb)) (ZX _)
structure Turn (P:Program) (w:World) (K:Fgg) (tg:Expr) (J:It) (fp:LAd) (it:Addr) (tn:Nat->Heap->Prop):Prop where
 mem:it∈fp
 obj:∀i h,tn i h->∀b∈fp,∃o,h.get? b=some o/\∀v,o.data≠ .cell v
 keep:∀i h h',tn i h->(∀b∈fp,∀o,h.get? b=some o->h'.get? b=some o)->tn i h'
 item:∀(X:Cx),X.prog=P->X.w=w->X.K=K->X.calm=true->∀(i:Nat) (pins:List (Addr×Obj)) (s:Shared) (σ:St) (H:Hp) (E:Value->Shared->Prop),Inv X pins σ H s->(∀b∈fp,Qd6 X pins H b)->tn i s.heap->J.go i H→
  wpAny (model P w) X.A (pyNext (.ref it)) (λr s1=>∃u,r=some u∧
   wpAny (model P w) X.A (letOwnedTupleGo tg (.ref it) u) (λ_ s2=>∃x H',Inv X pins σ H' s2/\RelV x u/\J.yld i H x H'/\tn (i+1) s2.heap/\∀b∈fp,H' b=none) E s1) E s
 done:∀(X:Cx),X.prog=P->X.w=w->X.K=K->X.calm=true->∀(i:Nat) (pins:List (Addr×Obj)) (s:Shared) (σ:St) (H:Hp) (E:Value->Shared->Prop),Inv X pins σ H s->(∀b∈fp,Qd6 X pins H b)->tn i s.heap->J.stop i H→
  wpAny (model P w) X.A (pyNext (.ref it)) (λr s1=>r=none/\Inv X pins σ H s1) E s
 self:∀(A:Around) (i:Nat) (s:Shared) (Q:Value->Shared->Prop) (E:Value->Shared->Prop),tn i s.heap->Q (.ref it) s->wpAny (model P w) A (pyIter (.ref it)) Q E s
noncomputable abbrev TI:=St->Hp->(It->Hp->Prop)->Prop
def PIE(X:Cx)(pins:List (Addr×Obj))(σ:St)(tg:Expr)(R:It->Hp->Prop)(itv:Value)(s2:Shared):Prop:=
 ∃(it:Addr) (fp:LAd) (tn:Nat->Heap->Prop) (J:It) (H':Hp),itv= .ref it/\Inv X pins σ H' s2/\Turn X.prog X.w X.K tg J fp it tn/\tn 0 s2.heap/\(∀b∈fp,Qd6 X pins H' b)/\R J H'
def PI(X:Cx)(tg iter:Expr)(wi:TI):Prop:=
 ∀(pins:List (Addr×Obj)) (s:Shared) (σ:St) (H:Hp) (R:It->Hp->Prop),Inv X pins σ H s->wi σ H R→
  wpAny (model X.prog X.w) X.A (eval iter X.env) (λv s1=>wpAny (model X.prog X.w) X.A (pyIter v) (PIE X pins σ tg R) X.xe s1) X.xe s
theorem QoA{M:Model}{A:Around}{E:Value->Shared->Prop}{s:Shared}{tg:Expr}{it:Addr}{u:Value}{o:Obj}{n:String}{vs:Array Value}{Q:Unit->Shared->Prop}(ho:s.heap.get? it=some o)(hc:o.cls= .type n)(hd:o.data= .fields vs)
    (hn:["enumerate","zip","dict_itemiterator","dict_reverseitemiterator","odict_iterator","itertools.zip_longest","itertools.pairwise"].contains n=false) (hQ:Q () s):wpAny M A (letOwnedTupleGo tg (.ref it) u) Q E s:=by
  unfold letOwnedTupleGo
  cases tg<;>first
    | exact wpAny_pure hQ
    | (cases u<;>first
        | exact wpAny_pure hQ
        | (refine wpAny_bind (wpAny_load ho ?_)
           rw[hc,hd];show wpAny M A (if(["enumerate","zip","dict_itemiterator","dict_reverseitemiterator","odict_iterator","itertools.zip_longest","itertools.pairwise"].contains n && vs[0]? == some (rawInt _))=true then _ else _) Q E s;rw[if_neg (by intro h;rw[hn,Bool.false_and]at h;cases h)];exact wpAny_pure hQ))
noncomputable def Itl(K:Fgg)(a:Addr):It:=
 ⟨λi H=>∃xs x,SqL K H a xs/\xs[i]? =some x,λi H x H'=>H'=H/\∀xs,SqL K H a xs->xs[i]? =some x,λi H=>∃xs,SqL K H a xs/\xs.length<=i⟩
noncomputable def Itt(K:Fgg)(a:Addr):It:=
 ⟨λi H=>∃xs x,SqT K H a xs/\xs[i]? =some x,λi H x H'=>H'=H/\∀xs,SqT K H a xs->xs[i]? =some x,λi H=>∃xs,SqT K H a xs/\xs.length<=i⟩
noncomputable def Itr(lo:Int)(n:Nat):It:=⟨λi _=>i<n,λi H x H'=>H'=H/\x= .int (lo+i),λi _=>n<=i⟩
theorem QuN{P:Program}{w:World}{K:Fgg}{tg:Expr}(a it:Addr):Turn P w K tg (Itl K a) [it] it (λi h=>h.IsListIter it a i) where
 mem:=by simp
 obj:=λi h st b hb=>by
  have e:b=it:=by simpa using hb
  subst e;obtain⟨o,e,c,d⟩:=st;exact⟨o,e,λv z=>by rw[d]at z;cases z⟩
 keep:=λi h h' st k=>st.at λo e=>k it (by simp) o e
 item:=by
  intro X hP hw hK hc i pins s σ H E I hf st hg;subst hP hw hK;obtain⟨xs,x,hq,hx⟩:=hg;obtain⟨its,rv,p,hz⟩:=I.list hq;obtain⟨u,hu,ru⟩:=rv.get hx;obtain⟨f0,f1,f2,f3,f4,f5⟩:=hf it (by simp);refine wpAny_pyNext_list_item st p.isList (x:=u) (by simpa using hu) λh' st' sb=>?_;have I1:Inv X pins σ H {s with heap:=h'}:=I.turned (t':=s.toks) (λb o hb e=>(sb.2 b hb).trans e) f0 f1 f3 f4 f5;obtain⟨o,e,c,d⟩:=id st';exact⟨u,rfl,QoA (s:={s with heap:=h'}) e c d (by decide) ⟨x,H,I1,ru,⟨rfl,λys hy=>by rw[I.QdP hy hq];exact hx⟩,st',λb hb=>(hf b hb).1⟩⟩
 done:=by
  intro X hP hw hK hc i pins s σ H E I hf st hg;subst hP hw hK;obtain⟨xs,hq,hx⟩:=hg;obtain⟨its,rv,p,hz⟩:=I.list hq;obtain⟨f0,f1,f2,f3,f4,f5⟩:=hf it (by simp);have hl:=rv.length;exact wpAny_pyNext_list_end (I.ok.hd hc) st p.isList (by simp;omega) λh' eb=>⟨rfl,I.turned (t':=s.toks) (λb o hb e=>eb b o hb e) f0 f1 f3 f4 f5⟩
 self:=λ_ _ _ _ _ st h=>wpAny_pyIter_listiter st h
theorem QsN{P:Program}{w:World}{K:Fgg}{tg:Expr}(a it:Addr):Turn P w K tg (Itt K a) [it] it (λi h=>h.IsTupleIter it a i) where
 mem:=by simp
 obj:=λi h st b hb=>by
  have e:b=it:=by simpa using hb
  subst e;obtain⟨o,e,c,d⟩:=st;exact⟨o,e,λv z=>by rw[d]at z;cases z⟩
 keep:=λi h h' st k=>st.at λo e=>k it (by simp) o e
 item:=by
  intro X hP hw hK hc i pins s σ H E I hf st hg;subst hP hw hK;obtain⟨xs,x,hq,hx⟩:=hg;obtain⟨its,rv,p,hz⟩:=I.tuple hq;obtain⟨u,hu,ru⟩:=rv.get hx;obtain⟨f0,f1,f2,f3,f4,f5⟩:=hf it (by simp);refine wpAny_pyNext_tuple_item st (show s.heap.IsTuple a its.toArray from p) (x:=u) (by simpa using hu) λh' st' sb=>?_;have I1:Inv X pins σ H {s with heap:=h'}:=I.turned (t':=s.toks) (λb o hb e=>(sb.2 b hb).trans e) f0 f1 f3 f4 f5;obtain⟨o,e,c,d⟩:=id st';exact⟨u,rfl,QoA (s:={s with heap:=h'}) e c d (by decide) ⟨x,H,I1,ru,⟨rfl,λys hy=>by rw[I.Qt9 hy hq];exact hx⟩,st',λb hb=>(hf b hb).1⟩⟩
 done:=by
  intro X hP hw hK hc i pins s σ H E I hf st hg;subst hP hw hK;obtain⟨xs,hq,hx⟩:=hg;obtain⟨its,rv,p,hz⟩:=I.tuple hq;obtain⟨f0,f1,f2,f3,f4,f5⟩:=hf it (by simp);have hl:=rv.length;exact wpAny_pyNext_tuple_end (I.ok.hd hc) st (show s.heap.IsTuple a its.toArray from p) (by simp;omega) λh' eb=>⟨rfl,I.turned (t':=s.toks) (λb o hb e=>eb b o hb e) f0 f1 f3 f4 f5⟩
 self:=λ_ _ _ _ _ st h=>wpAny_pyIter_tupleiter st h
theorem Qsn{P:Program}{w:World}{K:Fgg}{tg:Expr}(it:Addr)(lo:Int)(n:Nat):Turn P w K tg (Itr lo n) [it] it (λi h=>IsRangeIter h it (lo+(i:Nat)*1) ((n:Int)-(i:Nat)) 1) where
 mem:=by simp
 obj:=λi h st b hb=>by
  have e:b=it:=by simpa using hb
  subst e;exact⟨_,st,λv z=>by
   have z':Data.fields _=Data.cell v:=z;cases z'⟩
 keep:=λi h h' st k=>k it (by simp) _ st
 item:=by
  intro X hP hw hK hc i pins s σ H E I hf st hg;subst hP hw hK;obtain⟨f0,f1,f2,f3,f4,f5⟩:=hf it (by simp);have W:=Walks.range (prog:=X.prog) (w:=X.w) (I.ok.hd hc) it lo 1 n;refine W.item i s _ _ hg st λv h' tk hv st' kk=>?_;obtain⟨t,rfl⟩:=hv;have I1:Inv X pins σ H {s with heap:=h',toks:=tk}:=I.turned (λb o hb e=>kk b o (by simpa using hb) e) f0 f1 f3 f4 f5;refine⟨_,rfl,QoA (s:={s with heap:=h',toks:=tk}) (n:= "range_iterator") st' rfl rfl (by decide) ⟨.int (lo+i),H,I1,⟨t,?_⟩,⟨rfl,rfl⟩,st',λb hb=>(hf b hb).1⟩⟩;rw[Zae]
 done:=by
  intro X hP hw hK hc i pins s σ H E I hf st hg;subst hP hw hK;obtain⟨f0,f1,f2,f3,f4,f5⟩:=hf it (by simp);exact wpAny_pyNext_range_end (I.ok.hd hc) st (by have:n<=i:=hg;omega) λh' eb=>⟨rfl,I.turned (t':=s.toks) (λb o hb e=>eb b o hb e) f0 f1 f3 f4 f5⟩
 self:=λ_ _ _ _ _ st h=>wpAny_pyIter_rangeiter st h
section
variable {X:Cx}{tg:Expr}
theorem QpV{pins:List (Addr×Obj)}{σ:St}{H:Hp}{s:Shared}{R:It->Hp->Prop}{E:Value->Shared->Prop}{lo hi:Int}{t u v:Tok}{tk:Nat}(I:Inv X pins σ H s)(h1: -(2^62)<=lo)(h2:lo<2^62)(h3: -(2^62)<=hi)(h4:hi<2^62)
  (q:R (Itr lo (hi-lo).toNat) H):wpAny (model X.prog X.w) X.A (pyIter (.ref s.heap.objs.size)) (PIE X pins σ tg R) E {s with heap:=s.heap.push {cls:= .type "range",data:= .fields #[.int lo t,.int hi u,.int 1 v]},toks:=tk}:=by
 refine wpAny_pyIter_range (IsRange.new ..) (small_one h1 h2 h3 h4) ?_;have I1:Inv X pins σ H {s with heap:=s.heap.push {cls:= .type "range",data:= .fields #[.int lo t,.int hi u,.int 1 v]},toks:=tk}:=I.kept λb o e=>Zb _ e
 refine⟨(s.heap.push {cls:= .type "range",data:= .fields #[.int lo t,.int hi u,.int 1 v]}).objs.size,[(s.heap.push {cls:= .type "range",data:= .fields #[.int lo t,.int hi u,.int 1 v]}).objs.size],_,_,H,rfl,
  I1.kept (t':=tk) λb o e=>Zb _ e,Qsn _ lo (hi-lo).toNat,?_,λb hb=>?_,q⟩
 ·have e1:lo+((0:Nat):Int)*1=lo:=by simp
  have e2:(((hi-lo).toNat:Nat):Int)-((0:Nat):Int)=Builtin.Range.rangeSize lo hi 1:=by rw[rangeSize_one];split<;>omega
  show IsRangeIter _ _ (lo+((0:Nat):Int)*1) ((((hi-lo).toNat:Nat):Int)-((0:Nat):Int)) 1;rw[e1,e2];exact Zz _ rfl
 ·have e:b=(s.heap.push {cls:= .type "range",data:= .fields #[.int lo t,.int hi u,.int 1 v]}).objs.size:=by simpa using hb
  subst e;exact I1.QkU (Zj _) (I1.hok.fresh (Zj _))
noncomputable def QCs(ta:TA):TI:=λσ H R=>ta σ H λvs H1=>∃j:Int,vs=[.int j]/\ -(2^62)<=j/\j<2^62/\R (Itr 0 j.toNat) H1
noncomputable def QCl(ta:TA):TI:=λσ H R=>ta σ H λvs H1=>∃i j:Int,vs=[.int i,.int j]/\(-(2^62)<=i/\i<2^62/\ -(2^62)<=j/\j<2^62)/\R (Itr i (j-i).toNat) H1
theorem Qtn{a:Expr}{ta:TA}{p pos:Pos}(hg:Gl X "range")(hm:X.mg "range" =none)(ha:PA X [a] ta)(hs:starEach [a] X.env=[(false,eval a X.env)]:=by rfl):PI X tg (.Call (.Name "range" p) [a] [] pos) (QCs ta):=by
 intro pins s σ H R I h;refine Call_ (Qdx I hg hm boot_range (Zad (thn (ha pos pins s σ H _ I h) λus s1 ⟨vs,H1,I1,r1,q1⟩=>?_) hs rfl));obtain⟨j,e,q1,q2,q⟩:=q1;subst e;cases r1 with
 | cons r rr=>
  cases rr;obtain⟨t,rfl⟩:=r;exact call_range_1 (QpV I1 ⋯ ⋯ q1 q2 (by simpa using q))
theorem Qta{a b:Expr}{ta:TA}{p pos:Pos}(hg:Gl X "range")(hm:X.mg "range" =none)(ha:PA X [a,b] ta)(hs:starEach [a,b] X.env=[(false,eval a X.env),(false,eval b X.env)]:=by rfl)(hs2:starEach [b] X.env=[(false,eval b X.env)]:=by rfl):
  PI X tg (.Call (.Name "range" p) [a,b] [] pos) (QCl ta):=by
 intro pins s σ H R I h;refine Call_ (Qdx I hg hm boot_range (Zad (thn (ha pos pins s σ H _ I h) λus s1 ⟨vs,H1,I1,r1,q1⟩=>?_) (by rw[hs,hs2]) (by rw[hs2];rfl)));obtain⟨i,j,e,⟨q1,q2,q3,q4⟩,q⟩:=q1;subst e;cases r1 with
 | cons r rr=>
  cases rr with
  | cons r' rr=>
   cases rr;obtain⟨t,rfl⟩:=r;obtain⟨t',rfl⟩:=r';exact call_range_2 (QpV I1 q1 q2 q3 q4 q)
noncomputable def QC5(wi:TI)(g:TG)(tb:TS):TS:=λD σ H=>wi σ H λJ H1=>∃W:Nat->Nat->St->Hp->Prop,(∃m,W 0 m σ H1)/\∀i m σ H,W i m σ H→
 (J.stop i H/\D.nx σ H)∨(J.go i H/\∃N:St->Hp->Prop,(∀σ' H',N σ' H'->∃m',m'<m/\W (i+1) m' σ' H')/\∀x H',J.yld i H x H'->g x σ H' λσ2 H2=>tb {D with nx:=N,ct:=N,bk:=D.nx} σ2 H2)
noncomputable def QjD(fp:LAd)(h:Heap):List (Addr×Obj):=fp.filterMap λb=>(h.get? b).map λo=>(b,o)
theorem QhL{fp:LAd}{h:Heap}{b:Addr}{o:Obj}(hb:b∈fp)(e:h.get? b=some o):(b,o)∈QjD fp h:=ZaX.mpr ⟨b,hb,by rw[e];rfl⟩
theorem Quz{fp:LAd}{h:Heap}{p:Addr×Obj}(hp:p∈QjD fp h):p.1∈fp/\h.get? p.1=some p.2:=by
 obtain⟨b,hb,e⟩:=ZaX.mp hp;cases q:h.get? b with
 | none=>rw[q]at e;cases e
 | some o=>
  rw[q]at e;have e':(b,o)=p:=Option.some.inj e;subst e';exact⟨hb,q⟩
theorem Inv.pinned{pins:List (Addr×Obj)}{σ:St}{H:Hp}{s:Shared}{fp:LAd}(I:Inv X pins σ H s)(hf:∀b∈fp,Qd6 X pins H b)(ho:∀b∈fp,∃o,s.heap.get? b=some o/\∀v,o.data≠ .cell v):Inv X (pins++QjD fp s.heap) σ H s:=
 I.Qrs λp hp=>(ZF.mp hp).elim (λz=>I.pin p (Ze _ z)) λz=>by
  obtain⟨hb,e⟩:=Quz z;obtain⟨f0,f1,f2,_⟩:=hf p.1 hb;obtain⟨o,e',d⟩:=ho p.1 hb;rw[e]at e';cases e';exact⟨e,f0,f1,f2,d⟩
theorem Inv.Qia{pins pl:List (Addr×Obj)}{σ:St}{H:Hp}{s:Shared}(I:Inv X (pins++pl) σ H s):Inv X pins σ H s:=I.Qrs λp hp=>I.pin p (Ze _ (Zf _ hp))
theorem Qul{iter:Expr}{body:List Stmt}{wi:TI}{g:TG}{tb:TS}{pos:Pos}(hp:PassesOwn (model X.prog X.w) X.A X.env X.xe)(hc:X.calm=true)(hi:PI X tg iter wi)(hg:PG X tg g)(hb:PSs X body tb)
  (hs:∀x,foldedSetIterable iter X.env x=pure x:=by intro _;rfl):PS X (.For tg iter body [] pos) (QC5 wi g tb):=by
 intro pins s σ H D I h;refine wpAny_For (thn (hi pins s σ H _ I h) λv s1 h1=>thn h1 λitv s2 h2=>?_) hs;obtain⟨it,fp,tn,J,H2,e,I2,T,st2,f2,W,⟨m0,w0⟩,turn⟩:=h2;subst e;have stat:∀{H':Hp},(∀b∈fp,H' b=none)->∀b∈fp,Qd6 X pins H' b:=λhn b hb=>⟨hn b hb,(f2 b hb).2⟩;refine codeAny_forLoop_any (λn s'=>∃i σ' H',Inv X pins σ' H' s'/\tn i s'.heap/\(∀b∈fp,H' b=none)/\W i n σ' H') ?_ m0 ⟨0,σ,H2,I2,st2,λb hb=>(f2 b hb).1,w0⟩;rintro n s3 ⟨i,σ3,H3,I3,st3,fr3,w3⟩;rcases turn i n σ3 H3 w3 with⟨stop,qn⟩ | ⟨go,N,hN,step⟩
 ·refine wpAny_passesOwn hp (thn (T.done X rfl rfl rfl hc i pins s3 σ3 H3 X.xe I3 (stat fr3) st3 stop) λr s4 Z=>?_);obtain⟨hr,I4⟩:=Z;subst hr;exact wpAny_execs_nil ⟨σ3,H3,I4,qn⟩
 ·refine wpAny_passesOwn hp (thn (T.item X rfl rfl rfl hc i pins s3 σ3 H3 X.xe I3 (stat fr3) st3 go) λr s4 Z=>?_);obtain⟨u,hr,h4⟩:=Z;subst hr;refine wpAny_passesOwn hp (thn h4 λ_ s5 Z=>?_);obtain⟨x,H5,I5,r5,y5,st5,fr5⟩:=Z;have I5':=I5.pinned (stat fr5) (T.obj _ _ st5);refine wpAny_passesOwn hp (thn (hg _ s5 σ3 H5 x u _ I5' r5 (step x H5 y5)) λ_ s6 Z=>?_);obtain⟨σ6,H6,I6,q6⟩:=Z;refine wpAny_passesOwn hp (thn (hb _ s6 σ6 H6 _ I6 q6) λf s7 q7=>?_);have again:∀{σ7:St}{H7:Hp},Inv X (pins++QjD fp s5.heap) σ7 H7 s7->N σ7 H7->∃m,m<n/\∃i σ' H',Inv X pins σ' H' s7/\tn i s7.heap/\(∀b∈fp,H' b=none)/\W i m σ' H':=λ{σ7 H7} I7 n7=>by
   obtain⟨m',hm,w7⟩:=hN σ7 H7 n7;refine⟨m',hm,i+1,σ7,H7,I7.Qia,T.keep _ _ _ st5 λb hb o e=>(I7.pin (b,o) (Ze _ (Ze _ (QhL hb e)))).1,λb hb=>?_,w7⟩;obtain⟨o,e,d⟩:=T.obj _ _ st5 b hb;exact(I7.pin (b,o) (Ze _ (Ze _ (QhL hb e)))).2.1
  cases f with
  | next=>obtain⟨σ7,H7,I7,n7⟩:=q7;exact again I7 n7
  | cont=>obtain⟨σ7,H7,I7,n7⟩:=q7;exact again I7 n7
  | brk=>obtain⟨σ7,H7,I7,q7⟩:=q7;exact⟨σ7,H7,I7.Qia,q7⟩
  | ret v=>obtain⟨x7,σ7,H7,I7,r7,q7⟩:=q7;exact⟨x7,σ7,H7,I7.Qia,r7,q7⟩
end
noncomputable abbrev R2:=V->V->Hp->VK->Prop
def OpR(X:Cx)(f:Value->Value->Sem Value)(r:R2):Prop:=
 ∀(pins:List (Addr×Obj)) (s:Shared) (σ:St) (H:Hp) (x y:V) (v u:Value) (Q:VK),Inv X pins σ H s->RelV x v->RelV y u->r x y H Q→
  wpAny (model X.prog X.w) X.A (f v u) (EP X pins σ Q) X.xe s
def UnR(X:Cx)(f:Value->Sem Value)(r:V->Hp->VK->Prop):Prop:=
 ∀(pins:List (Addr×Obj)) (s:Shared) (σ:St) (H:Hp) (x:V) (v:Value) (Q:VK),Inv X pins σ H s->RelV x v->r x H Q→
  wpAny (model X.prog X.w) X.A (f v) (EP X pins σ Q) X.xe s
def QcT(X:Cx)(f:Value)(r:List V->Hp->VK->Prop):Prop:=
 ∀(pins:List (Addr×Obj)) (s:Shared) (σ:St) (H:Hp) (xs:List V) (us:List Value) (Q:VK),Inv X pins σ H s->QM xs us->r xs H Q→
  wpAny (model X.prog X.w) X.A (call f us) (EP X pins σ Q) X.xe s
def QC1(X:Cx)(r:V->Hp->(Bool->Hp->Prop)->Prop):Prop:=
 ∀(pins:List (Addr×Obj)) (s:Shared) (σ:St) (H:Hp) (x:V) (v:Value) (Q:Bool->Hp->Prop),Inv X pins σ H s->RelV x v->r x H Q→
  wpAny (model X.prog X.w) X.A (truthy v) (TP X pins σ Q) X.xe s
noncomputable def tOp(r:R2)(ta tb:TE):TE:=λσ H Q=>ta σ H λx H1=>tb σ H1 λy H2=>r x y H2 Q
noncomputable def tUn(r:V->Hp->VK->Prop)(ta:TE):TE:=λσ H Q=>ta σ H λx H1=>r x H1 Q
noncomputable def rI(C:Int->Int->Prop)(g:Int->Int->V):R2:=λx y H Q=>∃i j,x= .int i/\y= .int j/\C i j/\Q (g i j) H
noncomputable def rI0(g:Int->Int->V):R2:=λx y H Q=>∃i j,x= .int i/\y= .int j/\Q (g i j) H
noncomputable def rU(g:Int->V):V->Hp->VK->Prop:=λx H Q=>∃i,x= .int i/\Q (g i) H
section
variable {X:Cx}{a b c:Expr}{ta tb tc:TE}{pos:Pos}
theorem Qvn(ha:PE X a ta)(hb:PE X b tb){pins:List (Addr×Obj)}{s:Shared}{σ:St}{H:Hp}{R:V->V->Hp->Prop}(I:Inv X pins σ H s)
  (h:ta σ H λx H1=>tb σ H1 λy H2=>R x y H2) {Q:Value->Shared->Prop}{f:Value->Value->Sem Value}
  (hf:∀v u s2 x y H2,Inv X pins σ H2 s2->RelV x v->RelV y u->R x y H2->wpAny (model X.prog X.w) X.A (f v u) Q X.xe s2):
  wpAny (model X.prog X.w) X.A (eval a X.env) (λv s₁=>wpAny (model X.prog X.w) X.A (eval b X.env) (λu s₂=>wpAny (model X.prog X.w) X.A (f v u) Q X.xe s₂) X.xe s₁) X.xe s:=by
 refine thn (ha pins s σ H _ I h) λv s1=>exJ λx H1 I1 r1 q1=>?_;refine thn (hb pins s1 σ H1 _ I1 q1) λu s2=>exJ λy H2 I2 r2 q2=>?_;exact hf v u s2 x y H2 I2 r1 r2 q2
theorem QsC{op:Operator}{r:R2}(ho:OpR X (binaryOp op) r)(ha:PE X a ta)(hb:PE X b tb):PE X (.BinOp a op b pos) (tOp r ta tb):=by
 intro pins s σ H Q I h;exact wpAny_BinOp (Qvn ha hb I h λv u s2 x y H2 I2 rx ry q=>ho pins s2 σ H2 x y v u Q I2 rx ry q)
theorem QB6{op:UnaryOp}{r:V->Hp->VK->Prop}(ho:UnR X (unaryOp op) r)(ha:PE X a ta):PE X (.UnaryOp op a pos) (tUn r ta):=by
 intro pins s σ H Q I h;exact UnaryOp_ (thn (ha pins s σ H _ I h) λv s1 ⟨x,H1,I1,r1,q1⟩=>ho pins s1 σ H1 x v Q I1 r1 q1)
theorem QC7{op:Operator}{r:R2}(ho:OpR X (inplaceOp op) r){pins:List (Addr×Obj)}{s:Shared}{σ:St}{H:Hp}{x y:V}{v u:Value}{Q:VK}(I:Inv X pins σ H s)
  (rx:RelV x v) (ry:RelV y u) (q:r x y H Q):wpAny (model X.prog X.w) X.A (inplaceOp op v u) (EP X pins σ Q) X.xe s:=ho pins s σ H x y v u Q I rx ry q
theorem opI{f:Value->Value->Sem Value}{C:Int->Int->Prop}{g:Int->Int->Int}
  (rule:∀(i j:Int) (t u:Tok) (s:Shared) (Q:Value->Shared->Prop) (E:Value->Shared->Prop),C i j->Q (.int (g i j) s.toks) {s with toks:=s.toks+1}->wpAny (model X.prog X.w) X.A (f (.int i t) (.int j u)) Q E s):
  OpR X f (rI C λi j=> .int (g i j)):=by
 intro pins s σ H x y v u Q I rx ry h;obtain⟨i,j,rfl,rfl,hc,q⟩:=h;obtain⟨t,rfl⟩:=rx;obtain⟨t',rfl⟩:=ry;exact rule i j t t' s _ _ hc ⟨.int (g i j),H,I.tok _,⟨_,rfl⟩,q⟩
theorem QsS{f:Value->Value->Sem Value}{g:Int->Int->Int}
  (rule:∀(i j:Int) (t u:Tok) (s:Shared) (Q:Value->Shared->Prop) (E:Value->Shared->Prop),Q (.int (g i j) s.toks) {s with toks:=s.toks+1}->wpAny (model X.prog X.w) X.A (f (.int i t) (.int j u)) Q E s):
  OpR X f (rI0 λi j=> .int (g i j)):=by
 intro pins s σ H x y v u Q I rx ry h;obtain⟨i,j,rfl,rfl,q⟩:=h;obtain⟨t,rfl⟩:=rx;obtain⟨t',rfl⟩:=ry;exact rule i j t t' s _ _ ⟨.int (g i j),H,I.tok _,⟨_,rfl⟩,q⟩
theorem Qsf{f:Value->Value->Sem Value}{g:Int->Int->Bool}
  (rule:∀(i j:Int) (t u:Tok) (s:Shared) (Q:Value->Shared->Prop) (E:Value->Shared->Prop),Q (.bool (g i j)) s->wpAny (model X.prog X.w) X.A (f (.int i t) (.int j u)) Q E s):
  OpR X f (rI0 λi j=> .bl (g i j)):=by
 intro pins s σ H x y v u Q I rx ry h;obtain⟨i,j,rfl,rfl,q⟩:=h;obtain⟨t,rfl⟩:=rx;obtain⟨t',rfl⟩:=ry;exact rule i j t t' s _ _ ⟨.bl (g i j),H,I,rfl,q⟩
theorem Qsw(k:Nat):(0:Int)<=2^k:=by
 rw[two_pow_cast];exact Int.natCast_nonneg _
theorem QBn:OpR X (binaryOp .Add) (rI0 λi j=> .int (i+j)):=QsS λ_ _ _ _ _ _ _ q=>add_int q
theorem QAf:OpR X (binaryOp .Sub) (rI0 λi j=> .int (i-j)):=QsS λ_ _ _ _ _ _ _ q=>sub_int q
theorem QAN:OpR X (binaryOp .RShift) (rI (λ_ j=>0<=j) λi j=> .int (i / 2^j.toNat)):=opI λi j _ _ _ _ _ hc q=>
 rshift_int hc (by rw[ZbJ i (Qsw _)];exact q)
theorem Qzj:OpR X (inplaceOp .Add) (rI0 λi j=> .int (i+j)):=QsS λ_ _ _ _ _ _ _ q=>iadd_int q
theorem QyP:OpR X (inplaceOp .Sub) (rI0 λi j=> .int (i-j)):=QsS λ_ _ _ _ _ _ _ q=>isub_int q
theorem unI{f:Value->Sem Value}{g:Int->Int}
  (rule:∀(i:Int) (t:Tok) (s:Shared) (Q:Value->Shared->Prop) (E:Value->Shared->Prop),Q (.int (g i) s.toks) {s with toks:=s.toks+1}->wpAny (model X.prog X.w) X.A (f (.int i t)) Q E s):
  UnR X f (rU λi=> .int (g i)):=by
 intro pins s σ H x v Q I rx h;obtain⟨i,rfl,q⟩:=h;obtain⟨t,rfl⟩:=rx;exact rule i t s _ _ ⟨.int (g i),H,I.tok _,⟨_,rfl⟩,q⟩
theorem QzW:UnR X (unaryOp .USub) (rU λi=> .int (-i)):=unI λ_ _ _ _ _ q=>neg_int q
end
section
variable {X:Cx}{a b c:Expr}{ta tb tc:TE}{pos:Pos}
theorem QCx:OpR X (compareOp .Lt) (rI0 λi j=> .bl (decide (i<j))):=Qsf λ_ _ _ _ _ _ _ q=>lt_int q
theorem QBY:OpR X (compareOp .LtE) (rI0 λi j=> .bl (decide (i<=j))):=Qsf λ_ _ _ _ _ _ _ q=>le_int q
theorem QCE:OpR X (compareOp .Gt) (rI0 λi j=> .bl (decide (j<i))):=Qsf λ_ _ _ _ _ _ _ q=>gt_int q
theorem QCt:OpR X (compareOp .GtE) (rI0 λi j=> .bl (decide (j<=i))):=Qsf λ_ _ _ _ _ _ _ q=>ge_int q
theorem OpR.or{f:Value->Value->Sem Value}{r r':R2}(h:OpR X f r)(h':OpR X f r'):OpR X f (λx y H Q=>r x y H Q∨r' x y H Q):=by
 intro pins s σ H x y v u Q I rx ry q;rcases q with q | q
 ·exact h pins s σ H x y v u Q I rx ry q
 ·exact h' pins s σ H x y v u Q I rx ry q
theorem QyX{op:CmpOp}{r:R2}(ho:OpR X (compareOp op) r)(ha:PE X a ta)(hb:PE X b tb)(hm:behindInMarks op b=false):PE X (.Compare a [op] [b] pos) (tOp r ta tb):=by
 intro pins s σ H Q I h;exact wpAny_Compare1 (Qvn ha hb I h λv u s2 x y H2 I2 rx ry q=>ho pins s2 σ H2 x y v u Q I2 rx ry q) hm
noncomputable def QBJ(t:TE):TT:=λσ H Q=>t σ H λx H'=>∃k,x= .bl k/\Q k H'
theorem Qym{op:CmpOp}{r:R2}(ho:OpR X (compareOp op) r)(ha:PE X a ta)(hb:PE X b tb)(hm:behindInMarks op b=false):PT X (.Compare a [op] [b] pos) (QBJ (tOp r ta tb)):=by
 intro pins s σ H Q I h;refine wpAny_isTrue_Compare1 (thn (ha pins s σ H _ I h) λv s1 ⟨x,H1,I1,r1,q1⟩=>thn (hb pins s1 σ H1 _ I1 q1) λu s2 ⟨y,H2,I2,r2,q2⟩=>
  thn (ho pins s2 σ H2 x y v u _ I2 r1 r2 q2) λc s3 ⟨z,H3,I3,r3,k,e,q3⟩=>?_) hm
 subst e;cases r3;exact wpAny_truthy_bool ⟨H3,I3,q3⟩
def Qw2(K:Fgg)(x:V)(H:Hp)(k:Bool):Prop:=
 match x with
 | .non=>k=false
 | .bl b=>k=b
 | .int i=>k=(i != 0)
 | .str y=>y.length<=sizeLine/\k=((y.length:Int) != 0)
 | .byt y=>y.size<=sizeLine/\k=((y.size:Int) != 0)
 | .ref p=>(∃xs,SqL K H p xs/\k= !xs.isEmpty)∨(∃xs,SqT K H p xs/\k= !xs.isEmpty)∨∃kvs,H p=some (.dK kvs)/\k= !kvs.isEmpty
 | _=>False
theorem Qsk{κ:Type}{kvs:List (κ×V)}{vs:List (κ×Value)}(r:KV kvs vs):(!vs.isEmpty)= !kvs.isEmpty:=by
 cases r<;>rfl
theorem QlX{xs:List V}{its:List Value}(r:QM xs its):(!its.toArray.isEmpty)= !xs.isEmpty:=by
 cases r<;>simp
theorem QhA:(sizeLine:Nat)<2^63:=by rw[sizeLine_eq];decide
theorem Ql5:QC1 X (λx H Q=>∃k,Qw2 X.K x H k/\Q k H):=by
 intro pins s σ H x v Q I rx h;obtain⟨k,e,q⟩:=h;have hl:=QhA;have hs:sizeLine=16777216:=sizeLine_eq;cases x with
 | non=>
  cases rx;have e':k=false:=e;subst e';exact truthy_none ⟨H,I,q⟩
 | bl b=>
  cases rx;have e':k=b:=e;subst e';exact wpAny_truthy_bool ⟨H,I,q⟩
 | int i=>
  obtain⟨t,rfl⟩:=rx;have e':k=(i != 0):=e;subst e';exact PySem.P.truthy_int ⟨H,I,q⟩
 | str y=>
  obtain⟨t,rfl⟩:=rx;obtain⟨hy,e'⟩:y.length<=sizeLine/\k=((y.length:Int) != 0):=e;subst e';exact PySem.P.truthy_str ⋯ ⟨H,I.tok _,q⟩
 | byt y=>
  obtain⟨t,rfl⟩:=rx;obtain⟨hy,e'⟩:y.size<=sizeLine/\k=((y.size:Int) != 0):=e;subst e';exact PySem.W.truthy_bytes ⋯ ⟨H,I.tok _,q⟩
 | ref p=>
  cases rx;have e':(∃xs,SqL X.K H p xs/\k= !xs.isEmpty)∨(∃xs,SqT X.K H p xs/\k= !xs.isEmpty)∨∃kvs,H p=some (.dK kvs)/\k= !kvs.isEmpty:=e;rcases e' with⟨xs,hx,e'⟩ | ⟨xs,hx,e'⟩ | ⟨kvs,hx,e'⟩
  ·subst e';obtain⟨its,r,pl,hz⟩:=I.list hx;have hlen:=r.length;exact wpAny_truthy_list pl.isList (by simp only[Zw];omega) ⟨H,I.tok _,by rw[QlX r];exact q⟩
  ·subst e';obtain⟨its,r,pl,hz⟩:=I.tuple hx;have hlen:=r.length;exact truthy_tuple pl (by simp only[Zw];omega) ⟨H,I.tok _,by rw[QlX r];exact q⟩
  ·subst e';obtain⟨hz,hS,vs,r,m⟩:kvs.length<=sizeLine/\(p == sysModules)=false/\∃vs,KV kvs vs/\s.heap.DictOf (QmO X.prog X.w) p vs:=I.hok p _ hx;have hlen:kvs.length=vs.length:=Paired.length r;exact wpAny_truthy_dict hS m ⋯ ⟨H,I.tok _,by rw[Qsk r];exact q⟩
 | _=>exact(show False from e).elim
theorem QvP(ha:PE X a ta)(he:∀whole,isTrue a X.env whole=(do let v ← whole;standAt a.pos;holding [v] (truthy v))):
  PT X a (λσ H Q=>ta σ H λx H'=>∃k,Qw2 X.K x H' k/\Q k H'):=by
 intro pins s σ H Q I h;exact isTrue_plain (thn (ha pins s σ H _ I h) λv s1 ⟨x,H1,I1,r1,q1⟩=>Ql5 pins s1 σ H1 x v Q I1 r1 q1) (he _)
theorem vals1{x:V}{us:List Value}(r:QM [x] us):∃u,us=[u]/\RelV x u:=by
 cases r with
 | cons r1 r2=>cases r2;exact⟨_,rfl,r1⟩
theorem vals2{x y:V}{us:List Value}(r:QM [x,y] us):∃u w',us=[u,w']/\RelV x u/\RelV y w':=by
 cases r with
 | cons r1 r2=>
  cases r2 with
  | cons r3 r4=>cases r4;exact⟨_,_,rfl,r1,r3⟩
theorem Qva:QcT X (.builtin "abs") (λxs H Q=>∃i,xs=[.int i]/\Q (.int (if i<0 then-i else i)) H):=by
 intro pins s σ H xs us Q I r h;obtain⟨i,rfl,q⟩:=h;obtain⟨u,rfl,t,rfl⟩:=vals1 r;exact call_abs_int λu tk=>⟨.int (if i<0 then-i else i),H,I.tok _,⟨_,rfl⟩,q⟩
theorem QtS(hc:X.calm=true):QcT X (.builtin "max") (λxs H Q=>∃i j,xs=[.int i,.int j]/\Q (.int (if j>i then j else i)) H):=by
 intro pins s σ H xs us Q I r h;obtain⟨i,j,rfl,q⟩:=h;obtain⟨u,w',rfl,⟨t,rfl⟩,⟨t',rfl⟩⟩:=vals2 r;refine max_two_ints (I.ok.hd hc) λh' tk k=>⟨_,H,I.kept k,?_,q⟩;by_cases hj:j>i
 ·rw[if_pos hj,if_pos hj];exact⟨_,rfl⟩
 ·rw[if_neg hj,if_neg hj];exact⟨_,rfl⟩
theorem QuJ(hc:X.calm=true):QcT X (.builtin "min") (λxs H Q=>∃i j,xs=[.int i,.int j]/\Q (.int (if j<i then j else i)) H):=by
 intro pins s σ H xs us Q I r h;obtain⟨i,j,rfl,q⟩:=h;obtain⟨u,w',rfl,⟨t,rfl⟩,⟨t',rfl⟩⟩:=vals2 r;refine min_two_ints (I.ok.hd hc) λh' tk k=>⟨_,H,I.kept k,?_,q⟩;by_cases hj:j<i
 ·rw[if_pos hj,if_pos hj];exact⟨_,rfl⟩
 ·rw[if_neg hj,if_neg hj];exact⟨_,rfl⟩
end
structure QDO (h:Heap) (x dx C:Addr) (mA:Str->Option Value):Prop where
 obj:h.get? x=some (PySem.W.instObj C dx)
 ns:h.Ns1 dx mA
 ne:dx≠x
section
variable {prog:Program}{w:World}{A:Around}{E:Value->Shared->Prop}{s:Shared}{K:Fgg}{x dx C f:Addr}{mA:Str->Option Value}{name:Str}{v:Value}
end
section
variable {P:Program}{w:World}{H H':Hp}{h h':Heap}{a C dx:Addr}{fs fs':List (Str×V)}
end
structure Cls (K:Fgg) (C:Addr):Prop where
 pg:PySem.W.plainGet K C Str.empty=true
 hd:PySem.W.hasDictIn K C=true
 po:PySem.W.plainOver K C=true
 sa:PySem.W.findIn K (.ref C) "__setattr__" =some (some (.builtin "object.__setattr__"))
structure Con (K:Fgg) (C:Addr) (f:Str) (v:V) (u:Value):Prop where
 at_:PySem.W.findIn K (.ref C) f=some (some u)
 rel:RelV v u
 get:PySem.W.specialIn K u "__get__" =some none
 cp:PySem.W.copiedNames.contains f=false
structure QDP (K:Fgg) (C:Addr) (m:Str) (f:Addr):Prop where
 at_:PySem.W.findIn K (.ref C) m=some (some (.ref f))
 fn:PySem.W.isFn K (.ref f)=true
 kp:PySem.W.keepIn K (.ref f)=true
section
variable {X:Cx}{pins:List (Addr×Obj)}{σ:St}{H:Hp}{s:Shared}{a C dx:Addr}{fs:List (Str×V)}{f:Str}{v:V}{A:Around}{E:Value->Shared->Prop}
end
section
variable {X:Cx}{o e value:Expr}{f:Str}{pos pos' tpos:Pos}{ta tv:TE}
end
section
variable {X:Cx}{pins:List (Addr×Obj)}{σ:St}{H:Hp}{s:Shared}{A:Around}{E:Value->Shared->Prop}{Q:Value->Shared->Prop}{c:Value}{b:Bool}
end
structure Qbx (k:Nat) (A:Around):Prop where
 hd:A.handled=none
 dp:A.depth+3*k+5<recursionLimit
 un:A.units+16*k+200<cLine
theorem Qbx.mono{j k:Nat}{A:Around}(r:Qbx k A)(h:j<=k):Qbx j A:=⟨r.hd,by have:=r.dp;omega,by have:=r.un;omega⟩
theorem Qbx.deeper{k:Nat}{A:Around}(r:Qbx (k+1) A)(env:Env):Qbx k (A.deeper env):=
 ⟨r.hd,by have:=r.dp;show A.depth+1+3*k+5<_;omega,by have:=r.un;show A.units+3+16*k+200<_;omega⟩
theorem Qbx.depth{k:Nat}{A:Around}(r:Qbx k A):A.depth<recursionLimit:=by have:=r.dp;omega
theorem Qbx.units{k:Nat}{A:Around}(r:Qbx k A):A.units+64<cLine:=by have:=r.un;omega
noncomputable def Qpl:TA:=λ_ H Q=>Q [] H
noncomputable def Qh2(ta:TE)(tr:TA):TA:=λσ H Q=>ta σ H λx H1=>tr σ H1 λxs H2=>Q (x::xs) H2
section
variable {X:Cx}{e:Expr}{es:List Expr}{te:TE}{t:TA}{pos:Pos}
theorem Qc1:PA X [] Qpl:=λ_ _ _ _ H Q I h=>Calls.spliced_nil ⟨[],H,I,.nil,h⟩
theorem Qap(ha:PE X e te)(hr:PA X es t)(hs:starEach (e::es) X.env=(false,eval e X.env)::starEach es X.env:=by rfl):PA X (e::es) (Qh2 te t):=by
 intro pos pins s σ H Q I h;rw[hs];show wpAny _ _ (spliced ((false,eval e X.env)::backTo pos (starEach es X.env))) _ _ s;refine Calls.spliced_cons (thn (ha pins s σ H _ I h) λu s1=>exJ λx H1 I1 r1 q1=>?_);exact thn (hr pos pins s1 σ H1 _ I1 q1) λus s2 ⟨xs,H2,I2,r2,q2⟩=>⟨x::xs,H2,I2,.cons r1 r2,q2⟩
noncomputable def Qzx(t:TA):TE:=λσ H Q=>t σ H λxs H1=>xs.length<=sizeLine/\∀p,H1 p=none->Q (.ref p) (upd H1 p (.tup xs))
noncomputable def QDh(t:TA):TE:=λσ H Q=>t σ H λxs H1=>xs.length<=sizeLine/\∀p,H1 p=none->Q (.ref p) (upd H1 p (.lst xs))
theorem QtU{x1}(h:PA X es t):PE X (.Tuple es x1 pos) (Qzx t):=by
 intro pins s σ H Q I hq;refine wpAny_Tuple_spliced (thn (h pos pins s σ H _ I hq) λus s1 ⟨xs,H1,I1,r,z,q⟩=>⟨by rw[← r.length];exact z,?_⟩);have hf:H1 s1.heap.objs.size=none:=I1.hok.fresh (Zj _);refine⟨.ref s1.heap.objs.size,upd H1 s1.heap.objs.size (.tup xs),I1.laid (t':=s1.toks) (λb u e=>Zb _ e) (Zj _) ?_,rfl,q _ hf⟩;exact⟨z,us,r,⟨_,Zz _ rfl,rfl,_,rfl⟩⟩
theorem QAZ(h:PA X es t):PE X (.List es pos) (QDh t):=by
 intro pins s σ H Q I hq;refine wpAny_List_spliced (thn (h pos pins s σ H _ I hq) λus s1 ⟨xs,H1,I1,r,z,q⟩=>⟨by rw[← r.length];exact z,?_⟩);have hf:H1 s1.heap.objs.size=none:=I1.hok.fresh (Zj _);refine⟨.ref s1.heap.objs.size,upd H1 s1.heap.objs.size (.lst xs),I1.laid (t':=s1.toks) (λb u e=>Zb _ e) (Zj _) ?_,rfl,q _ hf⟩;exact⟨z,us,0,r,Zz _ rfl⟩
end
noncomputable abbrev Sp:=List V->Hp->VK->XK->Prop
noncomputable abbrev CXT:=List Env->Hp->Shared->XK->Value->Shared->Prop
structure QsO (P:Program) (w:World) (K:Fgg) (mg:Str->Option Value) (base:Heap) (A:Around) (outer:List Env) (s:Shared) (H:Hp):Prop where
 frames:A.frames=some outer
 mod:Mod K mg base
 bs:∀b o,base.get? b=some o->s.heap.get? b=some o/\H b=none
 bsz:base.objs.size<=s.heap.objs.size
 Qet:s.heap.FunFrames base outer
 frf:∀b∈frs outer,H b=none
 hok:HOk P w H s.heap
 bare:AllBare s.gens
def CE(outer:List Env)(P:Program)(w:World)(H:Hp)(s:Shared)(Q:VK)(u:Value)(s':Shared):Prop:=
 ∃v H',s'.os=s.os/\AllBare s'.gens/\Un (frs outer) [] H H' s.heap s'.heap/\HOk P w H' s'.heap/\RelV v u/\Q v H'
def CR(CX:CXT)(outer:List Env)(P:Program)(w:World)(H:Hp)(s:Shared)(Q:VK)(E:XK)(r:Result)(s':Shared):Prop:=
 match r with
 | .ok (.ret u)=>CE outer P w H s Q u s'
 | .ok _=>False
 | .error e=>CX outer H s E e s'
structure QcF (P:Program) (w:World) (K:Fgg) (mg:Str->Option Value) (base:Heap) (CX:CXT) (k:Nat) (f:Addr) (fd:FuncData) (ps:List Str) (sp:Sp):Prop where
 len:∀vs H Q E,sp vs H Q E->vs.length=ps.length
 run:∀(A:Around) (outer:List Env) (s:Shared) (H:Hp) (args:Args) (us:List Value) (vs:List V) (Q:VK) (E:XK),Qbx k A->QsO P w K mg base A outer s H->BindsTo s fd args (ps.zip us)->QM vs us->sp vs H Q E→
  codeAny (model P w) A (.call (.ref f) args) (CR CX outer P w H s Q E) s
theorem QcF.mono{P:Program}{w:World}{K:Fgg}{mg:Str->Option Value}{base:Heap}{CX:CXT}{j k:Nat}{f:Addr}{fd:FuncData}{ps:List Str}{sp:Sp}(F:QcF P w K mg base CX j f fd ps sp)(h:j<=k):
  QcF P w K mg base CX k f fd ps sp:=⟨F.len,λA outer s H args us vs Q E hr=>F.run A outer s H args us vs Q E (hr.mono h)⟩
section
variable {X:Cx}{pins:List (Addr×Obj)}{σ:St}{H:Hp}{s s':Shared}
theorem Inv.QAF(I:Inv X pins σ H s):QsO X.prog X.w X.K X.mg X.base X.A X.stack s H:=
 ⟨I.ok.frames,I.ok.mod,I.bs,Zo I.ok.bsz I.sz,I.stack,I.Qns,I.hok,I.bare⟩
theorem Inv.after{Q:VK}{u:Value}(I:Inv X pins σ H s)(h:CE X.stack X.prog X.w H s Q u s'):EP X pins σ Q u s':=by
 obtain⟨v,H',os,bare,un,hok,r,q⟩:=h;obtain⟨hh,g,d,t,os'⟩:=s';obtain rfl:os'=s.os:=os;exact⟨v,H',I.call (h':=hh) (g':=g) (d':=d) (t':=t) (ch:=[]) un hok bare (λb z=>absurd z (by simp)),r,q⟩
end
noncomputable def QrM(sp:Sp)(dvs:List V)(E:XK)(t:TA):TE:=λσ H Q=>t σ H λvs H1=>sp (vs++dvs) H1 Q E
def Binds(K:Fgg)(fd:FuncData)(ps:List Str)(ds:List Value):Prop:=
 ∀(s:Shared) (us:List Value),K.In s.heap->(us++ds).length=ps.length->BindsTo s fd ⟨us,[]⟩ (ps.zip (us++ds))
theorem Binds.all{K:Fgg}{fd:FuncData}{ps:List Str}(h:∀us:List Value,us.length=ps.length->bindArgs fd ⟨us,[]⟩=pure (ps.zip us)):Binds K fd ps []:=λs us _ hl=>by
 rw[ZaO]at hl ⊢;exact .of_eq (h us hl)
def QlW(CX:CXT)(X:Cx)(E:XK):Prop:=∀(pins:List (Addr×Obj)) (σ:St) (H:Hp) (s:Shared) (e:Value) (s':Shared),Inv X pins σ H s->CX X.stack H s E e s'->X.xe e s'
section
variable {X:Cx}{CX:CXT}{k:Nat}{f C:Addr}{fd:FuncData}{ps:List Str}{sp:Sp}{dvs:List V}{ds:List Value}{E:XK}{x m:Str}{p pos apos:Pos}{e o:Expr}{es:List Expr}{ta:TE}{t:TA}
theorem Qt5{pins:List (Addr×Obj)}{σ:St}{H:Hp}{s:Shared}{Q:VK}{us:List Value}{vs:List V}(F:QcF X.prog X.w X.K X.mg X.base CX k f fd ps sp)(hr:Qbx k X.A)(hb:Binds X.K fd ps ds)(hd:QM dvs ds)(hx:QlW CX X E)
  (I:Inv X pins σ H s) (r:QM vs us) (h:sp (vs++dvs) H Q E):wpAny (model X.prog X.w) X.A (call (.ref f) us) (EP X pins σ Q) X.xe s:=by
 have r2:QM (vs++dvs) (us++ds):=r.append hd;have hl:(us++ds).length=ps.length:=by rw[← r2.length];exact F.len _ _ _ _ h
 refine wpAny_call (codeAny_mono (F.run X.A X.stack s H ⟨us,[]⟩ (us++ds) (vs++dvs) Q E hr I.QAF (hb s us I.kIn hl) r2 h) λr s' hq=>?_);cases r with
 | error e=>exact hx pins σ H s e s' I hq
 | ok fl=>
  cases fl with
  | ret u=>exact I.after hq
  | next=>exact False.elim hq
  | brk=>exact False.elim hq
  | cont=>exact False.elim hq
theorem Qx4(F:QcF X.prog X.w X.K X.mg X.base CX k f fd ps sp)(hr:Qbx k X.A)(hg:Gl X x)(hm:X.mg x=some (.ref f))(hk:PySem.W.keepIn X.K (.ref f)=true)(hb:Binds X.K fd ps ds)(hd:QM dvs ds)(hx:QlW CX X E)
  (ha:PA X (e::es) t) (hdb:(x == ("__debug__" :Str))=false:=by decide) (he:starEach (e::es) X.env=(false,eval e X.env)::starEach es X.env:=by rfl) (hpl:(backTo pos (starEach es X.env)).any (·.1)=false:=by rfl):
  PE X (.Call (.Name x p) (e::es) [] pos) (QrM sp dvs E t):=by
 intro pins s σ H Q I h;refine wpAny_Call_Name_kw (QfI I hg hm ?_ hdb);refine PySem.W.callWith_K (h₀:=X.base) I.ok.mod.kin hk (thn (ha pos pins s σ H _ I h) λus s1 ⟨vs,H1,I1,r,q⟩=>⟨I1.kIn,?_⟩) he hpl;exact Qt5 F hr hb hd hx I1 r q
theorem Qv2(F:QcF X.prog X.w X.K X.mg X.base CX k f fd ps sp)(hr:Qbx k X.A)(hg:Gl X x)(hm:X.mg x=some (.ref f))(hk:PySem.W.keepIn X.K (.ref f)=true)(hb:Binds X.K fd ps ds)(hd:QM dvs ds)(hx:QlW CX X E)
  (hdb:(x == ("__debug__" :Str))=false:=by decide):PE X (.Call (.Name x p) [] [] pos) (QrM sp dvs E Qpl):=by
 intro pins s σ H Q I h;refine wpAny_Call_Name_kw (QfI I hg hm ?_ hdb);exact PySem.W.callWith_K0 I.kIn hk (Qt5 (us:=[]) F hr hb hd hx I .nil h)
structure Mk (K:Fgg) (C f:Addr):Prop where
 makes:PySem.W.makesIn K C=true
 init:PySem.W.findIn K (.ref C) "__init__" =some (some (.ref f))
 fn:PySem.W.isFn K (.ref f)=true
 kp:PySem.W.keepIn K (.ref C)=true
end
section
variable {X:Cx}{CX:CXT}{k:Nat}{f C:Addr}{fd:FuncData}{ps ks:List Str}{sp:Sp}{E:XK}{x m:Str}{p pos apos kpos:Pos}{e o:Expr}{es:List Expr}{kws:List Keyword}{te ta:TE}{t tk:TA}{nm:Option Str}
structure QDN (K:Fgg) (fd:FuncData) (ps ks:List Str) (g:List Value->List Value->List Value) (gV:List V->List V->List V):Prop where
 to:∀(s:Shared) (us ws:List Value),K.In s.heap->(g us ws).length=ps.length->BindsTo s fd ⟨us,ks.zip ws⟩ (ps.zip (g us ws))
 rel:∀{vs:List V}{us:List Value}{zs:List V}{ws:List Value},QM vs us->QM zs ws->QM (gV vs zs) (g us ws)
variable {g:List Value->List Value->List Value}{gV:List V->List V->List V}
end
structure Qcn (N P:List Str) (sc:Scope):Prop where
 kind:sc.kind= .function
 co:sc.isCoroutine=false
 gen:sc.isGenerator=false
 nd:N.Nodup
 pre:N.take P.length=P
 par:∀x∈P,sc.names.lookup x=some .local ∨sc.names.lookup x=some .cell
 nofree:∀y∈sc.names,y.2≠ .free
theorem QnV{kindOf:Str->Option NameKind}{x:Str}:∀{binds:List (Str×Value)}{m:Str->Option Value},(∀v,(x,v)∉binds)->bindL kindOf binds m x=m x
 | [],_,_=>rfl
 | (n,v)::r,m,h=>by
  unfold bindL;rw[QnV λw hw=>h w (Zc _ hw)];split
  ·have:x≠n:=by rintro rfl;exact h v Zl
   simp[this]
  ·rfl
theorem Qn2{kindOf:Str->Option NameKind}{x:Str}:∀{binds:List (Str×Value)}{m:Str->Option Value},(∀v,(x,v)∉binds)->bindC kindOf binds m x=m x
 | [],_,_=>rfl
 | (n,v)::r,m,h=>by
  unfold bindC;rw[Qn2 λw hw=>h w (Zc _ hw)];split
  ·rfl
  ·have:x≠n:=by rintro rfl;exact h v Zl
   simp[this]
theorem Qod{kindOf:Str->Option NameKind}{x:Str}{v:Value}:∀{P:List Str}{vs:List Value}{i:Nat}{m:Str->Option Value},P.Nodup->P[i]? =some x->vs[i]? =some v->kindOf x=some .local →
  bindL kindOf (P.zip vs) m x=some v
 | [],_,_,_,_,h,_,_=>by simp at h
 | _::_,[],_,_,_,_,h,_=>by simp at h
 | p::P,w::vs,0,m,nd,h1,h2,hk=>by
  simp at h1 h2;subst h1;subst h2;show bindL kindOf ((p,w)::P.zip vs) m p=_;unfold bindL;rw[QnV λv hv=>(ZaC.mp nd).1 (Zcc hv).1,if_pos hk];simp
 | p::P,w::vs,i+1,m,nd,h1,h2,hk=>by
  show bindL kindOf ((p,w)::P.zip vs) m x=_;unfold bindL;exact Qod (i:=i) (ZaC.mp nd).2 (by simpa using h1) (by simpa using h2) hk
theorem QnN{kindOf:Str->Option NameKind}{x:Str}{v:Value}:∀{P:List Str}{vs:List Value}{i:Nat}{m:Str->Option Value},P.Nodup->P[i]? =some x->vs[i]? =some v->kindOf x≠some .local →
  bindC kindOf (P.zip vs) m x=some v
 | [],_,_,_,_,h,_,_=>by simp at h
 | _::_,[],_,_,_,_,h,_=>by simp at h
 | p::P,w::vs,0,m,nd,h1,h2,hk=>by
  simp at h1 h2;subst h1;subst h2;show bindC kindOf ((p,w)::P.zip vs) m p=_;unfold bindC;rw[Qn2 λv hv=>(ZaC.mp nd).1 (Zcc hv).1,if_neg hk];simp
 | p::P,w::vs,i+1,m,nd,h1,h2,hk=>by
  show bindC kindOf ((p,w)::P.zip vs) m x=_;unfold bindC;exact QnN (i:=i) (ZaC.mp nd).2 (by simpa using h1) (by simpa using h2) hk
noncomputable def start(N:List Str)(vs:List V):St:=vs.map some++List.replicate (N.length-vs.length) none
noncomputable def Qfh(CX:CXT)(P:Program)(w:World)(K:Fgg)(mg:Str->Option Value)(base:Heap)(N:List Str)(qual:Str)(scope:Scope)(f:Addr)(cd:Value)(A:Around)(outer:List Env)(s:Shared)(H:Hp)(E:XK):Cx where
 prog:=P
 w:=w
 K:=K
 mg:=mg
 base:=base
 A:=A.deeper (envOfC qual scope s.heap.objs.size f cd)
 N:=N
 s₀:=s
 H₀:=H
 env:=envOfC qual scope s.heap.objs.size f cd
 outer:=outer
 stack:=envOfC qual scope s.heap.objs.size f cd::outer
 ex:=[]
 calm:=decide (A.handled=none)
 fn:=λ_=>true
 pn:=[]
 xe:=λe s'=>wpAny (model P w) (A.deeper (envOfC qual scope s.heap.objs.size f cd)) (leaving (envOfC qual scope s.heap.objs.size f cd) e) (λ_ s''=>CX outer H s E e s'') (λe' s''=>CX outer H s E e' s'') s'
theorem QoY{sc:Scope}{n:Nat}{x:Str}(h:sc.names.lookup x=some .cell):∃c,(cellsFrom n sc.names []).lookup x=some c:=by
 have q:=ZbX sc.names n [] (.inl h);exact ZbN.mp q
theorem QtK{CX:CXT}{P:Program}{w:World}{K:Fgg}{mg:Str->Option Value}{base:Heap}{N ps:List Str}{qual:Str}{scope:Scope}{f:Addr}{cd:Value}{A:Around}{outer:List Env}{s s1:Shared}{H:Hp}{E:XK}{us:List Value}{vs:List V}
  (S:Qcn N ps scope) (e0:QsO P w K mg base A outer s H) (hl:vs.length=ps.length) (r:QM vs us)
  (x:InCallC s s.heap.objs.size (bindL (envOfC qual scope s.heap.objs.size f cd).kindOf (ps.zip us) λ_=>none) (cellsFrom (s.heap.objs.size+1) scope.names []) (bindC (envOfC qual scope s.heap.objs.size f cd).kindOf (ps.zip us) λ_=>none) s1):
  Inv (Qfh CX P w K mg base N qual scope f cd A outer s H E) [] (start N vs) H s1:=by
 have hpl:ps.length<=N.length:=by have:=congrArg List.length S.pre;rw[ZbP]at this;omega
 obtain⟨h1,tk,rfl,hk⟩:=x.done;have noA:∀b:Addr,b∉(Qfh CX P w K mg base N qual scope f cd A outer s H E).ex:=λb z=>absurd (show b∈([]:LAd)from z) (by simp)
 refine⟨⟨e0.mod,S.kind,rfl,rfl,Zj _,λy z c h1 h2=>?_,λy hy=>?_,λy c _ h=>?_,λh=>of_decide_eq_true h,Around.frames_deeper e0.frames,.inr ⟨rfl,rfl⟩,λb z=>absurd z (noA b),e0.bs,e0.bsz,λb _ _=>noA b,λb z=>absurd z (noA b),e0.Qet,e0.frf⟩,
  rfl,e0.bare,Un.kept hk,⟨_,x.toInCall.ns,λi y v h1 h2 h3=>?_⟩,λy c h=>⟨_,x.cell y c h⟩,e0.hok.fresh (Zj _),λy c h=>?_,λp hp=>absurd (show p∈([]:List (Addr×Obj))from hp) (by simp),e0.hok.kept hk,?_⟩
 ·exact name_of_addr x.apart (Zal h1) (Zal h2)
 ·have hy:scope.names.lookup y=some .cell∨scope.names.lookup y=some .free:=hy;rcases hy with hy | hy
  ·exact QoY hy
  ·exact absurd rfl (S.nofree _ (Zal hy))
 ·exact Zbc (x.above y c (Zal h))
 ·have hi:i<vs.length:=by
   unfold start at h2;by_cases hi:i<vs.length
   ·exact hi
   ·rw[ZbK (by simpa using hi),ZbQ]at h2;split at h2<;>cases h2
  have ha:vs[i]? =some v:=by
   unfold start at h2;rw[Zbe (by simpa using hi),Zs]at h2;cases e:vs[i]? with
   | none=>rw[e]at h2;cases h2
   | some a=>rw[e]at h2;cases h2;rfl
  obtain⟨u,hu,rv⟩:=r.get ha;have hp:ps[i]? =some y:=by
   rw[← S.pre,List.getElem?_take_of_lt ⋯];exact h1
  have ndP:ps.Nodup:=by rw[← S.pre];exact S.nd.sublist (List.take_sublist _ _)
  refine⟨u,rv,?_⟩;rcases S.par y (Zax hp)with k | k
  ·exact .inl ⟨k,Qod ndP hp hu k⟩
  ·obtain⟨c,e⟩:=QoY (n:=s.heap.objs.size+1) k;refine .inr ⟨.inl k,c,e,?_⟩;have q:=x.cell y c e;rw[QnN ndP hp hu (by show scope.names.lookup y≠_;rw[k];decide)]at q;exact q
 ·exact e0.hok.fresh (Zbc (x.above y c (Zal h)))
 ·unfold start;show _=N.length;rw[Zy,Zq,List.length_replicate];omega
theorem Qxp{CX:CXT}{P:Program}{w:World}{K:Fgg}{mg:Str->Option Value}{base:Heap}{k:Nat}{f:Addr}{name qual:Str}{params:Arguments}{body:List Stmt}{scope:Scope}{dV kV doc pm cdv ct oc:Value}{an od:Option Addr}
  {osl:Array (Option Value)}{N ps:List Str}{sp:Sp}(lk:K.lookup f=some ⟨oc,od,.func (PySem.W.fnOf name qual params body scope dV kV doc pm an cdv ct),osl⟩) (hcd:PySem.W.codeIn K cdv qual=true) (S:Qcn N ps scope)
  (len:∀vs H Q E,sp vs H Q E->vs.length=ps.length)
  (hbody:∀(A:Around) (outer:List Env) (s:Shared) (H:Hp) (vs:List V) (Q:VK) (E:XK),Qbx k (A.deeper (envOfC qual scope s.heap.objs.size f cdv))->sp vs H Q E→
   ∃t,PSs (Qfh CX P w K mg base N qual scope f cdv A outer s H E) body t/\t {nx:=λ_ H'=>Q .non H',rt:=Q} (start N vs) H):
  QcF P w K mg base CX (k+1) f (PySem.W.fnOf name qual params body scope dV kV doc pm an cdv ct) ps sp:=by
 refine⟨len,λA outer s H args us vs Q E hr e0 hb r hsp=>?_⟩;have hl:=len _ _ _ _ hsp;have KX:K.In s.heap:=e0.mod.kin.keeps λb o e=>(e0.bs b o e).1;have lim:s.heap.NoLimit:=e0.mod.nolimit.keeps λb o e=>(e0.bs b o e).1;have hkind:∀y∈ps.zip us,scope.names.lookup y.1=some .local ∨(scope.names.lookup y.1=some .cell/\((cellsFrom (s.heap.objs.size+1) scope.names []).lookup y.1).isSome=true):=λZ hy=>by
  obtain⟨n,v⟩:=Z;rcases S.par n (Zcc hy).1 with q | q
  ·exact .inl q
  ·exact .inr ⟨q,ZbX _ _ _ (.inl q)⟩
 refine codeAny_call_function hr.depth (KX _ _ lk) rfl S.co S.gen rfl (PySem.W.codeRec_of KX hcd) (hb _ _ _ _ ?_);refine wpAny_newFunctionEnv_cells S.kind hkind λenv he s1 x=>?_;subst he;refine⟨lim.keeps x.toInCall.keep,codeAny_func ?_⟩;obtain⟨t,ht,hq⟩:=hbody A outer s H vs Q E (hr.deeper _) hsp;have I:Inv (Qfh CX P w K mg base N qual scope f cdv A outer s H E) [] (start N vs) H s1:=QtK S e0 hl r x;refine wpAny_mono (ht [] s1 (start N vs) H _ I hq) (λfl s' hs=>?_) λe s' hs=>hs
 have fin:∀{σ':St}{H':Hp}{v:V}{u:Value},Inv (Qfh CX P w K mg base N qual scope f cdv A outer s H E) [] σ' H' s'->RelV v u->Q v H'->CE outer P w H s Q u s':=
  λ{σ' H' v u} J rv q=>⟨v,H',J.os,J.bare,J.base,J.hok,rv,q⟩
 cases fl with
 | ret u=>
  obtain⟨v,σ',H',J,rv,q⟩:=hs;exact fin J rv q
 | next=>
  obtain⟨σ',H',J,q⟩:=hs;exact fin (v:=V.non) (u:=Value.none) J rfl q
 | brk=>
  obtain⟨_,_,_,q⟩:=hs;exact False.elim q
 | cont=>
  obtain⟨_,_,_,q⟩:=hs;exact False.elim q
section
variable {X:Cx}{x:Str}{p pos:Pos}{e:Expr}{es:List Expr}{t:TA}{id T:String}{r:List V->Hp->VK->Prop}
noncomputable def tCB(r:List V->Hp->VK->Prop)(t:TA):TE:=λσ H Q=>t σ H λvs H1=>r vs H1 Q
theorem QkG(hc:QcT X (.builtin id) r)(hg:Gl X x)(hm:X.mg x=none)(hv:bootBuiltins x=some (.builtin id))(ha:PA X (e::es) t)(hn:x≠ "__name__" :=by decide)(hdb:(x == ("__debug__" :Str))=false:=by decide)
  (he:starEach (e::es) X.env=(false,eval e X.env)::starEach es X.env:=by rfl) (hpl:(backTo pos (starEach es X.env)).any (·.1)=false:=by rfl):PE X (.Call (.Name x p) (e::es) [] pos) (tCB r t):=by
 intro pins s σ H Q I h;refine wpAny_Call_Name_kw (Qdx I hg hm hv ?_ hn hdb);exact PyProof.Rows.callWith_builtin1 (thn (ha pos pins s σ H _ I h) λus s1 ⟨vs,H1,I1,r1,q1⟩=>hc pins s1 σ H1 vs us Q I1 r1 q1) he hpl
theorem Qjk(hc:QcT X (.type T) r)(hg:Gl X x)(hm:X.mg x=none)(hv:bootBuiltins x=some (.type T))(ha:PA X (e::es) t)(hn:x≠ "__name__" :=by decide)(hdb:(x == ("__debug__" :Str))=false:=by decide)
  (he:starEach (e::es) X.env=(false,eval e X.env)::starEach es X.env:=by rfl) (hpl:(backTo pos (starEach es X.env)).any (·.1)=false:=by rfl):PE X (.Call (.Name x p) (e::es) [] pos) (tCB r t):=by
 intro pins s σ H Q I h;refine wpAny_Call_Name_kw (Qdx I hg hm hv ?_ hn hdb);exact Zad (thn (ha pos pins s σ H _ I h) λus s1 ⟨vs,H1,I1,r1,q1⟩=>hc pins s1 σ H1 vs us Q I1 r1 q1) he hpl
end
end L2
namespace HT
open PySem PyProof.Rows
section
open PySem.SeqAt
open PySem.AutoSeq1 (wpAny_loadPart')
open PySem.MeetsSeq PySem.MeetsSeq2 PySem.MeetsSeq3
end
section
variable {prog:Program}{w:World}{A:Around}{E:Value->Shared->Prop}{s:Shared}
noncomputable def sIx(n d:Nat):Option Int->Nat
 | none=>d
 | some v=>if v<0 then(v+(n:Int)).toNat else min v.toNat n
theorem Qo7(n d:Nat):sIx n d none=d:=rfl
theorem QrJ(n d k:Nat):sIx n d (some (k:Int))=min k n:=by
 show(if(k:Int)<0 then((k:Int)+(n:Int)).toNat else min (k:Int).toNat n)=min k n;rw[if_neg ⋯,ZQ]
end
end HT
namespace L2
open PySem PySem.Spec PyProof.Rows
noncomputable abbrev TO:=St->Hp->(Option Int->Hp->Prop)->Prop
def PO(X:Cx)(e:Option Expr)(t:TO):Prop:=
 ∀(pins:List (Addr×Obj)) (s:Shared) (σ:St) (H:Hp) (Q:Option Int->Hp->Prop),Inv X pins σ H s->t σ H Q→
  wpAny (model X.prog X.w) X.A (evalPart e X.env) (λu s'=>∃o H',Inv X pins σ H' s'/\IsPart u o/\Q o H') X.xe s
noncomputable def Qyr:TO:=λ_ H Q=>Q none H
noncomputable def QB4(t:TE):TO:=λσ H Q=>t σ H λx H1=>∃i,x= .int i/\Q (some i) H1
theorem intsAre_of{ns:List Int}:∀{us:List Value},QM (ns.map V.int) us->IntsAre us ns:=by
 induction ns with
 | nil=>intro us r;rw[List.map_nil]at r;cases r;exact .nil
 | cons n ns ih=>
  intro us r;rw[ZH]at r;cases r with
  | cons r1 r2=>
   obtain⟨t,e⟩:=r1;subst e;exact .cons n t (ih r2)
section
variable {X:Cx}{e:Expr}{te:TE}{lo hi:Option Expr}{tl th:TO}{pos p2:Pos}
theorem Qyi:PO X none Qyr:=by
 intro pins s σ H Q I h;rw[evalPart_none];exact wpAny_pure ⟨none,H,I,.none,h⟩
theorem QxZ(h:PE X e te):PO X (some e) (QB4 te):=by
 intro pins s σ H Q I hw;rw[evalPart_some];refine thn (h pins s σ H _ I hw) λu s1=>exJ λx H1 I1 r1 q1=>?_;obtain⟨i,rfl,q⟩:=q1;obtain⟨t,rfl⟩:=r1;exact⟨some i,H1,I1,.int i t,q⟩
def SlR(X:Cx)(r:V->Option Int->Option Int->Hp->VK->Prop):Prop:=
 ∀(pins:List (Addr×Obj)) (s:Shared) (σ:St) (H:Hp) (x:V) (v vl vu:Value) (lo hi:Option Int) (sl:Addr) (Q:VK),Inv X pins σ H s->RelV x v->s.heap.IsSliceOf sl vl vu .none->IsPart vl lo->IsPart vu hi->r x lo hi H Q→
  ∃T id,typeLookup (.type T) "__getitem__" =pure (some (.builtin id))/\s.TypeIs v T/\wpAny (model X.prog X.w) X.A (getItem v (.ref sl)) (EP X pins σ Q) X.xe s
noncomputable def tSl(r:V->Option Int->Option Int->Hp->VK->Prop)(te:TE)(tl th:TO):TE:=λσ H Q=>te σ H λx H1=>tl σ H1 λl H2=>th σ H2 λu H3=>r x l u H3 Q
theorem Qv9{r:V->Option Int->Option Int->Hp->VK->Prop}(hr:SlR X r)(he:PE X e te)(hl:PO X lo tl)(hu:PO X hi th):PE X (.Subscript e (.Slice lo hi none p2) pos) (tSl r te tl th):=by
 intro pins s σ H Q I h;refine Subscript_ (thn (he pins s σ H _ I h) λv s1=>exJ λx H1 I1 r1 q1=>?_);refine wpAny_Slice (thn (hl pins s1 σ H1 _ I1 q1) λvl s2 ⟨l,H2,I2,pl,q2⟩=>thn (hu pins s2 σ H2 _ I2 q2) λvu s3=>exJ λu H3 I3 pu q3=>?_);rw[evalPart_none];refine wpAny_pure ?_;have I4:Inv X pins σ H3 {s3 with heap:=s3.heap.push {cls:= .type "slice",data:= .fields #[vl,vu,.none]}}:=I3.kept (t':=s3.toks) λb ob q=>Zb _ q;obtain⟨T,id,hT,ht,hg⟩:=hr pins {s3 with heap:=s3.heap.push {cls:= .type "slice",data:= .fields #[vl,vu,.none]}} σ H3 x v vl vu l u s3.heap.objs.size Q I4 r1 (Heap.IsSliceOf.new ..) pl pu q3;show wpAny (model X.prog X.w) X.A (subscriptTail e (.Slice lo hi none p2) v (.ref s3.heap.objs.size)) (EP X pins σ Q) X.xe {s3 with heap:=s3.heap.push {cls:= .type "slice",data:= .fields #[vl,vu,.none]}};exact tail_any (ops:=[.ref s3.heap.objs.size,v]) ht hT hg (by with_unfolding_all rfl)
noncomputable def Qm6(xs:List V)(lo hi:Option Int):List V:=(xs.drop (HT.sIx xs.length 0 lo)).take (HT.sIx xs.length xs.length hi-HT.sIx xs.length 0 lo)
theorem Qqu(xs:List V)(lo hi:Option Int):(Qm6 xs lo hi).length<=xs.length:=by
 unfold Qm6;rw[ZbP,List.length_drop];omega
end
noncomputable def ixN(n:Nat)(i:Int):Option Nat:=if 0<=i then(if i<n then some i.toNat else none)else if-(n:Int)<=i then some (i+n).toNat else none
noncomputable def atI{α:Type}(xs:List α)(i:Int):Option α:=(ixN xs.length i).bind λj=>xs[j]?
theorem Qcq{n:Nat}{i:Int}{j:Nat}(h:ixN n i=some j):seqIndex? i n=some j/\j<n/\ -(n:Int)<=i/\i<n:=by
 unfold ixN at h;by_cases h0:0<=i
 ·rw[if_pos h0]at h;by_cases h1:i<n
  ·rw[if_pos h1]at h;have e:i.toNat=j:=Option.some.inj h;exact⟨by rw[seqIndex_of h0 h1,e],⋯,⋯,h1⟩
  ·rw[if_neg h1]at h;cases h
 ·rw[if_neg h0]at h;by_cases h1: -(n:Int)<=i
  ·rw[if_pos h1]at h;have e:(i+n).toNat=j:=Option.some.inj h;exact⟨by rw[seqIndex_neg ⋯ h1,e],⋯,h1,⋯⟩
  ·rw[if_neg h1]at h;cases h
theorem QmZ{α:Type}{xs:List α}{i:Int}{v:α}(h:atI xs i=some v):∃j,seqIndex? i xs.length=some j/\xs[j]? =some v/\j<xs.length/\ -(xs.length:Int)<=i/\i<xs.length:=by
 unfold atI at h;cases e:ixN xs.length i with
 | none=>rw[e]at h;cases h
 | some j=>
  rw[e]at h;obtain⟨h1,h2,h3,h4⟩:=Qcq e;exact⟨j,h1,h,h2,h3,h4⟩
def QhD(b:Expr):Prop:=∀o i,subscripted b false o i=operate [o,i] (getItem o i)
def IxR(X:Cx)(r:R2):Prop:=
 ∀(value slice:Expr) (pins:List (Addr×Obj)) (s:Shared) (σ:St) (H:Hp) (x y:V) (v u:Value) (Q:VK),Inv X pins σ H s->RelV x v->RelV y u->r x y H Q→
  subscripted slice false v u=operate [v,u] (getItem v u)->wpAny (model X.prog X.w) X.A (subscriptTail value slice v u) (EP X pins σ Q) X.xe s
def MtR(X:Cx)(id:String)(r:V->List V->Hp->VK->Prop):Prop:=
 ∀(pins:List (Addr×Obj)) (s:Shared) (σ:St) (H:Hp) (x:V) (xs:List V) (v:Value) (us:List Value) (Q:VK),Inv X pins σ H s->RelV x v->QM xs us->r x xs H Q→
  wpAny (model X.prog X.w) X.A (call (.builtin id) (v::us)) (EP X pins σ Q) X.xe s
section
variable {X:Cx}{a b:Expr}{ta tb:TE}{pos:Pos}
theorem IxR.or{r r':R2}(h:IxR X r)(h':IxR X r'):IxR X (λx y H Q=>r x y H Q∨r' x y H Q):=by
 intro value slice pins s σ H x y v u Q I rx ry q hs;rcases q with q | q
 ·exact h value slice pins s σ H x y v u Q I rx ry q hs
 ·exact h' value slice pins s σ H x y v u Q I rx ry q hs
theorem Qsd{r:R2}(hr:IxR X r)(ha:PE X a ta)(hb:PE X b tb)(hs:QhD b):PE X (.Subscript a b pos) (tOp r ta tb):=by
 intro pins s σ H Q I h;exact Subscript_ (Qvn ha hb I h λv u s2 x y H2 I2 rx ry q=>hr a b pins s2 σ H2 x y v u Q I2 rx ry q (hs _ _))
noncomputable def Qz5(K:Fgg):R2:=λx y H Q=>∃p xs i v,x= .ref p/\y= .int i/\SqL K H p xs/\atI xs i=some v/\Q v H
noncomputable def QDg(K:Fgg):R2:=λx y H Q=>∃p xs i v,x= .ref p/\y= .int i/\SqT K H p xs/\atI xs i=some v/\Q v H
theorem QrD:IxR X (Qz5 X.K):=by
 intro value slice pins s σ H x y v u Q I rx ry h hs;obtain⟨p,xs,i,z,rfl,rfl,hq,he,q⟩:=h;cases rx;obtain⟨t,rfl⟩:=ry;obtain⟨its,r,pl,hz⟩:=I.list hq;obtain⟨j,h1,h2,h3,h4,h5⟩:=QmZ he;obtain⟨w,ew,rw'⟩:=r.get h2;have hl:=r.length;have hn:=QhA;have fin:EP X pins σ Q w s:=⟨z,H,I,rw',q⟩;by_cases h0:0<=i
 ·have hj:i.toNat=j:=by
   rw[seqIndex_of h0 h5]at h1;exact Option.some.inj h1
  exact item_listR pl.isList h0 ⋯ (by rw[hj];simpa using ew) fin hs
 ·have hj:(i+(its.toArray.size:Int)).toNat=j:=by
   rw[seqIndex_neg ⋯ h4]at h1;rw[Zw,← hl];exact Option.some.inj h1
  exact subscriptTail_builtinR (x:=w) pl.isList.typeIs slot_list_getitem.lookup
   (wpAny_getItem_list_neg (Q:=λr s'=>r=w/\EP X pins σ Q r s') pl.isList ⋯ (by rw[Zw]<;>omega) ⋯ (by rw[hj];simpa using ew) ⟨rfl,fin⟩) hs
theorem QuF:IxR X (QDg X.K):=by
 intro value slice pins s σ H x y v u Q I rx ry h hs;obtain⟨p,xs,i,z,rfl,rfl,hq,he,q⟩:=h;cases rx;obtain⟨t,rfl⟩:=ry;obtain⟨its,r,pl,hz⟩:=I.tuple hq;obtain⟨j,h1,h2,h3,h4,h5⟩:=QmZ he;obtain⟨w,ew,rw'⟩:=r.get h2;have hl:=r.length;have hn:=QhA;have fin:EP X pins σ Q w s:=⟨z,H,I,rw',q⟩
 exact subscriptTail_builtinR (x:=w) pl.typeIs slot_tuple_getitem.lookup
  (getItem_tuple (j:=j) (Q:=λr s'=>r=w/\EP X pins σ Q r s') pl ⋯ ⋯ (by rw[Zw,← hl];exact h1) (by simpa using ew) ⟨rfl,fin⟩) hs
theorem Qsh(its:List Value)(n j:Nat)(u:Value):Obj.mapSeq (·.setIfInBounds j u) {cls:= .type "list",data:= .seq its.toArray n}={cls:= .type "list",data:= .seq (its.set j u).toArray n}:=by
 simp[Obj.mapSeq]
theorem Inv.lst{pins:List (Addr×Obj)}{σ:St}{H:Hp}{s:Shared}{p:Addr}{xs:List V}(I:Inv X pins σ H s)(h:H p=some (.lst xs)):
  ∃(its:List Value) (n:Nat),QM xs its/\s.heap.get? p=some {cls:= .type "list",data:= .seq its.toArray n}/\xs.length<=sizeLine:=by
 obtain⟨z,its,n,r,e⟩:=I.hok p _ h;exact⟨its,n,r,e,z⟩
theorem Inv.QzX{pins:List (Addr×Obj)}{σ:St}{H:Hp}{s:Shared}{p:Addr}{xs ys:List V}{its its':List Value}{n n':Nat}{f:Obj->Obj}(I:Inv X pins σ H s)(h:H p=some (.lst xs))
  (ho:s.heap.get? p=some {cls:= .type "list",data:= .seq its.toArray n}) (hf:f {cls:= .type "list",data:= .seq its.toArray n}={cls:= .type "list",data:= .seq its'.toArray n'}) (r:QM ys its') (hz:ys.length<=sizeLine) (t:Nat):
  Inv X pins σ (upd H p (.lst ys)) {s with heap:=s.heap.update p f,toks:=t}:=by
 have e:(s.heap.update p f).get? p=some {cls:= .type "list",data:= .seq its'.toArray n'}:=by
  rw[Heap.get?_update_self f ho (by rw[hf]<;>rfl),hf]
 refine I.write (x:=p) (e:=p) (by rw[h];trivial) (.inl rfl) (λb u hb q=>(Heap.get?_update_other _ _ (Ne.symm hb)).trans q) ⟨_,e⟩ ?_;exact⟨hz,its',n',r,e⟩
noncomputable def QgI:V->V->V->Hp->(Hp->Prop)->Prop:=λo i v H Q=>∃p xs k j,o= .ref p/\i= .int k/\H p=some (.lst xs)/\ixN xs.length k=some j/\Q (upd H p (.lst (xs.set j v)))
theorem set_list:Qv3 X QgI:=by
 intro pins s σ H o i v ov iv u Q I ro ri rv h;obtain⟨p,xs,k,j,rfl,rfl,hp,hj,q⟩:=h;cases ro;obtain⟨t,rfl⟩:=ri;obtain⟨its,n,r,ho,hz⟩:=I.lst hp;obtain⟨h1,h2,h3,h4⟩:=Qcq hj;have hl:=r.length;have hn:=QhA
 have I':Inv X pins σ (upd H p (.lst (xs.set j v))) {s with heap:=s.heap.update p (Obj.mapSeq (·.setIfInBounds j u))}:=
  I.QzX hp ho (Qsh its n j u) (r.set rv j) (by rw[ZY];exact hz) s.toks
 by_cases h0:0<=k
 ·have hk:k.toNat=j:=by
   rw[seqIndex_of h0 h4]at h1;exact Option.some.inj h1
  exact PySem.W.ki_setAt ho h0 ⋯ (by rw[Zw,← hl];exact h4) (by rw[hk];exact⟨_,I',q⟩)
 ·have hk:(k+(its.toArray.size:Int)).toNat=j:=by
   rw[seqIndex_neg ⋯ h3]at h1;rw[Zw,← hl];exact Option.some.inj h1
  exact PySem.W.ki_setBack ho ⋯ (by rw[Zw,← hl];exact h3) ⋯ (by rw[hk];exact⟨_,I',q⟩)
theorem Qo6(lo hi:Option Int)(n:Nat):(sliceBounds lo hi none n).1=((HT.sIx n 0 lo:Nat):Int)/\(sliceBounds lo hi none n).2.1=((HT.sIx n n hi:Nat):Int)/\(sliceBounds lo hi none n).2.2=1:=by
 refine⟨?_,?_,rfl⟩
 ·cases lo with
  | none=>simp[sliceBounds,HT.sIx]
  | some i=>
   simp only[sliceBounds,HT.sIx,Option.getD_none,show(1:Int)>0 by decide,if_true];by_cases h:i<0
   ·simp only[h,if_true]<;>omega
   ·simp only[h,if_false]<;>omega
 ·cases hi with
  | none=>simp[sliceBounds,HT.sIx]
  | some i=>
   simp only[sliceBounds,HT.sIx,Option.getD_none,show(1:Int)>0 by decide,if_true];by_cases h:i<0
   ·simp only[h,if_true]<;>omega
   ·simp only[h,if_false]<;>omega
theorem Qoi(its:List Value)(lo hi:Option Int):slicePick its.toArray lo hi none=((its.drop (HT.sIx its.length 0 lo)).take (HT.sIx its.length its.length hi-HT.sIx its.length 0 lo)).toArray:=by
 obtain⟨h1,h2,h3⟩:=Qo6 lo hi its.toArray.size;unfold slicePick;rw[h1,h2,h3];simp only[sliceRange_one,pick_run,Zw]<;>rfl
noncomputable def QDE(K:Fgg):V->Option Int->Option Int->Hp->VK->Prop:=λx lo hi H Q=>∃a xs,x= .ref a/\SqL K H a xs/\∀p,H p=none->Q (.ref p) (upd H p (.lst (Qm6 xs lo hi)))
theorem Qye:SlR X (QDE X.K):=by
 intro pins s σ H x v vl vu lo hi sl Q I rx hs pl pu h;obtain⟨a,xs,rfl,hx,q⟩:=h;cases rx;obtain⟨its,r,ht,hz⟩:=I.list hx;have hlen:=r.length;refine⟨"list",_,slot_list_getitem.lookup,ht.isList.typeIs,?_⟩;refine wpAny_getItem_list_slice ht.isList hs pl pu .none (by simp) ?_ (by rw[Zw]<;>omega);rw[Qoi,← hlen];refine⟨.ref s.heap.objs.size,_,I.laid (t':=s.toks) (o:= .lst (Qm6 xs lo hi)) (λb ob q=>Zb _ q) (Zj _) ?_,rfl,q _ (I.hok.fresh (Zj _))⟩;exact⟨Zo (Qqu xs lo hi) hz,_,0,(r.drop (HT.sIx xs.length 0 lo)).take (HT.sIx xs.length xs.length hi-HT.sIx xs.length 0 lo),Zz _ rfl⟩
theorem QpS:QcT X (.builtin "len") (λxs H Q=>∃p ys,xs=[.ref p]/\(SqL X.K H p ys∨SqT X.K H p ys)/\Q (.int ys.length) H):=by
 intro pins s σ H xs us Q I r h;obtain⟨p,ys,rfl,hq,q⟩:=h;obtain⟨u,rfl,rx⟩:=vals1 r;cases rx;have hn:=QhA;rcases hq with hq | hq
 ·obtain⟨its,r',pl,hz⟩:=I.list hq;have hlen:=r'.length;exact Calls.call_len_list pl.isList (by simp only[Zw]<;>omega) ⟨.int ys.length,H,I.tok _,⟨s.toks+1,by rw[Zw,hlen]⟩,q⟩
 ·obtain⟨its,r',pl,hz⟩:=I.tuple hq;have hlen:=r'.length;exact len_tuple pl (by simp only[Zw]<;>omega) ⟨.int ys.length,H,I.tok _,⟨s.toks+1,by rw[Zw,hlen]⟩,q⟩
theorem QiY:QcT X (.type "list") (λxs H Q=>∃p ys,xs=[.ref p]/\(SqL X.K H p ys∨SqT X.K H p ys)/\∀l,H l=none->Q (.ref l) (upd H l (.lst ys))):=by
 intro pins s σ H xs us Q I r h;obtain⟨p,ys,rfl,hq,q⟩:=h;obtain⟨u,rfl,rx⟩:=vals1 r;cases rx
 have fin:∀(its:List Value),QM ys its->ys.length<=sizeLine->∀(h':Heap) (c':Nat),(∀b o',s.heap.get? b=some o'->h'.get? b=some o')→
   h'.get? s.heap.objs.size=some {cls:= .type "list",dict:=none,data:= .seq its.toArray c',slots:= #[]}->EP X pins σ Q (.ref s.heap.objs.size) {s with heap:=h'}:=λits r' hz h' c' kp e=>
  ⟨.ref s.heap.objs.size,_,I.laid (t':=s.toks) kp (Zj _) (show Qb6 X.prog X.w _ h' _ (.lst ys)from⟨hz,its,c',r',e⟩),rfl,q _ (I.hok.fresh (Zj _))⟩
 rcases hq with hq | hq
 ·obtain⟨its,r',pl,hz⟩:=I.list hq;have hlen:=r'.length;obtain⟨o,ho,hc,n,hd⟩:=pl.isList;exact call_list_seq p (.inl rfl) ho hc hd (λh' c' kp e=>fin its r' hz h' c' kp e) (by simp only[Zw]<;>omega)
 ·obtain⟨its,r',pl,hz⟩:=I.tuple hq;have hlen:=r'.length;obtain⟨o,ho,hc,n,hd⟩:=pl;exact call_list_seq p (.inr rfl) ho hc hd (λh' c' kp e=>fin its r' hz h' c' kp e) (by simp only[Zw]<;>omega)
theorem Qor:QcT X (.type "tuple") (λxs H Q=>∃p ys,xs=[.ref p]/\((SqL X.K H p ys/\∀l,H l=none->Q (.ref l) (upd H l (.tup ys)))∨(SqT X.K H p ys/\Q (.ref p) H))):=by
 intro pins s σ H xs us Q I r h;obtain⟨p,ys,rfl,h⟩:=h;obtain⟨u,rfl,rx⟩:=vals1 r;cases rx;rcases h with⟨hq,q⟩ | ⟨hq,q⟩
 ·obtain⟨its,r',pl,hz⟩:=I.list hq;have hlen:=r'.length;refine call_tuple_list pl.isList (λh' kp=>?_) (by simp only[Zw]<;>omega);have I1:Inv X pins σ H {s with heap:=h'}:=I.kept (t':=s.toks) kp
  have I2:Inv X pins σ (upd H h'.objs.size (.tup ys)) {s with heap:=h'.push {cls:= .type "tuple",data:= .seq its.toArray}}:=
   I1.laid (t':=s.toks) (λb o e=>Zb _ e) (Zj _) (show Qb6 X.prog X.w _ _ _ (.tup ys)from⟨hz,its,r',IsTup.new _ _⟩)
  exact⟨.ref h'.objs.size,_,I2,rfl,q _ (I1.hok.fresh (Zj _))⟩
 ·obtain⟨its,r',pl,hz⟩:=I.tuple hq;exact call_tuple_same pl ⟨.ref p,H,I,rfl,q⟩
def tyV(K:Fgg)(T:String)(x:V)(H:Hp):Prop:=match x with
 | .str _=>T= "str"
 | .int _=>T= "int"
 | .ref p=>(T= "list" /\∃xs,SqL K H p xs)∨(T= "tuple" /\∃o,K.lookup p=some o/\o.cls= .type "tuple" /\o.dict=none)∨
   (T= "dict" /\((∃kvs,H p=some (.dK kvs))∨∃kvs,H p=some (.dT kvs)))∨(T= "set" /\∃S n,H p=some (.set S n))
 | _=>False
theorem Quc{pins:List (Addr×Obj)}{σ:St}{H:Hp}{s:Shared}{T:String}{x:V}{v:Value}(I:Inv X pins σ H s)(r:RelV x v)(ty:tyV X.K T x H):
  s.TypeIs v T/\∀a,v= .ref a->∃ob,s.heap.get? a=some ob/\ob.dict=none:=by
 cases x with
 | str z=>
  obtain⟨t,rfl⟩:=r;cases(show T= "str" from ty);exact⟨typeIs_str s z t,λ_ e=>nomatch e⟩
 | int i=>
  obtain⟨t,rfl⟩:=r;cases(show T= "int" from ty);exact⟨typeIs_int s i t,λ_ e=>nomatch e⟩
 | ref p=>
  cases r;rcases ty with⟨rfl,xs,hq⟩ | ⟨rfl,o,hk,hc,hd⟩ | ⟨rfl,hk⟩ | ⟨rfl,S,n,hk⟩
  ·obtain⟨its,_,pl,_⟩:=I.list hq;refine⟨pl.isList.typeIs,λa e=>?_⟩;cases e;obtain⟨o,n,e,c,hd,_⟩:=pl;exact⟨o,e,hd⟩
  ·refine⟨⟨o,I.kIn p o hk,hc⟩,λa e=>?_⟩;cases e;exact⟨o,I.kIn _ o hk,hd⟩
  ·have z:∃o,s.heap.get? p=some o/\o.ExactDict:=by
    rcases hk with⟨kvs,hk⟩ | ⟨kvs,hk⟩
    ·obtain⟨_,_,_,_,o,_,_,e,ex,_⟩:=I.hok p _ hk;exact⟨o,e,ex⟩
    ·obtain⟨_,_,_,_,o,_,_,e,ex,_⟩:=I.hok p _ hk;exact⟨o,e,ex⟩
   obtain⟨o,e,ex⟩:=z;refine⟨⟨o,e,ex.1⟩,λa e2=>?_⟩;cases e2;exact⟨o,e,ex.2.1⟩
  ·obtain⟨o,_,_,_,e,ex,_⟩:=I.hok p _ hk;refine⟨⟨o,e,ex.1⟩,λa e2=>?_⟩;cases e2;exact⟨o,e,ex.2.1⟩
 | _=>exact False.elim ty
noncomputable def QC2(K:Fgg)(T:String)(r:V->List V->Hp->VK->Prop)(to:TE):TE:=λσ H Q=>to σ H λx H1=>tyV K T x H1/\r x [] H1 Q
noncomputable def tBM(K:Fgg)(T:String)(r:V->List V->Hp->VK->Prop)(to:TE)(t:TA):TE:=λσ H Q=>to σ H λx H1=>tyV K T x H1/\t σ H1 λxs H2=>r x xs H2 Q
variable {o e:Expr}{es:List Expr}{to:TE}{t:TA}{name:Str}{apos cpos:Pos}{T id:String}{r:V->List V->Hp->VK->Prop}
theorem Qz2(pa:PlainAttrs T)(slot:Slot T name id)(hty:typeOf (.builtin id)=pure (.type "method_descriptor"))(hm:MtR X id r)(ho:PE X o to)
  (hbase:attributeBase o name X.env (eval o X.env)=eval o X.env:=by rfl) (hline:(apos.endLine == cpos.line)=true:=by rfl):PE X (.Call (.Attribute o name apos) [] [] cpos) (QC2 X.K T r to):=by
 intro pins s σ H Q I h;refine wpAny_Call_method0_late hbase hline (thn (ho pins s σ H _ I h) λv s1 Z=>?_);obtain⟨x,H1,I1,r1,ty,q1⟩:=Z;obtain⟨h1,h2⟩:=Quc I1 r1 ty;exact⟨T,id,pa,slot,hty,h1,h2,Calls.callWith_builtin rfl (PySem.evalArgs_none (hm pins s1 σ H1 x [] v [] Q I1 r1 .nil q1))⟩
theorem QCa(pa:PlainAttrs T)(slot:Slot T name id)(hty:typeOf (.builtin id)=pure (.type "method_descriptor"))(hm:MtR X id r)(ho:PE X o to)(ha:PA X (e::es) t)
  (hbase:attributeBase o name X.env (eval o X.env)=eval o X.env:=by rfl)
  (hfew:((backTo cpos (starEach (e::es) X.env)).all (λx=> !x.1) && (backToKw cpos (keywordEach [] X.env)).all (λx=>x.1.isSome)
   && decide ((e::es).length+([]:List Keyword).length+(if([]:List Keyword).isEmpty then 0 else 1)<30))=true:=by rfl)
  (hline:(apos.endLine == cpos.line)=true:=by rfl) (hs:starEach (e::es) X.env=(false,eval e X.env)::starEach es X.env:=by rfl) (hplain:(backTo cpos (starEach es X.env)).any (·.1)=false:=by rfl):
  PE X (.Call (.Attribute o name apos) (e::es) [] cpos) (tBM X.K T r to t):=by
 intro pins s σ H Q I h;refine wpAny_Call_method_late hbase hfew hline rfl (thn (ho pins s σ H _ I h) λv s1 Z=>?_);obtain⟨x,H1,I1,r1,ty,q1⟩:=Z;obtain⟨h1,h2⟩:=Quc I1 r1 ty;refine⟨T,id,pa,slot,hty,h1,h2,?_⟩;have hA:=ha cpos pins s1 σ H1 _ I1 q1;rw[hs]at hA ⊢;refine Calls.callWith_builtin (by show(false || (backTo cpos (starEach es X.env)).any (·.1))=false;rw[hplain]<;>rfl) (Calls.evalArgs_plain ?_);exact thn hA λus s2 ⟨vs,H2,I2,r2,q2⟩=>hm pins s2 σ H2 x vs v us Q I2 r1 r2 q2
end
def MtM(X:Cx)(id:String)(r:V->List V->Hp->VK->Prop):Prop:=
 ∀(pins:List (Addr×Obj)) (s:Shared) (σ:St) (H:Hp) (x:V) (xs:List V) (v:Value) (us:List Value) (Q:VK),Inv X pins σ H s->RelV x v->QM xs us->r x xs H Q→
  wpAny (model X.prog X.w) X.A (call (.builtin id) (v::us)) (EP X pins σ Q) X.xe s
theorem QM.one{x:V}{us:List Value}(r:QM [x] us):∃u,us=[u]/\RelV x u:=vals1 r
theorem QM.zero:∀{us:List Value},QM [] us->us=[]
 | _,.nil=>rfl
theorem QM.reverse{xs:List V}{us:List Value}(h:QM xs us):QM xs.reverse us.reverse:=by
 induction h with
 | nil=>exact .nil
 | cons r t ih=>rw[Zbo,Zbo];exact QM.append ih (.cons r .nil)
theorem QM.rep{xs:List V}{us:List Value}(h:QM xs us):∀k:Nat,QM (List.replicate k xs).flatten (List.replicate k us).flatten
 | 0=> .nil
 | k+1=>by
  rw[Zam,Zam,Zar,Zar];exact QM.append h (QM.rep h k)
theorem foldl_rep(its:List Value):∀(k:Nat) (acc:List Value),
  List.foldl (λx1 x2=>x1++x2) acc.toArray (List.replicate k its.toArray)=(acc++(List.replicate k its).flatten).toArray
 | 0,acc=>by simp
 | k+1,acc=>by
  have e:acc.toArray++its.toArray=(acc++its).toArray:=by simp
  have e2:(acc++its)++(List.replicate k its).flatten=acc++(List.replicate (k+1) its).flatten:=by
   rw[Zam,Zar,Zba]
  rw[← e2,← foldl_rep its k (acc++its),← e,Zam,List.foldl_cons]
section
variable {X:Cx}{pins:List (Addr×Obj)}{σ:St}{H:Hp}{s:Shared}{l b:Addr}{xs ys zs:List V}
theorem Inv.QDF{its its':List Value}{n:Nat}{f:Array Value->Array Value}{t':Nat}(I:Inv X pins σ H s)(hH:H l=some (.lst xs))
  (e:s.heap.get? l=some {cls:= .type "list",data:= .seq its.toArray n}) (hf:f its.toArray=its'.toArray) (hv:QM ys its') (hz:ys.length<=sizeLine):
  Inv X pins σ (upd H l (.lst ys)) {s with heap:=s.heap.update l (Obj.mapSeq f),toks:=t'}:=by
 have q:=PySem.IsL.update e f;rw[hf]at q;refine I.write (x:=l) (e:=l) (by rw[hH];exact trivial) (.inl rfl) (λb' u hb hu=>(Heap.get?_update_other s.heap (Obj.mapSeq f) (Ne.symm hb)).trans hu) ⟨_,q⟩ ?_;exact⟨hz,its',_,hv,q⟩
theorem Inv.QAE{its:List Value}{t':Nat}(I:Inv X pins σ H s)(hv:QM ys its)(hz:ys.length<=sizeLine):
  Inv X pins σ (upd H s.heap.objs.size (.lst ys)) {s with heap:=s.heap.push {cls:= .type "list",data:= .seq its.toArray},toks:=t'}:=
 I.laid (λ_ _ q=>Zb _ q) (Zj _) ⟨hz,its,0,hv,Zz _ rfl⟩
theorem Inv.fresh(I:Inv X pins σ H s):H s.heap.objs.size=none:=I.hok.fresh (Zj _)
theorem Inv.QBf(I:Inv X pins σ H s)(hH:H l=some (.lst xs)):xs.length<=sizeLine/\∃(its:List Value) (n:Nat),QM xs its/\xs.length=its.length/\s.heap.get? l=some {cls:= .type "list",data:= .seq its.toArray n}:=by
 obtain⟨z,its,n,r,e⟩:=I.hok l _ hH;exact⟨z,its,n,r,r.length,e⟩
theorem QvQ{n:Nat}(h:n<=sizeLine):Builtin.List.listTooLong n=false:=by
 unfold Builtin.List.listTooLong;exact decide_eq_false ⋯
end
section
variable {X:Cx}
noncomputable def Qru:V->List V->Hp->VK->Prop:=λx vs H Q=>∃l xs y,x= .ref l/\vs=[y]/\H l=some (.lst xs)/\xs.length<sizeLine/\Q .non (upd H l (.lst (xs++[y])))
theorem QnI:MtM X "list.append" Qru:=by
 intro pins s σ H x vs v us Q I rx rv h;obtain⟨l,xs,y,rfl,rfl,hH,hz,q⟩:=h;cases rx;obtain⟨u,rfl,ru⟩:=rv.one;obtain⟨z,its,n,r,hl,e⟩:=I.QBf hH;refine call_meets F.slot_list_append ⟨_,e,rfl⟩ F.entry_list_append (F.args_list_append_2 _ _) (PySem.list_append l its.toArray n u (by rw[Zw];omega)) ⟨e,?_⟩;refine⟨.non,_,I.QDF (its':=its++[u]) hH e (by simp) (r.append (.cons ru .nil)) ?_,rfl,q⟩;rw[Zy,Zbv];omega
theorem len_rep{α:Type}(xs:List α)(k:Nat):(List.replicate k xs).flatten.length=k*xs.length:=by
 induction k with
 | zero=>simp
 | succ k ih=>rw[Zam,Zar,Zy,ih,Nat.succ_mul,Nat.add_comm]
end
section
variable {prog:Program}{w:World}{A:Around}{E:Value->Shared->Prop}{s:Shared}
end
section
variable {X:Cx}
end
end L2
namespace Att
open PySem PySem.W PySem.Calls PyProof.Rows
theorem Ql9{P:Params}{h:Heap}:∀(ns:List Int) (vs:List Value),WellAll P h vs (ns.map WData.int)->IntsAre vs ns:=by
 intro ns
 induction ns with
 | nil=>
  intro vs w;rw[List.map_nil]at w;cases w;exact .nil
 | cons n ns ih=>
  intro vs w;rw[ZH]at w;cases w with
  | cons a b=>
   cases a;exact .cons _ _ (ih _ b)
theorem Quj{l:OpenLaw}{n:Nat}(hn:l.most=some n){P:Params}{h:Heap}{args:List WData}{vals:List Value}
  (hpre:l.row.toRowW.claim.pre args=true) (hwl:WellAll P h vals args):
  ∃a vs ns,vals=[Value.ref a]/\args=[WData.list (ns.map WData.int)]/\h.get? a=some {cls:= .type "list",data:= .seq vs.toArray}/\IntsAre vs ns/\ns.length<=n:=by
 have hsh:WShape.hasAll [] args [.list .int]=true:=(pre_splitW hpre).1;have hc:l.pre.holds [] {args:=args}=true:=(pre_splitW hpre).2;obtain⟨d,r,rfl,h1,h2⟩:=hasAllW_cons hsh;obtain rfl:=hasAllW_nil h2;obtain⟨xs,rfl,h3⟩:=hasW_list h1;obtain⟨ns,rfl⟩:=items_int h3;have hlen:ns.length<=n:=by
  unfold OpenLaw.pre at hc;have h4:(WTm.not (.lt (.lit (.int (n:Int))) (.len (.arg 0)))).holds [] {args:=[.list (ns.map .int)]}=true:=by
   have h4:=(holds_andW hc).1;rw[hn]at h4;exact h4
  have h5:=condW_of h4 (w_not (w_lt w_lit (w_len_list (w_arg rfl))));rw[Zq]at h5;refine Nat.le_of_not_lt λq=>?_;have q':(n:Int)<((ns.length:Nat):Int):= ⋯
  first
   | (rw[decide_eq_true q']at h5;exact absurd h5 (by decide))
   | (simp at h5;omega)
 cases hwl with
 | cons w1 w2=>
  cases w2;cases w1 with
  | list ho hall=>exact⟨_,_,ns,rfl,rfl,ho,Ql9 ns _ hall,hlen⟩
theorem QtD(l:OpenLaw)(args:List WData):l.row.toRowW.claim.post args (.bool true) args=true:=
 postW_of (r:=l.row.toRowW) (X:=(true == true))
  (show WShape.has [] (.bool true) .bool=true by first | rfl | decide | simp[WShape.has,WShape.arms,WShape.armsAll])
  (show(WTm.eq .res (.lit (.bool true))).value [] {args:=args,res:=some (.bool true),after:=args}=some (.bool (true == true))from w_eq_bool (w_res rfl) w_lit) rfl
section
variable {prog:Program}{w:World}{A:Around}{E:Value->Shared->Prop}{s:Shared}{K:Frag}
end
end Att
namespace L2
open PySem PySem.Spec PyProof.Rows
theorem Qb4:∀{vs:List Value}{ns:List Int},IntsAre vs ns->QM (ns.map V.int) vs
 | _,_,.nil=> .nil
 | _,_,.cons n t h=> .cons ⟨t,rfl⟩ (Qb4 h)
def QAU(H:Hp):Prop:=∀b,H b=none∨∃o xs,H b=some (.frz o (.lst xs))
theorem QvK{P:Program}{w:World}{K:Fgg}{mg mb:Str->Option Value}{CX:CXT}{k:Nat}{fa a:Addr}{fd:FuncData}{x:Str}{sp:Sp}{s₁:Shared}{vs:List Value}{ns:List Int}
  (KX:K.In s₁.heap) (hns:s₁.heap.Ns mainGlobals mg) (hb:s₁.heap.Ns builtinsNs mb) (hbb:∀x:Str,x≠ "__name__" ->mb x=bootBuiltins x) (hlim:s₁.heap.NoLimit) (hg:s₁.gens= #[])
  (ha:s₁.heap.get? a=some {cls:= .type "list",data:= .seq vs.toArray}) (hi:IntsAre vs ns) (hl:ns.length<=sizeLine) (hr:Qbx k callerA)
  (F:∀base:Heap,K.In base->base.Ns mainGlobals mg->QcF P w K mg base CX k fa fd [x] sp) (hbind:∀(s:Shared) (u:Value),BindsTo s fd ⟨[u],[]⟩ [(x,u)])
  (hsp:∀H:Hp,QAU H->SqL K H a (ns.map V.int)->sp [.ref a] H (λv _=>v= .bl true) λ_ _ _=>False)
  (hCX:∀H e s',CX [] H s₁ (λ_ _ _=>False) e s'->False):
  codeAny (model P w) callerA (.call (.ref fa) ⟨[.ref a],[]⟩) (λr s'=>r= .ok (.ret (.bool true))/\OldK s₁.heap s'.heap/\s'.os=s₁.os/\AllBare s'.gens) s₁:=by
 have rv:=Qb4 hi;have lenV:=hi.length
 have core:∀H:Hp,QAU H->SqL K H a (ns.map V.int)->HOk P w H s₁.heap->(∀b,H b≠none->b=a)->(H a≠none->K.lookup a=none)→
   codeAny (model P w) callerA (.call (.ref fa) ⟨[.ref a],[]⟩) (λr s'=>r= .ok (.ret (.bool true))/\OldK s₁.heap s'.heap/\s'.os=s₁.os/\AllBare s'.gens) s₁:=by
  intro H hO hS hok hA hK;have base_of:∀{b:Addr}{o:Obj},s₁.heap.get? b=some o->H b=none->(QhY s₁.heap H).get? b=some o:=λe n=>Qve e n;have noA:∀{b:Addr}{o:Obj}{es:Array DictEntry}{ep:Nat},s₁.heap.get? b=some o->o.data= .dict es ep->H b=none:=λ{b o es ep} e d=>by
   cases q:H b with
   | none=>rfl
   | some u=>
    have e':b=a:=hA b (by rw[q];simp);subst e';rw[ha]at e;cases e;have d':Data.seq vs.toArray _=Data.dict es ep:=d;cases d'
  have nsK:∀{b:Addr}{m:Str->Option Value},s₁.heap.Ns b m->(QhY s₁.heap H).Ns b m:=λ{b m} ⟨o,es,ep,e,d,r⟩=>⟨o,es,ep,base_of e (noA e d),d,r⟩;have hKb:K.In (QhY s₁.heap H):=λb o e=>base_of (KX b o e) (by
   cases q:H b with
   | none=>rfl
   | some u=>
    have e':b=a:=hA b (by rw[q];simp);subst e';rw[hK (by rw[q];simp)]at e;cases e)
  have hM:Mod K mg (QhY s₁.heap H):=⟨hKb,nsK hns,⟨mb,nsK hb,hbb⟩,let ⟨mc,h1,h2⟩:=hlim;⟨mc,nsK h1,h2⟩⟩;have e0:QsO P w K mg (QhY s₁.heap H) callerA [] s₁ H:=⟨rfl,hM,λb o e=>QyZ e,Nat.le_of_eq (QtG _ _),trivial,λb hb=>absurd (show b∈([]:LAd)from hb) (by simp),hok,.of_eq hg⟩;refine codeAny_mono ((F _ hKb (nsK hns)).run callerA [] s₁ H ⟨[.ref a],[]⟩ [.ref a] [.ref a] _ _ hr e0 (hbind s₁ (.ref a)) (.cons rfl .nil) (hsp H hO hS)) λr s' h=>?_;cases r with
  | error e=>exact(hCX H e s' h).elim
  | ok fl=>
   cases fl with
   | next=>exact False.elim h
   | brk=>exact False.elim h
   | cont=>exact False.elim h
   | ret u=>
    obtain⟨v,H',os,bare,un,hok',r',q⟩:=h;have q':v= .bl true:=q;subst q';obtain rfl:u=Value.bool true:=r';refine⟨rfl,OldK.of_keep λb o e=>?_,os,bare⟩;cases q:H b with
    | none=>exact un.keep b o e q (by intro z;exact absurd (show b∈([]:LAd)from z) (by simp)) (by simp)
    | some u=>
     rcases hO b with z | ⟨ob,xs,z⟩
     ·rw[q]at z;cases z
     ·have z2:=un.frzs b ob _ z;obtain⟨e1,_⟩:=hok b _ z;obtain⟨e2,_⟩:=hok' b _ z2;rw[e]at e1;cases e1;exact e2
 cases hk:K.lookup a with
 | some o=>
  have e:=KX a o hk;rw[ha]at e;cases e;refine core (λ_=>none) (λ_=> .inl rfl) (.inr ⟨_,vs.toArray,_,hk,rfl,rfl,rfl,by rw[Zw,lenV];exact hl,by simpa using rv⟩) (λb u z=>by have z':(none:Option HO)=some u:=z;cases z') (λb z=>absurd rfl z) λz=>absurd rfl z
 | none=>
  refine core (λb=>if b=a then some (.frz {cls:= .type "list",data:= .seq vs.toArray} (.lst (ns.map V.int)))else none) (λb=>?_) (.inl (.inr ⟨{cls:= .type "list",data:= .seq vs.toArray},if_pos rfl⟩)) (λb u z=>?_) (λb z=>?_) λ_=>hk
  ·by_cases hb:b=a
   ·exact .inr ⟨_,_,if_pos hb⟩
   ·exact .inl (if_neg hb)
  ·by_cases hb:b=a
   ·have z':=(if_pos hb).symm.trans z;cases z';subst hb;exact⟨ha,by rw[Zq];exact hl,vs,_,rv,ha⟩
   ·have z':=(if_neg hb).symm.trans z;cases z'
  ·by_cases hb:b=a
   ·exact hb
   ·exact absurd (if_neg hb) z
noncomputable abbrev KOf{K:Fgg}{h:Heap}(_:K.In h):PySem.W.Frag:=K
noncomputable def QfL(s:Stmt):Arguments:=match s with
 | .FunctionDef _ a _ _ _ _ _ _ _ _=>a
 | _=>{posonlyargs:=[],args:=[],vararg:=none,kwonlyargs:=[],kw_defaults:=[],kwarg:=none,defaults:=[]}
noncomputable def Qbm(s:Stmt):List Stmt:=match s with
 | .FunctionDef _ _ b _ _ _ _ _ _ _=>b
 | _=>[]
noncomputable def Qr(s:Stmt):Scope:=match s with
 | .FunctionDef _ _ _ _ _ _ sc _ _ _=>sc
 | _=>{kind:= .function,names:=[],isGenerator:=false,isCoroutine:=false}
noncomputable abbrev CX0:CXT:=λ_ _ _ _ _ _=>False
noncomputable abbrev E0:XK:=λ_ _ _=>False
theorem Qxg{X:Cx}:QlW CX0 X E0:=λ_ _ _ _ _ _ _ h=>h.elim
structure Fun (K:Fgg) (x qual:Str) (st:Stmt) (f:Addr) (fd:FuncData):Prop where
 ex:∃(oc:Value) (od:Option Addr) (kV doc pm:Value) (an:Option Addr) (cdv ct:Value) (osl:Array (Option Value)),
  fd=PySem.W.fnOf x qual (QfL st) (Qbm st) (Qr st) .none kV doc pm an cdv ct/\K.lookup f=some ⟨oc,od,.func fd,osl⟩/\PySem.W.codeIn K cdv qual=true
 kp:PySem.W.keepIn K (.ref f)=true
section
variable {P:Program}{w:World}{K:Fgg}{mg:Str->Option Value}{base:Heap}
theorem Fun.ok{x qual:Str}{st:Stmt}{f:Addr}{fd:FuncData}{N ps:List Str}{k:Nat}{sp:Sp}(F:Fun K x qual st f fd)(S:Qcn N ps (Qr st))(len:∀vs H Q E,sp vs H Q E->vs.length=ps.length)
  (hbody:∀(cdv:Value) (A:Around) (outer:List Env) (s:Shared) (H:Hp) (vs:List V) (Q:VK) (E:XK),Qbx k (A.deeper (envOfC qual (Qr st) s.heap.objs.size f cdv))->sp vs H Q E→
   ∃t,PSs (Qfh CX0 P w K mg base N qual (Qr st) f cdv A outer s H E).nox (Qbm st) t/\t {nx:=λ_ H'=>Q .non H',rt:=Q} (start N vs) H):QcF P w K mg base CX0 (k+1) f fd ps sp:=by
 obtain⟨oc,od,kV,doc,pm,an,cdv,ct,osl,rfl,lk,hcd⟩:=F.ex;refine Qxp lk hcd S len λA outer s H vs Q E hr hsp=>?_;obtain⟨t,h,q⟩:=hbody cdv A outer s H vs Q E hr hsp;exact⟨t,h.nox,q⟩
theorem Fun.binds{x qual:Str}{st:Stmt}{f:Addr}{fd:FuncData}{ps:List Str}(F:Fun K x qual st f fd)
  (h:∀(kV doc pm:Value) (an:Option Addr) (cdv ct:Value) (us:List Value),us.length=ps.length->bindArgs (PySem.W.fnOf x qual (QfL st) (Qbm st) (Qr st) .none kV doc pm an cdv ct) ⟨us,[]⟩=pure (ps.zip us)):Binds K fd ps []:=by
 obtain⟨oc,od,kV,doc,pm,an,cdv,ct,osl,rfl,lk,hcd⟩:=F.ex;exact .all (h kV doc pm an cdv ct)
theorem QAA{x qual:Str}{st:Stmt}{f:Addr}{oc:Value}{od an:Option Addr}{osl:Array (Option Value)}{kV doc pm cdv ct:Value}(l:K.lookup f=some ⟨oc,od,.func (PySem.W.fnOf x qual (QfL st) (Qbm st) (Qr st) .none kV doc pm an cdv ct),osl⟩)
  (c:PySem.W.codeIn K cdv qual=true) (k:PySem.W.keepIn K (.ref f)=true):Fun K x qual st f (PySem.W.fnOf x qual (QfL st) (Qbm st) (Qr st) .none kV doc pm an cdv ct):=⟨⟨oc,od,kV,doc,pm,an,cdv,ct,osl,rfl,l,c⟩,k⟩
end
section
variable {X:Cx}
end
theorem Qsj{A B:Prop}(h:B):if false=true then A else B:=by
 rw[if_neg Zah];exact h
theorem Qsp{A B:Prop}(h:A):if true=true then A else B:=by
 rw[if_pos rfl];exact h
def QS(H H':Hp):Prop:=∀b o,H b=some o->H' b=some o
theorem QS.refl(H:Hp):QS H H:=λ_ _ h=>h
theorem QS.trans{H H1 H2:Hp}(a:QS H H1)(b:QS H1 H2):QS H H2:=λc o h=>b c o (a c o h)
theorem QS.free{H H':Hp}(e:QS H H'){l:Addr}(h:H' l=Option.none):H l=Option.none:=by
 cases q:H l with
 | none=>rfl
 | some o=>
  rw[e l o q]at h;cases h
theorem QmS(env:Env)(body:Str×NameKind->List (Str×Addr)->Sem (ForInStep (List (Str×Addr))))
  (hb:∀n k cs,body (n,k) cs=if(k == NameKind.free)=true then(do let c ← cellOf env n;pure (ForInStep.yield ((n,c)::cs)))else pure (ForInStep.yield cs)):
  ∀(names:List (Str×NameKind)) (acc:List (Str×Addr)),(∀y∈names,y.2= .free->∃c,env.cells.lookup y.1=some c)->(∀x c,acc.lookup x=some c->env.cells.lookup x=some c)→
   ∃cl,forIn names acc body=(pure cl:Sem _)/\(∀x c,cl.lookup x=some c->env.cells.lookup x=some c)/\(∀x,acc.lookup x≠none->cl.lookup x≠none)/\∀y∈names,y.2= .free->cl.lookup y.1≠none
 | [],acc,_,ha=>⟨acc,rfl,ha,λ_ h=>h,λy hy=>by simp at hy⟩
 | (n,k)::r,acc,hn,ha=>by
  rw[Zcd,hb];have hr:∀y∈r,y.2= .free->∃c,env.cells.lookup y.1=some c:=λy hy=>hn y (Zc _ hy);by_cases hk:k= .free
  ·subst hk;obtain⟨c,hc⟩:=hn (n,.free) Zl rfl;have hce:cellOf env n=pure c:=by unfold cellOf;rw[show env.cells.lookup n=some c from hc]
   rw[if_pos (by rfl),hce];obtain⟨cl,e,h1,h2,h3⟩:=QmS env body hb r ((n,c)::acc) hr (λx c' e=>by
    rw[Zv]at e;cases q:x == n with
    | true=>rw[q]at e;cases e;rw[beq_iff_eq]at q;rw[q];exact hc
    | false=>rw[q]at e;exact ha x c' e)
   have hcons:∀x,((n,c)::acc).lookup x≠none->cl.lookup x≠none:=h2;refine⟨cl,by simpa using e,h1,λx hx=>hcons x ?_,λy hy hf=>?_⟩
   ·rw[Zv];cases x == n with
    | true=>simp
    | false=>exact hx
   ·rcases Zi.mp hy with rfl | hy
    ·exact hcons _ (by simp[Zv])
    ·exact h3 y hy hf
  ·rw[if_neg (by simpa using hk)];obtain⟨cl,e,h1,h2,h3⟩:=QmS env body hb r acc hr ha;refine⟨cl,by simpa using e,h1,h2,λy hy hf=>?_⟩;rcases Zi.mp hy with rfl | hy
   ·exact absurd hf hk
   ·exact h3 y hy hf
theorem Qy9(h:∀y∈scope.names,y.2= .free->∃c,env.cells.lookup y.1=some c):
  ∃cl,closureFor scope env=pure cl/\(∀x c,cl.lookup x=some c->env.cells.lookup x=some c)/\∀y∈scope.names,y.2= .free->∃c,cl.lookup y.1=some c:=by
 unfold closureFor;obtain⟨cl,e,h1,_,h3⟩:=QmS env (λx cs=>match x with | (name,kind)=>if(kind == NameKind.free)=true then(do let c ← cellOf env name;pure (ForInStep.yield ((name,c)::cs)))else pure (ForInStep.yield cs)) (λ_ _ _=>rfl) scope.names [] h (λx c e=>by simp at e);refine⟨cl,?_,h1,λy hy hf=>Option.ne_none_iff_exists'.mp (h3 y hy hf)⟩;show(forIn scope.names [] _ >>= λr=>pure r)=_;rw[e];rfl
noncomputable def cxc(X:Cx)(N':List Str)(scope:Scope)(cl:List (Str×Addr))(C:Addr)(fp:LAd)(s3:Shared)(H3:Hp):Cx:=
 {X with N:=N',s₀:=s3,H₀:=H3,env:=compEnvC scope cl C X.env,outer:=X.stack,ex:=fp,fn:=λx=>decide (scope.names.lookup x=some .cell),pn:=[],xe:=λ_ _=>False}
def PTs(X:Cx)(ifs:List Expr)(t:TT):Prop:=
 ∀(pins:List (Addr×Obj)) (s:Shared) (σ:St) (H:Hp) (Q:Bool->Hp->Prop),Inv X pins σ H s->t σ H Q→
  wpAny (model X.prog X.w) X.A (forIn ifs true λc r=>if r=true then do let ok ← isTrue c X.env (eval c X.env);pure (ForInStep.yield ok)else pure (ForInStep.yield r)) (TP X pins σ Q) X.xe s
noncomputable def QDs:TT:=λ_ H Q=>Q true H
theorem QxT:PTs X [] QDs:=λ_ _ _ H _ I h=>wpAny_tests_nil ⟨H,I,h⟩
theorem QyU(h:PT X c t):PTs X [c] t:=λpins s σ H Q I q=>wpAny_tests_one (h pins s σ H Q I q)
def Qlx(X:Cx)(N':List Str)(scope:Scope)(σ σ':St):Prop:=
 σ'.length=N'.length/\∀(j:Nat) (x:Str) (v:V),N'[j]? =some x->σ'[j]? =some (some v)->scope.names.lookup x=some .free/\∃i:Nat,X.N[i]? =some x/\σ[i]? =some (some v)/\(X.env.kindOf x=some .cell∨X.env.kindOf x=some .free)
noncomputable def QoG(wi:TI)(cap:St->St->Prop)(g:TG)(tc:TT)(te:TE):TE:=λσ H Q=>wi σ H λJ H1=>∃σc,cap σ σc/\∀D,H1 D=none->∃W:Nat->Nat->List V->Hp->Prop,
 (∃m,W 0 m [] (upd H1 D (.lst [])))/\∀i m acc H2,W i m acc H2->(J.stop i H2/\Q (.ref D) H2)∨
  (J.go i H2/\∀x H3,J.yld i H2 x H3->g x σc H3 λσ2 H4=>(∀(j:Nat) v,σc[j]? =some (some v)->σ2[j]? =some (some v))/\tc σ2 H4 λb H5=>if b=true then
   te σ2 H5 λy H6=>H6 D=some (.lst acc)/\acc.length<sizeLine/\∃m',m'<m/\W (i+1) m' (acc++[y]) (upd H6 D (.lst (acc++[y])))
   else ∃m',m'<m/\W (i+1) m' acc H5)
theorem QcR{env:Env}:∀{names:List (Str×NameKind)}{x:Str},names.lookup x=some .free→
  (names.map λ(n,k)=>if(k == NameKind.free && env.scope.kind == .function && env.kindOf n == some .cell)then(n,NameKind.cell)else(n,k)).lookup x=some .cell∨
  (names.map λ(n,k)=>if(k == NameKind.free && env.scope.kind == .function && env.kindOf n == some .cell)then(n,NameKind.cell)else(n,k)).lookup x=some .free
 | [],_,h=>by simp at h
 | (n,k)::r,x,h=>by
  have ih:= @QcR env r x;rw[ZH];cases hx:x == n with
  | true=>
   simp only[Zv,hx]at h;cases h;dsimp only;split
   ·left;simp[Zv,hx]
   ·right;simp[Zv,hx]
  | false=>
   simp only[Zv,hx]at h;dsimp only;split
   ·simp only[Zv,hx];exact ih h
   ·simp only[Zv,hx];exact ih h
theorem Qfc{env:Env}:∀{names:List (Str×NameKind)}{x:Str},
  ((names.map λ(n,k)=>if(k == NameKind.free && env.scope.kind == .function && env.kindOf n == some .cell)then(n,NameKind.cell)else(n,k)).lookup x=some .cell∨
  (names.map λ(n,k)=>if(k == NameKind.free && env.scope.kind == .function && env.kindOf n == some .cell)then(n,NameKind.cell)else(n,k)).lookup x=some .free)→
  ∃k,(x,k)∈names/\(k= .free∨k= .cell)
 | [],_,h=>by simp at h
 | (n,k)::r,x,h=>by
  have ih:= @Qfc env r x;rw[ZH]at h;cases hx:x == n with
  | true=>
   have hn:x=n:=by simpa using hx
   subst hn;dsimp only at h;split at h
   ·rename_i hc;simp only[Zm]at hc;refine⟨k,Zl,.inl (by simpa using hc.1.1)⟩
   ·simp only[Zv,hx]at h;refine⟨k,Zl,?_⟩;rcases h with h | h
    ·exact .inr (Option.some.inj h)
    ·exact .inl (Option.some.inj h)
  | false=>
   dsimp only at h;have:∃k,(x,k)∈r/\(k= .free∨k= .cell):=by
    apply ih;split at h
    ·simpa only[Zv,hx]using h
    ·simpa only[Zv,hx]using h
   obtain⟨k',h1,h2⟩:=this;exact⟨k',Zc _ h1,h2⟩
theorem Qhz:∀(names:List (Str×NameKind)) (n:Nat) (acc:List (Str×Addr)) (x:Str) (c:Addr),(cellsFrom n names acc).lookup x=some c->acc.lookup x=some c∨(n<=c/\(x,NameKind.cell)∈names)
 | [],_,_,_,_,h=> .inl h
 | (nm,k)::r,n,acc,x,c,h=>by
  unfold cellsFrom at h;split at h
  ·rename_i hk;have hk:k= .cell:=by simpa using hk
   rcases Qhz r (n+1) ((nm,n)::acc) x c h with h | ⟨h1,h2⟩
   ·rw[Zv]at h;cases q:x == nm with
    | true=>
     rw[q]at h;cases h;have:x=nm:=by simpa using q
     exact .inr ⟨Zj _,by rw[this,hk];exact Zl⟩
    | false=>rw[q]at h;exact .inl h
   ·exact .inr ⟨⋯,Zc _ h2⟩
  ·rcases Qhz r n acc x c h with h | ⟨h1,h2⟩
   ·exact .inl h
   ·exact .inr ⟨h1,Zc _ h2⟩
theorem Qpf:∀(names:List (Str×NameKind)) (n:Nat) (acc:List (Str×Addr)) (x:Str) (c:Addr),(x,NameKind.cell)∈names->(cellsFrom n names acc).lookup x=some c->n<=c
 | (nm,k)::r,n,acc,x,c,hm,h=>by
  unfold cellsFrom at h;split at h
  ·by_cases hr:(x,NameKind.cell)∈r
   ·have:=Qpf r (n+1) _ x c hr h;omega
   ·have hx:x=nm:=by
     rcases Zi.mp hm with e | e
     ·exact(Prod.mk.inj e).1
     ·exact absurd e hr
    rcases Qhz r (n+1) ((nm,n)::acc) x c h with h | ⟨h1,_⟩
    ·rw[Zv,show(x == nm)=true by simpa using hx]at h;cases h;exact Zj _
    ·omega
  ·rename_i hk;rcases Zi.mp hm with e | e
   ·exact absurd (by rw[← (Prod.mk.inj e).2];rfl) hk
   ·exact Qpf r n acc x c e h
theorem QoN:∀(names:List (Str×NameKind)) (n:Nat) (acc:List (Str×Addr)),(∀x y c,acc.lookup x=some c->acc.lookup y=some c->x=y)->(∀x c,acc.lookup x=some c->c<n)→
  ∀x y c,(cellsFrom n names acc).lookup x=some c->(cellsFrom n names acc).lookup y=some c->x=y
 | [],_,_,hi,_,x,y,c,h1,h2=>hi x y c h1 h2
 | (nm,k)::r,n,acc,hi,hb,x,y,c,h1,h2=>by
  unfold cellsFrom at h1 h2;split at h1
  ·rename_i hk;rw[if_pos hk]at h2;refine QoN r (n+1) ((nm,n)::acc) (λx y c h1 h2=>?_) (λx c h=>?_) x y c h1 h2
   ·rw[Zv]at h1 h2;cases qx:x == nm with
    | true=>
     rw[qx]at h1;cases h1;cases qy:y == nm with
     | true=>rw[show x=nm by simpa using qx,show y=nm by simpa using qy]
     | false=>rw[qy]at h2;exact absurd (hb y _ h2) (ZX _)
    | false=>
     rw[qx]at h1;cases qy:y == nm with
     | true=>rw[qy]at h2;cases h2;exact absurd (hb x _ h1) (ZX _)
     | false=>rw[qy]at h2;exact hi x y c h1 h2
   ·rw[Zv]at h;cases qx:x == nm with
    | true=>rw[qx]at h;cases h;exact Zbd _
    | false=>rw[qx]at h;exact ZaR (hb x c h)
  ·rename_i hk;rw[if_neg hk]at h2;exact QoN r n acc hi hb x y c h1 h2
theorem Qhs:∀(names:List (Str×NameKind)) (n:Nat) (acc:List (Str×Addr)) (x:Str),(∃c,acc.lookup x=some c)->∃c,(cellsFrom n names acc).lookup x=some c
 | [],_,_,_,h=>h
 | (nm,k)::r,n,acc,x,h=>by
  unfold cellsFrom;split
  ·refine Qhs r (n+1) _ x ?_;rw[Zv];cases x == nm with
   | true=>exact⟨n,rfl⟩
   | false=>exact h
  ·exact Qhs r n acc x h
theorem Qpg:∀(names:List (Str×NameKind)) (n:Nat) (acc:List (Str×Addr)) (x:Str),(x,NameKind.cell)∈names->∃c,(cellsFrom n names acc).lookup x=some c
 | (nm,k)::r,n,acc,x,hm=>by
  unfold cellsFrom;rcases Zi.mp hm with e | e
  ·obtain⟨e1,e2⟩:=Prod.mk.inj e;subst e1;rw[← e2,if_pos (by rfl)];exact Qhs r (n+1) _ x ⟨n,by simp[Zv]⟩
  ·split
   ·exact Qpg r (n+1) _ x e
   ·exact Qpg r n acc x e
theorem Qm9(lo:Nat):∀(names:List (Str×NameKind)) (h:Heap) (acc:List (Str×Addr)),(∀x c,acc.lookup x=some c->lo<=c->h.IsCell c none)->lo<=h.objs.size→
  ∀x c,(cellsFrom h.objs.size names acc).lookup x=some c->lo<=c->(pushCells h names).IsCell c none
 | [],_,_,ha,_,x,c,e,hl=>ha x c e hl
 | (nm,k)::r,h,acc,ha,hlo,x,c,e,hl=>by
  unfold cellsFrom at e;unfold pushCells;split at e
  ·rename_i hk;rw[if_pos hk];have hs:=Zao h {cls:= .type "cell",data:= .cell none};refine Qm9 lo r (h.push {cls:= .type "cell",data:= .cell none}) ((nm,h.objs.size)::acc) (λx c e hl=>?_) (by rw[hs];omega) x c (by rw[hs];exact e) hl;rw[Zv]at e;cases q:x == nm with
   | true=>rw[q]at e;cases e;exact⟨_,Zz _ rfl,rfl⟩
   | false=>rw[q]at e;exact(ha x c e hl).keeps λb o e=>Zb _ e
  ·rename_i hk;rw[if_neg hk];exact Qm9 lo r h acc ha hlo x c e hl
theorem QsE
  (hQ:∀h':Heap,h'.Ns s.heap.objs.size (λ_=>none)->(∀b o,s.heap.get? b=some o->h'.get? b=some o)->((∀x c,cl.lookup x=some c->c<s.heap.objs.size)->∀x c,(cellsFrom (s.heap.objs.size+1) scope.names cl).lookup x=some c->s.heap.objs.size+1<=c->h'.IsCell c none)→
   Q (newEnv scope s.heap.objs.size globals (cellsFrom (s.heap.objs.size+1) scope.names cl) qual none .none (some env) builtins) {s with heap:=h'}):
  wpAny M A (newFunctionEnv scope globals cl [] qual none .none (some env) builtins) Q E s:=by
 simp only[newFunctionEnv,Option.isSome_some,if_true];refine wpAny_bind (wpAny_alloc ?_);refine wpAny_bind (wpAny_layCells _ (λname kind cells=>by cases hkc:kind == NameKind.cell<;>simp[hkc]) _ _ _ _ ?_);have hs:=Zao s.heap {cls:= .type "dict",data:= .dict #[]};rw[show({s with heap:=s.heap.push {cls:= .type "dict",data:= .dict #[]}}:Shared).heap.objs.size=s.heap.objs.size+1 from hs];refine wpAny_bind (wpAny_pure (wpAny_pure ?_));refine hQ _ ((Heap.Ns.new s.heap (.type "dict")).keeps (pushCells_keeps _ _)) (λb o e=>pushCells_keeps _ _ b o (Zb _ e)) λhb x c e hl=>?_;refine Qm9 (s.heap.objs.size+1) scope.names (s.heap.push {cls:= .type "dict",data:= .dict #[]}) cl (λx c e hl=>?_) (by rw[hs];exact Zj _) x c (by rw[hs];exact e) hl;exact absurd (Zp (hb x c e) (Zo (ZbA _) hl)) (ZX _)
section
variable {X:Cx}{tg iter elt:Expr}{ifs:List Expr}{scope:Scope}{N':List Str}{pos:Pos}
structure Qfa (X:Cx) (N':List Str) (scope:Scope):Prop where
 kind:scope.kind= .function
 own:∀y∈scope.names,y.2= .cell->scope.names.lookup y.1=some .cell
 loc:∀y∈scope.names,y.2= .local ->scope.names.lookup y.1=some .local
 free:∀y∈scope.names,y.2= .free->X.env.kindOf y.1=some .cell∨X.env.kindOf y.1=some .free
theorem Qwu{pins:List (Addr×Obj)}{σ σc:St}{H3:Hp}{s3:Shared}{fp:LAd}{cl:List (Str×Addr)}{h':Heap}{tk:Nat}(S:Qfa X N' scope)(I:Inv X pins σ H3 s3)
  (hf:∀b∈fp,Qd6 X pins H3 b) (hfl:∀b∈fp,b<s3.heap.objs.size) (hc1:∀x c,cl.lookup x=some c->X.env.cells.lookup x=some c) (hc2:∀y∈scope.names,y.2= .free->∃c,cl.lookup y.1=some c) (cap:Qlx X N' scope σ σc)
  (hns:h'.Ns s3.heap.objs.size (λ_=>none)) (hk:∀b o,s3.heap.get? b=some o->h'.get? b=some o)
  (hown:(∀x c,cl.lookup x=some c->c<s3.heap.objs.size)->∀x c,(cellsFrom (s3.heap.objs.size+1) scope.names cl).lookup x=some c->s3.heap.objs.size+1<=c->h'.IsCell c none):
  Inv (cxc X N' scope (cellsFrom (s3.heap.objs.size+1) scope.names cl) s3.heap.objs.size fp s3 H3) [] σc H3 {s3 with heap:=h',toks:=tk}:=by
 have nold:∀b,b∈fp->b≠s3.heap.objs.size:=λb hb e=>absurd (hfl b hb) (by rw[e];exact ZX _);have cellOld:∀x c,cl.lookup x=some c->∃v,s3.heap.IsCell c v:=λx c e=>I.cell x c (hc1 x c e);have cellLt:∀x c,cl.lookup x=some c->c<s3.heap.objs.size:=λx c e=>let ⟨v,q⟩:=cellOld x c e;q.lt;have cellNew:∀c v,s3.heap.IsCell c v->h'.IsCell c v:=λc v ⟨o,ho,hd⟩=>⟨o,hk c o ho,hd⟩;have hown:=hown cellLt;have look:∀x c,(cellsFrom (s3.heap.objs.size+1) scope.names cl).lookup x=some c->cl.lookup x=some c∨(s3.heap.objs.size+1<=c/\(x,NameKind.cell)∈scope.names):=Qhz scope.names _ cl
 refine⟨⟨I.ok.mod,S.kind,I.ok.glob,I.ok.blt,Zj _,QoN scope.names _ cl (λx y c h1 h2=>I.ok.inj x y c (hc1 x c h1) (hc1 y c h2)) (λx c e=>ZaR (cellLt x c e)),λx hx=>?_,λx c e1 e2=>?_,I.ok.hd,I.ok.frames,.inl rfl,λb hb=>⟨nold b hb,λx c e=>?_⟩,
  I.bs,Zo I.ok.bsz I.sz,λb o e hb=>?_,λb hb hs=>?_,I.stack,I.Qns⟩,rfl,I.bare,Un.kept hk,⟨_,hns,λj x v h1 h2 h3=>?_⟩,λx c e=>?_,I.hok.fresh (Zj _),λx c e=>?_,λp hp=>absurd (show p∈([]:List (Addr×Obj))from hp) (by simp),I.hok.kept hk,cap.1⟩
 ·obtain⟨k,hm,hk'⟩:=Qfc hx;rcases hk' with rfl | rfl
  ·exact Qhs scope.names _ cl x (hc2 _ hm rfl)
  ·exact Qpg scope.names _ cl x hm
 ·have e1:decide (scope.names.lookup x=some .cell)=true:=e1;have:=Qpf scope.names _ cl x c (Zal (of_decide_eq_true e1)) e2;exact Zo (ZbA _) this
 ·rcases look x c e with e | ⟨e,_⟩
  ·exact(hf b hb).2.2.2.2.1 x c (hc1 x c e)
  ·intro z;rw[z]at e;exact absurd (Zp (hfl b hb) (Zo (ZbA _) e)) (ZX _)
 ·rcases(hf b hb).2.2.2.1 with z | z
  ·exact I.ok.noex b o e z
  ·exact absurd (Zp (Zt e) (Zo I.ok.bsz z)) (ZX _)
 ·rcases Zi.mp (I.Qf5 b hs)with e | z
  ·exact(hf b hb).2.1 e
  ·exact(hf b hb).2.2.1 z
 ·obtain⟨hl,i,e1,e2,e3⟩:=cap.2 j x v h1 h2;obtain⟨m,hn,look'⟩:=I.loc;obtain⟨u,r,l⟩:=look' i x v e1 e2 (e3.elim (λz=> .inr (.inl z)) λz=> .inr (.inr z));refine⟨u,r,.inr ⟨QcR hl,?_⟩⟩;rcases l with⟨k,_⟩ | ⟨_,c,ec,hcell⟩
  ·rcases e3 with z | z<;>(rw[k]at z;cases z)
  ·obtain⟨c',ec'⟩:=Qhs scope.names (s3.heap.objs.size+1) cl x (hc2 (x,.free) (Zal hl) rfl);rcases look x c' ec' with q | ⟨_,q⟩
   ·have:=hc1 x c' q;rw[ec]at this;cases this;exact⟨c,ec',cellNew c _ hcell⟩
   ·have:=S.own _ q rfl;rw[hl]at this;cases this
 ·rcases look x c e with q | ⟨q,_⟩
  ·obtain⟨v,q⟩:=cellOld x c q;exact⟨v,cellNew c v q⟩
  ·exact⟨none,hown x c e q⟩
 ·rcases look x c e with q | ⟨q,_⟩
  ·exact I.freeC x c (hc1 x c q)
  ·exact I.hok.fresh ⋯
theorem Qtv(J:Nat->Shared->Prop)
  (turn:∀n s,J n s->wpAny (model prog w) A (pyNext it) (λr s1=>match r with
   | none=>R (.ok .next) s1
   | some v=>wpAny (model prog w) A (letOwnedTupleGo tg it v) (λ_ s2=>wpAny (model prog w) A (assign tg env v) (λ_ s3=>
     wpAny (model prog w) A (forIn ifs true λc r=>if r=true then do let ok ← isTrue c env (eval c env);pure (ForInStep.yield ok)else pure (ForInStep.yield r)) (λok s4=>
      if ok=true then wpAny (model prog w) A (eval elt env) (λx s5=>wpAny (model prog w) A (call (.builtin "list.append") [acc,x]) (λ_ s6=>∃m,m<n/\J m s6) (λ_ _=>False) s5) (λ_ _=>False) s4
      else ∃m,m<n/\J m s4) (λ_ _=>False) s3) (λ_ _=>False) s2) (λ_ _=>False) s1) (λ_ _=>False) s)
  (n:Nat) (h:J n s0):codeAny (model prog w) A (.compLoop (.ListComp elt [⟨tg,iter,ifs,0⟩] scope pos) 0 it acc env) R s0:=by
 have up:∀{α:Type}{t:Sem α}{Q:α->Shared->Prop}{E:Value->Shared->Prop}{s:Shared},wpAny (model prog w) A t Q (λ_ _=>False) s->wpAny (model prog w) A t Q E s:=λh=>wpAny_mono h (λ_ _ q=>q) λ_ _ f=>f.elim;refine codeAny_loop (by rfl) J (λk sk hk=>?_) n h;show wpAny (model prog w) A ((compTurn (.ListComp elt [⟨tg,iter,ifs,0⟩] scope pos) 0 it acc env).onRaise (λx=>do noteFrame x env;theTreesLotGoes x)) _ _ sk;refine wpAny_noted (up ?_);rw[compTurn_list];refine wpAny_bind (wpAny_standAt (wpAny_bind (thn (turn k sk hk) λr s1 h1=>?_)));cases r with
 | none=>exact wpAny_pure h1
 | some v=>
  refine wpAny_bind (thn h1 λ_ s2 h2=>wpAny_bind (thn h2 λ_ s3 h3=>wpAny_bind (thn h3 λok s4 h4=>?_)));cases ok with
  | false=>exact wpAny_pure ⟨rfl,h4⟩
  | true=>exact wpAny_bind (wpAny_bind (thn h4 λx s5 h5=>wpAny_bind (thn h5 λ_ s6 h6=>wpAny_pure (wpAny_pure ⟨rfl,h6⟩))))
theorem Qwa{it D C:Addr}{fp:LAd}{tn:Nat->Heap->Prop}{J:It}{cl:List (Str×Addr)}{s3 s4:Shared}{H3:Hp}{σc:St}{g:TG}{tc:TT}{te:TE}{Q:Hp->Prop}(hcalm:X.calm=true)
  (T:Turn X.prog X.w X.K tg J fp it tn)
  (hg:PG (cxc X N' scope cl C fp s3 H3) tg g) (ht:PTs (cxc X N' scope cl C fp s3 H3) ifs tc) (he:PE (cxc X N' scope cl C fp s3 H3) elt te)
  (I:Inv (cxc X N' scope cl C fp s3 H3) [] σc H3 s4) (st:tn 0 s4.heap) (ff:∀b∈fp,Qd6 (cxc X N' scope cl C fp s3 H3) [] H3 b)
  (W:Nat->Nat->List V->Hp->Prop) (hw:∃m,W 0 m [] H3)
  (turn:∀i m acc H2,W i m acc H2->(J.stop i H2/\Q H2)∨
   (J.go i H2/\∀x H5,J.yld i H2 x H5->g x σc H5 λσ2 H6=>(∀(j:Nat) v,σc[j]? =some (some v)->σ2[j]? =some (some v))/\tc σ2 H6 λb H7=>if b=true then
    te σ2 H7 λy H8=>H8 D=some (.lst acc)/\acc.length<sizeLine/\∃m',m'<m/\W (i+1) m' (acc++[y]) (upd H8 D (.lst (acc++[y])))
    else ∃m',m'<m/\W (i+1) m' acc H7))
  {R:Result->Shared->Prop}(hR:∀H' s',Inv (cxc X N' scope cl C fp s3 H3) [] σc H' s'->Q H'->R (.ok .next) s'):
  codeAny (model X.prog X.w) X.A (.compStart (.ListComp elt [⟨tg,iter,ifs,0⟩] scope pos) 0 (.ref it) (.ref D) (compEnvC scope cl C X.env)) R s4:=by
 obtain⟨m0,w0⟩:=hw;have stat:∀{H':Hp},(∀b∈fp,H' b=none)->∀b∈fp,Qd6 (cxc X N' scope cl C fp s3 H3) [] H' b:=λhn b hb=>⟨hn b hb,(ff b hb).2⟩;have loop:codeAny (model X.prog X.w) X.A (.compLoop (.ListComp elt [⟨tg,iter,ifs,0⟩] scope pos) 0 (.ref it) (.ref D) (compEnvC scope cl C X.env)) R s4:=by
  refine Qtv (λn s'=>∃i acc H',Inv (cxc X N' scope cl C fp s3 H3) [] σc H' s'/\tn i s'.heap/\(∀b∈fp,H' b=none)/\W i n acc H') ?_ m0 ⟨0,[],H3,I,st,λb hb=>(ff b hb).1,w0⟩;rintro n s5 ⟨i,acc,H5,I5,st5,fr5,w5⟩;rcases turn i n acc H5 w5 with⟨stop,q⟩ | ⟨go,step⟩
  ·refine thn (T.done (cxc X N' scope cl C fp s3 H3) rfl rfl rfl hcalm i [] s5 σc H5 _ I5 (stat fr5) st5 stop) λr s6 Z=>?_;obtain⟨hr,I6⟩:=Z;subst hr;exact hR H5 s6 I6 q
  ·refine thn (T.item (cxc X N' scope cl C fp s3 H3) rfl rfl rfl hcalm i [] s5 σc H5 _ I5 (stat fr5) st5 go) λr s6 Z=>?_;obtain⟨u,hr,h6⟩:=Z;subst hr;refine thn h6 λ_ s7 Z=>?_;obtain⟨x,H7,I7,r7,y7,st7,fr7⟩:=Z;have I7':=I7.pinned (stat fr7) (T.obj _ _ st7);refine thn (hg _ s7 σc H7 x u _ I7' r7 (step x H7 y7)) λ_ s8=>exJ λσ8 H8 I8 k8 q8=>?_;refine thn (ht _ s8 σ8 H8 _ I8 q8) λok s9 Z=>?_;obtain⟨H9,I9,q9⟩:=Z
   have again:∀{H':Hp}{s':Shared}{acc':List V},Inv (cxc X N' scope cl C fp s3 H3) ([]++QjD fp s7.heap) σ8 H' s'->(∃m',m'<n/\W (i+1) m' acc' H')→
     ∃m,m<n/\∃i acc H',Inv (cxc X N' scope cl C fp s3 H3) [] σc H' s'/\tn i s'.heap/\(∀b∈fp,H' b=none)/\W i m acc H':=λ{H' s' acc'} I' ⟨m',hm,w'⟩=>by
    have pin:∀b∈fp,∀o,s7.heap.get? b=some o->s'.heap.get? b=some o/\H' b=none:=λb hb o e=>by
     have z:=I'.pin (b,o) (Ze _ (Ze _ (QhL hb e)));exact⟨z.1,z.2.1⟩
    refine⟨m',hm,i+1,acc',H',?_,T.keep _ _ _ st7 λb hb o e=>(pin b hb o e).1,λb hb=>?_,w'⟩
    ·exact I'.Qia.weak (I.len.trans I8.len.symm) k8
    ·obtain⟨o,e,_⟩:=T.obj _ _ st7 b hb;exact(pin b hb o e).2
   cases ok with
   | false=>
    rw[if_neg Zah]at q9 ⊢;exact again I9 q9
   | true=>
    rw[if_pos rfl]at q9 ⊢;refine thn (he _ s9 σ8 H9 _ I9 q9) λyv s10 Z=>?_;obtain⟨y,H10,I10,r10,e10,l10,q10⟩:=Z;refine thn (QnI _ s10 σ8 H10 (.ref D) [y] (.ref D) [yv] (λv H11=>H11=upd H10 D (.lst (acc++[y]))) I10 rfl (.cons r10 .nil) ⟨D,acc,y,rfl,rfl,e10,l10,rfl⟩) λ_ s11 Z=>?_;obtain⟨_,H11,I11,_,e11⟩:=Z;subst e11;exact again I11 q10
 exact codeAny_compStart_list loop (T.self _ 0 _ _ _ st loop)
theorem Qp8{wi:TI}{g:TG}{tc:TT}{te:TE}{cp:Pos}{use:Option (Value->Sem Unit)}{pins:List (Addr×Obj)}{s:Shared}{σ:St}{H:Hp}{QV:Value->Shared->Prop}{Q:VK}(hcalm:X.calm=true)(S:Qfa X N' scope)(hi:PI X tg iter wi)
  (hin:∀cl C fp s3 H3,PG (cxc X N' scope cl C fp s3 H3) tg g/\PTs (cxc X N' scope cl C fp s3 H3) ifs tc/\PE (cxc X N' scope cl C fp s3 H3) elt te)
  (hs:∀x,foldedSetIterable iter X.env x=pure x) (I:Inv X pins σ H s) (h:QoG wi (Qlx X N' scope) g tc te σ H Q)
  (fin:∀(D C:Addr) (H':Hp) (s':Shared),Inv X pins σ H' s'->H' C=none->C≠X.env.locals->X.s₀.heap.objs.size<=C->(∀x c,X.env.cells.lookup x=some c->c≠C)->(∀p∈X.pn++pins,p.1≠C)->(∃m,s'.heap.Ns C m)->Q (.ref D) H'→
   compPost (model X.prog X.w) X.A X.xe use QV (.ref D) C (.ok .next) s'):
  wpAny (model X.prog X.w) X.A (comprehension (.ListComp elt [⟨tg,iter,ifs,0⟩] scope pos) scope X.env cp (newList []) false (eval iter X.env) use) QV X.xe s:=by
 obtain⟨cl,hcl,hc1,hc2⟩:=Qy9 λy hy hf=>I.ok.has y.1 (S.free y hy hf);refine wpAny_comprehension_free rfl hs hcl S.kind S.loc ?_;refine thn (hi pins s σ H _ I h) λv s1 h1=>thn h1 λitv s2 h2=>?_;obtain⟨it,fp,tn,J,H2,e,I2,T,st2,f2,σc,cap,hw⟩:=h2;subst e;have hD0:H2 s2.heap.objs.size=none:=I2.hok.fresh (Zj _);obtain⟨W,hW0,turn⟩:=hw _ hD0;have fpl:∀b∈fp,b<s2.heap.objs.size:=λb hb=>let ⟨o,e,_⟩:=T.obj _ _ st2 b hb;Zt e;have hlist:∀D:Addr,D=s2.heap.objs.size->∃x,x=D:=λD _=>⟨D,rfl⟩;refine wpAny_newObj_type ?_
 have I3:Inv X pins σ (upd H2 s2.heap.objs.size (.lst [])) {s2 with heap:=s2.heap.push {cls:= .type "list",dict:=none,data:= .seq ([]:List Value).toArray}}:=
  I2.laid (t':=s2.toks) (λb o e=>Zb _ e) (Zj _) ⟨Zab _,[],0,.nil,Zz _ rfl⟩
 generalize hs3:({s2 with heap:=s2.heap.push {cls:= .type "list",dict:=none,data:= .seq ([]:List Value).toArray}}:Shared)=s3 at I3;have hs3':s3.heap=s2.heap.push {cls:= .type "list",dict:=none,data:= .seq ([]:List Value).toArray}:=by rw[← hs3]
 have sz3:s3.heap.objs.size=s2.heap.objs.size+1:=by rw[hs3',Zao]
 have old3:∀b o,s2.heap.get? b=some o->s3.heap.get? b=some o:=λb o e=>by rw[hs3'];exact Zb _ e
 have f3:∀b∈fp,Qd6 X pins (upd H2 s2.heap.objs.size (.lst [])) b:=λb hb=>⟨by rw[QR (ZM (fpl b hb))];exact(f2 b hb).1,(f2 b hb).2⟩;have fpl3:∀b∈fp,b<s3.heap.objs.size:=λb hb=>by rw[sz3];exact ZaR (fpl b hb)
 refine QsE (λh4 hns4' keep4 hown4=>?_);have I4:=Qwu (tk:=s3.toks) S I3 f3 fpl3 hc1 hc2 cap hns4' keep4 hown4;have hout:∀H' s',Inv (cxc X N' scope (cellsFrom (s3.heap.objs.size+1) scope.names cl) s3.heap.objs.size fp s3 (upd H2 s2.heap.objs.size (.lst []))) [] σc H' s'->Inv X pins σ H' s':=λH' s' J'=>
  I3.QxB J'.os J'.base J'.hok J'.bare λb hb=>⟨(f3 b hb).2.2.2.1,(f3 b hb).2.1,(f3 b hb).2.2.2.2.1,(f3 b hb).2.2.2.2.2⟩
 obtain⟨hg,ht,he⟩:=hin (cellsFrom (s3.heap.objs.size+1) scope.names cl) s3.heap.objs.size fp s3 (upd H2 s2.heap.objs.size (.lst []));have fc:∀b∈fp,Qd6 (cxc X N' scope (cellsFrom (s3.heap.objs.size+1) scope.names cl) s3.heap.objs.size fp s3 (upd H2 s2.heap.objs.size (.lst []))) [] (upd H2 s2.heap.objs.size (.lst [])) b:=λb hb=>
  ⟨(f3 b hb).1,ZM (fpl3 b hb),λhs'=>(Zi.mp (I3.Qf5 b hs')).elim (f3 b hb).2.1 (f3 b hb).2.2.1,.inl hb,λx c e=>(by
   rcases Qhz scope.names _ cl x c e with e | ⟨e,_⟩
   ·exact(f3 b hb).2.2.2.2.1 x c (hc1 x c e)
   ·intro z;rw[z]at e;exact absurd (Zp (fpl3 b hb) (Zo (ZbA _) e)) (ZX _)),λp hp=>absurd (show p∈([]:List (Addr×Obj))from hp) (by simp)⟩
 have hC1:s3.heap.objs.size≠X.env.locals:=Ne.symm (ZM I3.lt);refine Qwa (W:=W) hcalm T hg ht he I4 (T.keep _ _ _ st2 λb hb o e=>keep4 b o (old3 b o e)) fc hW0 turn λH' s' J' q=>?_;have O:=hout H' s' J';refine fin _ _ H' s' O J'.free hC1 (Zo I3.sz (Zj _)) (λx c e z=>?_) (λp hp z=>?_) (let ⟨m,hn,_⟩:=J'.loc;⟨m,hn⟩) q
 ·obtain⟨v,o,ho,_⟩:=I3.cell x c e;exact absurd (Zt ho) (by rw[z];exact ZX _)
 ·exact absurd (Zt (I3.pin p hp).1) (by rw[z];exact ZX _)
theorem Inv.Qxv(I:Inv X pins σ H s)(hs:Heap.SameBut C s.heap h')(hn:H C=none)(hL:C≠X.env.locals)(h1:X.s₀.heap.objs.size<=C)
  (h2:∀x c,X.env.cells.lookup x=some c->c≠C) (h3:∀p∈X.pn++pins,p.1≠C):Inv X pins σ H {s with heap:=h'}:=
 I.turned (t':=s.toks) (λb o hb e=>(hs.2 b hb).trans e) hn hL (.inr h1) h2 h3
theorem QqU(hcalm:X.calm=true)(S:Qfa X N' scope)(hi:PI X tg iter wi)
  (hin:∀cl C fp s3 H3,PG (cxc X N' scope cl C fp s3 H3) tg g/\PTs (cxc X N' scope cl C fp s3 H3) ifs tc/\PE (cxc X N' scope cl C fp s3 H3) elt te)
  (hs:∀x,foldedSetIterable iter X.env x=pure x:=by intro _;rfl):PE X (.ListComp elt [⟨tg,iter,ifs,0⟩] scope pos) (QoG wi (Qlx X N' scope) g tc te):=by
 intro pins s σ H Q I h;rw[eval_ListComp];refine Qp8 hcalm S hi hin hs I h λD C H' s' O h1 h2 h3 h4 h5 Z q=>?_;obtain⟨m,hm⟩:=Z;exact⟨m,hm,λh' hs'=>⟨.ref D,H',O.Qxv hs' h1 h2 h3 h4 h5,rfl,q⟩⟩
theorem QyL(hN:X.N.Nodup)(hx1:X.N[i]? =some x)(hx:Loc X.env.scope x)(hf:X.fn x=true∨X.env.scope.names.lookup x=some .local)(hcalm:X.calm=true)(S:Qfa X N' scope)(hi:PI X tg iter wi)
  (hin:∀cl C fp s3 H3,PG (cxc X N' scope cl C fp s3 H3) tg g/\PTs (cxc X N' scope cl C fp s3 H3) ifs tc/\PE (cxc X N' scope cl C fp s3 H3) elt te)
  (hs:∀x,foldedSetIterable iter X.env x=pure x:=by intro _;rfl):
  PS X (.Assign [.Name x pos'] (.ListComp elt [⟨tg,iter,ifs,0⟩] scope pos) spos) (QeO (QoG wi (Qlx X N' scope) g tc te) (Qgy i)):=by
 have hb:∃b,swapsWith (.ListComp elt [⟨tg,iter,ifs,0⟩] scope pos) (some (.Name x pos')) spos.line X.env=pure b:=⟨_,rfl⟩;obtain⟨b,hb⟩:=hb;cases b with
 | false=>exact Qga hN hx1 hx (QqU hcalm S hi hin hs) hb hf
 | true=>
  intro pins s σ H D I h;rw[exec_Assign_Name_used _ _ _ _ hb];refine wpAny_bind (wpAny_standAt (wpAny_bind ?_));show wpAny _ X.A (do let _ ← comprehension (.ListComp elt [⟨tg,iter,ifs,0⟩] scope pos) scope X.env _ (newList []) false (eval iter X.env) (some (assign (.Name x pos') X.env))) _ _ s;refine wpAny_bind (thn (Qp8 hcalm S hi hin hs I h λDl C H' s' O h1 h2 h3 h4 h5 ⟨m,hm⟩ q=>?_) λ_ s' hq=>wpAny_pure (wpAny_pure hq));refine wpAny_assign_Name (QnQ O hN hx1 hx (v:= .ref Dl) rfl (λs2 I2 hsb=>?_) hf);obtain⟨a,sb,ha⟩:=hsb;have haC:C≠a:=by
   rcases ha with rfl | ha
   ·exact h2
   ·exact Ne.symm (h4 _ _ ha)
  exact⟨m,hm.sameBut sb haC,λh' hs'=>⟨_,H',I2.Qxv hs' h1 h2 h3 h4 h5,q⟩⟩
end
section
theorem Inv.QrX{t':Nat}{ch:LAd}{T:Addr}{ts:List V}(I:Inv X pins σ H s)(hf:∀b∈ch,Qd6 X pins H b)(k:∀b o,b∉ch->s.heap.get? b=some o->h'.get? b=some o)(hp:∀b∈ch,∃o,h'.get? b=some o)
  (hT:s.heap.objs.size<=T) (hnew:ts.length<=sizeLine/\∃its:List Value,QM ts its/\IsTup h' T its.toArray):Inv X pins σ (upd H T (.tup ts)) {s with heap:=h',toks:=t'}:=by
 have hn:H T=none:=I.hok.fresh hT;have neT:∀b u,H b=some u->b≠T:=λb u e=>Qb8 e hn;have nch:∀b u,H b=some u->b∉ch:=λb u e hb=>by rw[(hf b hb).1]at e;cases e
 have ltT:∀b o,s.heap.get? b=some o->b≠T:=λb o e=>ZM (Zp (Zt e) hT)
 refine I.step (g':=s.gens) (d':=s.drawn) (ch:=ch) (λb hb=>?_) (λb o _ _ hc e _=>k b o hc e) (λb o _ _ hc e _=>⟨o.slots,k b o hc e⟩) (λb o _ e n=>by rw[QR (ltT b o e)];exact n)
  (λb o hc e=>⟨o,k b o hc e⟩) (λb xs e=>by rw[QR (neT b _ e)];exact e) (λb o u e=>by rw[QR (neT b _ e)];exact e) (λb ps e=>⟨#[],by rw[QR (neT b _ e),e];simp⟩) (λm hm=>?_) (λb u e=>?_) I.bare
 ·obtain⟨f0,f1,f2,f3,f4,f5⟩:=hf b hb;exact⟨f3,f1,f4,f5⟩
 ·obtain⟨o,es,ep,ho,r⟩:=hm;exact⟨o,es,ep,k _ o (λz=>(hf _ z).2.1 rfl) ho,r⟩
 ·by_cases hb:b=T
  ·subst hb;rw[Qaa]at e;cases e;exact hnew
  ·rw[QR hb]at e;refine(I.hok b u e).QgP (λc v hc q=>k c v ?_ q) (λc q=>by rw[QR (neT c _ q)];exact q) λc xs q=>by rw[QR (neT c _ q)];exact q
   rcases hc with z | z
   ·rw[z];exact nch b u e
   ·exact nch c _ z
theorem Inv.turns{t':Nat}{ch:LAd}(I:Inv X pins σ H s)(hf:∀b∈ch,Qd6 X pins H b)(k:∀b o,b∉ch->s.heap.get? b=some o->h'.get? b=some o):Inv X pins σ H {s with heap:=h',toks:=t'}:=by
 have nch:∀b u,H b=some u->b∉ch:=λb u e hb=>by rw[(hf b hb).1]at e;cases e
 refine I.step (g':=s.gens) (d':=s.drawn) (ch:=ch) (λb hb=>?_) (λb o _ _ hc e _=>k b o hc e) (λb o _ _ hc e _=>⟨o.slots,k b o hc e⟩) (λb o _ e n=>n)
  (λb o hc e=>⟨o,k b o hc e⟩) (λb xs e=>e) (λb o u e=>e) (λb ps e=>⟨#[],by rw[e];simp⟩) (λm hm=>?_) (λb u e=>?_) I.bare
 ·obtain⟨f0,f1,f2,f3,f4,f5⟩:=hf b hb;exact⟨f3,f1,f4,f5⟩
 ·obtain⟨o,es,ep,ho,r⟩:=hm;exact⟨o,es,ep,k _ o (λz=>(hf _ z).2.1 rfl) ho,r⟩
 ·refine(I.hok b u e).QgP (λc v hc q=>k c v ?_ q) (λc q=>q) λc xs q=>q;rcases hc with z | z
  ·rw[z];exact nch b u e
  ·exact nch c _ z
end
noncomputable def Ite(K:Fgg)(a:Addr):It:=
 ⟨λi H=>∃xs x,SqL K H a xs/\xs[i]? =some x,λi H v H'=>∃p x,v= .ref p/\H p=none/\H'=upd H p (.tup [.int i,x])/\∀xs,SqL K H a xs->xs[i]? =some x,λi H=>∃xs,SqL K H a xs/\xs.length<=i⟩
theorem mm0{a:Addr}{l:LAd}:a∈a::l:= .head _
theorem mm1{a b:Addr}{l:LAd}:a∈b::a::l:= .tail _ mm0
theorem mm2{a b c:Addr}{l:LAd}:a∈b::c::a::l:= .tail _ mm1
theorem mm3{a b c d:Addr}{l:LAd}:a∈b::c::d::a::l:= .tail _ mm2
theorem mm4{a b c d e:Addr}{l:LAd}:a∈b::c::d::e::a::l:= .tail _ mm3
theorem nmm{a b:Addr}{l:LAd}(hb:b∉l)(ha:a∈l):b≠a:=λe=>hb (e▸ha)
theorem fa1{p:Addr->Prop}{a:Addr}{l:LAd}(h:p a)(t:∀x∈l,p x):∀x∈a::l,p x:=List.forall_mem_cons.2 ⟨h,t⟩
def NL(h:Heap)(b:Addr):Prop:=∃o,h.get? b=some o/\o.cls≠ .type "list" /\∀v,o.data≠ .cell v
theorem NL.it{h:Heap}(q:h.IsListIter b l k):NL h b:=by
 obtain⟨o,ho,hc,hd⟩:=q;exact⟨o,ho,by rw[hc];simp,λv z=>by rw[hd]at z;cases z⟩
theorem NL.zip(hz:IsZip h z T1 T2 x):NL h z:=⟨_,hz,by simp,λv z=>by cases z⟩
theorem NL.tup{h:Heap}(q:h.get? b=some {cls:= .type "tuple",data:= .seq a}):NL h b:=⟨_,q,by simp,λv z=>by cases z⟩
theorem NL.obj(n:NL h b):∃o,h.get? b=some o/\∀v,o.data≠ .cell v:=let ⟨o,e,_,v⟩:=n;⟨o,e,v⟩
theorem NL.ex(n:NL h b):∃o,h.get? b=some o:=let ⟨o,e,_⟩:=n;⟨o,e⟩
theorem NL.lt(n:NL h b):b<h.objs.size:=let ⟨_,e⟩:=n.ex;Zt e
theorem NL.apart{X:Cx}{H:Hp}{s:Shared}(n:NL s.heap b)(I:Inv X pins σ H s)(hn:H b=none)(hq:SqL X.K H l ys):l≠b:=λe=>by
 subst e;rcases hq with(hq | ⟨_,hq⟩) | ⟨o',its,k,hk,hc',_⟩
 ·rw[hn]at hq;cases hq
 ·rw[hn]at hq;cases hq
 ·obtain⟨o,ho,hc,_⟩:=n;rw[I.kIn l o' hk]at ho;exact hc (Option.some.inj ho▸hc')
theorem Qua{P:Program}{w:World}{K:Fgg}{es:List Expr}{tk:Nat}{tpos:Pos}(a e it:Addr)(hne:e≠it):Turn P w K (.Tuple es tk tpos) (Ite K a) [e,it] e (λi h=>∃old,IsEnum h e it (i:Int) old/\h.IsListIter it a i) where
 mem:=mm0
 obj:=λi h st b hb=>by
  obtain⟨old,he,hi⟩:=st;exact(fa1 (p:=NL h) ⟨_,he,by simp,λv z=>by cases z⟩ (fa1 (.it hi) (List.forall_mem_nil _)) b hb).obj
 keep:=λi h h' st k=>by
  obtain⟨old,he,hi⟩:=st;exact⟨old,k e mm0 _ he,hi.at (k it mm1)⟩
 item:=by
  intro X hP hw hK hc i pins s σ H E I hf st hg;subst hP hw hK;obtain⟨old,he,hi⟩:=st;obtain⟨xs,x,hq,hx⟩:=hg;obtain⟨its,rv,p,hz⟩:=I.list hq;obtain⟨u,hu,ru⟩:=rv.get hx;refine wpAny_pyNext_enum_item he hi p.isList (x:=u) (by simpa using hu) hne λh1 heo hi1 ht1 hz1 hk1=>?_;refine⟨.ref s.heap.objs.size,rfl,wpAny_letOwnedTupleGo_enum heo λh2 he2 hs2=>?_⟩
  replace hs2:Heap.SameBut e h1 h2:=hs2
  have helt:e<s.heap.objs.size:=Zt he;have hilt:it<s.heap.objs.size:=by obtain⟨o,ho,_⟩:=hi;exact Zt ho
  have ht2:IsTup h2 s.heap.objs.size [Value.int i s.toks,u].toArray:=⟨_,(hs2.2 _ (Zbn helt)).trans ht1,rfl,_,rfl⟩;have hi2:h2.IsListIter it a (i+1):=hi1.extBut hs2.extBut (Ne.symm hne);have kk:∀b o,b∉[e,it]->s.heap.get? b=some o->h2.get? b=some o:=λb o hb q=>by
   have h1:b≠e:=λz=>hb (by simp[z]);have h2:b≠it:=λz=>hb (by simp[z]);exact hs2.extBut b o h1 (hk1 b o h1 h2 q)
  refine⟨.ref s.heap.objs.size,upd H s.heap.objs.size (.tup [.int i,x]),I.QrX (t':=s.toks+1) hf kk (λb hb=>?_) (Zj _) ⟨by show 2<=sizeLine;decide,_,.cons ⟨_,rfl⟩ (.cons ru .nil),ht2⟩,rfl,
   ⟨_,x,rfl,I.hok.fresh (Zj _),rfl,λys hy=>by rw[I.QdP hy hq];exact hx⟩,⟨u,?_,hi2⟩,λb hb=>?_⟩
  ·have hb:b=e∨b=it:=by simpa using hb
   rcases hb with rfl | rfl
   ·exact⟨_,he2⟩
   ·obtain⟨o,ho,_⟩:=hi2;exact⟨o,ho⟩
  ·have:((i+1:Nat):Int)=(i:Int)+1:=by push_cast;rfl
   rw[this];exact he2
  ·have hb':b=e∨b=it:=by simpa using hb
   have:b≠s.heap.objs.size:=by
    rcases hb' with rfl | rfl
    ·exact ZM helt
    ·exact ZM hilt
   rw[QR this];exact(hf b hb).1
 done:=by
  intro X hP hw hK hc i pins s σ H E I hf st hg;subst hP hw hK;obtain⟨old,he,hi⟩:=st;obtain⟨xs,hq,hx⟩:=hg;obtain⟨its,rv,p,hz⟩:=I.list hq;have hl:=rv.length;refine wpAny_pyNext_enum_end (I.ok.hd hc) he hi p.isList (by simp;omega) λh1 eb=>⟨rfl,?_⟩;exact I.turns (t':=s.toks) hf λb o hb q=>eb b o (λz=>hb (by simp[z])) q
 self:=λ_ _ _ _ _ st h=>by
  obtain⟨old,he,hi⟩:=st;exact wpAny_pyIter_enum he h
section
noncomputable def QCC(K:Fgg)(ta:TA):TI:=λσ H R=>ta σ H λvs H1=>∃a,vs=[.ref a]/\(∃xs,SqL K H1 a xs)/\R (Ite K a) H1
theorem Qy4{a:Expr}{ta:TA}{p pos:Pos}{es:List Expr}{tk:Nat}{tpos:Pos}(hg:Gl X "enumerate")(hm:X.mg "enumerate" =none)(ha:PA X [a] ta)(hs:starEach [a] X.env=[(false,eval a X.env)]):
  PI X (.Tuple es tk tpos) (.Call (.Name "enumerate" p) [a] [] pos) (QCC X.K ta):=by
 intro pins s σ H R I h;refine Call_ (Qdx I hg hm PyProof.Rows.boot_enumerate (Zad (thn (ha pos pins s σ H _ I h) λus s1 ⟨vs,H1,I1,r1,q1⟩=>?_) hs rfl));obtain⟨l,e,⟨xs,hq⟩,q⟩:=q1;subst e;obtain⟨u,rfl,ru⟩:=vals1 r1;cases ru;obtain⟨its,rv,pl,hz⟩:=I1.list hq;refine call_enumerate_list pl.isList λh2 he2 hi2 hz2 hk2=>?_;have I2:Inv X pins σ H1 {s1 with heap:=h2}:=I1.kept (t':=s1.toks) hk2;refine wpAny_pyIter_enum he2 ⟨_,[s1.heap.objs.size+1,s1.heap.objs.size],_,_,H1,rfl,I2,Qua l _ _ (Nat.succ_ne_self _),⟨_,he2,hi2⟩,λb hb=>?_,q⟩;have hb:b=s1.heap.objs.size+1∨b=s1.heap.objs.size:=by simpa using hb
 have hle:s1.heap.objs.size<=b:=by rcases hb with rfl | rfl<;>omega
 exact I1.QkU hle (I1.hok.fresh hle)
end
noncomputable def Itz(K:Fgg)(a b:Addr):It:=
 ⟨λi H=>∃xs ys x y,SqL K H a xs/\SqL K H b ys/\xs[i]? =some x/\ys[i]? =some y,λi H v H'=>∃p x y,v= .ref p/\H p=none/\H'=upd H p (.tup [x,y])/\(∀xs,SqL K H a xs->xs[i]? =some x)/\∀ys,SqL K H b ys->ys[i]? =some y,
  λi H=>∃xs ys,SqL K H a xs/\SqL K H b ys/\(xs.length<=i∨ys.length<=i)⟩
structure Qrk (z TI TO i1 i2:Addr):Prop where
 a:TI≠z
 b:TO≠z
 c:i1≠z
 d:i2≠z
 e:TI≠TO
 f:TI≠i1
 g:TI≠i2
 h:TO≠i1
 i:TO≠i2
 j:i1≠i2
theorem Qmq{h:Heap}(hz:IsZip h z T1 T2 x)(hA:IsPair h T1 a b)(hB:IsPair h T2 c d)(h1:h.IsListIter i1 l1 k)(h2:h.IsListIter i2 l2 k):∀b∈[z,T1,T2,i1,i2],NL h b:=
 fa1 (.zip hz) (fa1 (.tup hA) (fa1 (.tup hB) (fa1 (.it h1) (fa1 (.it h2) λ_ h=>nomatch h))))
theorem Qtj{X:Cx}{s:Shared}(D:Qrk z T1 T2 i1 i2)(I:Inv X pins σ H s)(hf:∀b∈[z,T1,T2,i1,i2],Qd6 X pins H b)(O:∀b∈[z,T1,T2,i1,i2],NL s.heap b)(hq1:SqL X.K H l1 xs)(hq2:SqL X.K H l2 ys):ZipApart z T1 T2 i1 i2 l1 l2:=by
 have A1:=λb hb=>(O b hb).apart I (hf b hb).1 hq1;have A2:=λb hb=>(O b hb).apart I (hf b hb).1 hq2;exact⟨D.a,D.b,D.c,D.d,D.e,D.f,D.g,D.h,D.i,D.j,A1 z mm0,A1 T2 mm2,A1 i1 mm3,A1 i2 mm4,A2 z mm0,A2 T2 mm2,A2 i1 mm3,A2 i2 mm4⟩
theorem Qwo{P:Program}{w:World}{K:Fgg}{es:List Expr}{tk:Nat}{tpos:Pos}(l1 l2 z TI TO i1 i2:Addr)(D:Qrk z TI TO i1 i2):
  Turn P w K (.Tuple es tk tpos) (Itz K l1 l2) [z,TI,TO,i1,i2] z (λi h=>IsZip h z TI TO .none/\IsPair h TI (.ref i1) (.ref i2)/\(∃a b,IsPair h TO a b)/\h.IsListIter i1 l1 i/\h.IsListIter i2 l2 i) where
 mem:=mm0
 obj:=λi h st b hb=>by
  obtain⟨hz,hTI,⟨p,q,hTO⟩,h1,h2⟩:=st;exact(Qmq hz hTI hTO h1 h2 b hb).obj
 keep:=λi h h' st k=>by
  obtain⟨hz,hTI,⟨p,q,hTO⟩,h1,h2⟩:=st;exact⟨k z mm0 _ hz,k TI mm1 _ hTI,⟨p,q,k TO mm2 _ hTO⟩,h1.at (k i1 mm3),h2.at (k i2 mm4)⟩
 item:=by
  intro X hP hw hK hc i pins s σ H E I hf st hg;subst hP hw hK;obtain⟨hz,hTI,⟨a0,b0,hTO⟩,h1,h2⟩:=st;obtain⟨xs,ys,x,y,hq1,hq2,hx,hy⟩:=hg;obtain⟨its,rv,p,hzz⟩:=I.list hq1;obtain⟨its2,rv2,p2,hzz2⟩:=I.list hq2;obtain⟨u,hu,ru⟩:=rv.get hx;obtain⟨u2,hu2,ru2⟩:=rv2.get hy;have O:=Qmq hz hTI hTO h1 h2;refine wpAny_pyNext_zip_item (Qtj D I hf O hq1 hq2) hz hTI hTO h1 h2 p.isList p2.isList (x:=u) (y:=u2) (by simpa using hu) (by simpa using hu2) λh3 z3 TO3 a3 b3 T3 sz3 k3=>?_;refine⟨.ref s.heap.objs.size,rfl,wpAny_letOwnedTupleGo_zip z3 λh4 z4 hs4=>?_⟩
  replace hs4:Heap.SameBut z h3 h4:=hs4
  have kk:∀b o,b∉[z,TI,TO,i1,i2]->s.heap.get? b=some o->h4.get? b=some o:=λb o hb q=>
   hs4.extBut b o (nmm hb mm0) (k3 b o (nmm hb mm0) (nmm hb mm2) (nmm hb mm3) (nmm hb mm4) q)
  have TI4:IsPair h4 TI (.ref i1) (.ref i2):=hs4.extBut _ _ D.a (k3 _ _ D.a D.e D.f D.g hTI);have TO4:IsPair h4 TO u u2:=hs4.extBut _ _ D.b TO3;have a4:h4.IsListIter i1 l1 (i+1):=a3.extBut hs4.extBut D.c;have b4:h4.IsListIter i2 l2 (i+1):=b3.extBut hs4.extBut D.d
  exact⟨.ref s.heap.objs.size,upd H s.heap.objs.size (.tup [x,y]),I.QrX (t':=s.toks) hf kk (λb hb=>(Qmq z4 TI4 TO4 a4 b4 b hb).ex) (Zj _) ⟨by show 2<=sizeLine;decide,_,.cons ru (.cons ru2 .nil),_,(hs4.2 _ (Zbn (O z mm0).lt)).trans T3,rfl,_,rfl⟩,rfl,
   ⟨_,x,y,rfl,I.hok.fresh (Zj _),rfl,λzs hy'=>by rw[I.QdP hy' hq1];exact hx,λzs hy'=>by rw[I.QdP hy' hq2];exact hy⟩,⟨z4,TI4,⟨_,_,TO4⟩,a4,b4⟩,λb hb=>by rw[QR (ZM (O b hb).lt)];exact(hf b hb).1⟩
 done:=by
  intro X hP hw hK hc i pins s σ H E I hf st hg;subst hP hw hK;obtain⟨hz,hTI,⟨a0,b0,hTO⟩,h1,h2⟩:=st;obtain⟨xs,ys,hq1,hq2,hx⟩:=hg;obtain⟨its,rv,p,hzz⟩:=I.list hq1;obtain⟨its2,rv2,p2,hzz2⟩:=I.list hq2;have hl:=rv.length;have hl2:=rv2.length;refine wpAny_pyNext_zip_end (I.ok.hd hc) (Qtj D I hf (Qmq hz hTI hTO h1 h2) hq1 hq2) hz hTI hTO h1 h2 p.isList p2.isList (by rcases hx with hx | hx;(left;simp;omega);(right;simp;omega)) λh3 k3=>⟨rfl,?_⟩;exact I.turns (t':=s.toks) hf λb o hb q=>k3 b o (nmm hb mm0) (nmm hb mm2) (nmm hb mm3) (nmm hb mm4) q
 self:=λ_ _ _ _ _ st h=>wpAny_pyIter_zip st.1 h
section
noncomputable def QDJ(K:Fgg)(ta:TA):TI:=λσ H R=>ta σ H λvs H1=>∃a b,vs=[.ref a,.ref b]/\(∃xs,SqL K H1 a xs)/\(∃ys,SqL K H1 b ys)/\R (Itz K a b) H1
theorem QzY{a b:Expr}{ta:TA}{p pos:Pos}{es:List Expr}{tk:Nat}{tpos:Pos}(hg:Gl X "zip")(hm:X.mg "zip" =none)(ha:PA X [a,b] ta)(hs:starEach [a,b] X.env=[(false,eval a X.env),(false,eval b X.env)])(hs2:starEach [b] X.env=[(false,eval b X.env)]):
  PI X (.Tuple es tk tpos) (.Call (.Name "zip" p) [a,b] [] pos) (QDJ X.K ta):=by
 intro pins s σ H R I h;refine Call_ (Qdx I hg hm PyProof.Rows.boot_zip (Zad (thn (ha pos pins s σ H _ I h) λus s1 ⟨vs,H1,I1,r1,q1⟩=>?_) (by rw[hs,hs2]) (by rw[hs2];rfl)));obtain⟨l,l2,e,⟨xs,hq⟩,⟨ys,hq2⟩,q⟩:=q1;subst e;obtain⟨u,u2,rfl,ru,ru2⟩:=vals2 r1;cases ru;cases ru2;obtain⟨its,rv,pl,hz⟩:=I1.list hq;obtain⟨its2,rv2,pl2,hz2⟩:=I1.list hq2;refine call_zip_2 pl.isList pl2.isList λh2 hz hTI hTO h1 h2' hsz hk2=>?_;have I2:Inv X pins σ H1 {s1 with heap:=h2}:=I1.kept (t':=s1.toks) hk2;refine wpAny_pyIter_zip hz ⟨_,[s1.heap.objs.size+4,s1.heap.objs.size+2,s1.heap.objs.size+3,s1.heap.objs.size,s1.heap.objs.size+1],_,_,H1,rfl,I2,Qwo l l2 _ _ _ _ _ ⟨?_,?_,?_,?_,?_,?_,?_,?_,?_,?_⟩,⟨hz,hTI,⟨_,_,hTO⟩,h1,h2'⟩,λb hb=>?_,q⟩
 iterate 10 (exact(by intro e;first | (have e':(s1.heap.objs.size:Nat)+_=_:=e;omega) | (have e':(s1.heap.objs.size:Nat)=_:=e;omega)))
 have hle:s1.heap.objs.size<=b:=by
  simp only[Zi,Zby,or_false]at hb;rcases hb with rfl | rfl | rfl | rfl | rfl<;>first | exact Zj _ | exact Nat.le_add_right _ _
 exact I1.QkU hle (I1.hok.fresh hle)
end
end L2
namespace L2
open PySem PySem.Spec
theorem QmY(a b c:Value):checkTypeCall "zip" ⟨[a,b,c],[]⟩=pure ():=by kernel_rfl
theorem Qop(a b c:Value):checkBuiltinCall "zip.__new__" ⟨[.type "zip",a,b,c],[]⟩=pure ():=by kernel_rfl
theorem Qje(a b c d:Value):argsOk "object.__init__" ⟨[a,b,c,d],[]⟩:=by
 unfold argsOk;rw[signature?_of (n:=['_','_','t','i','n','i','_','_']) (by kernel_rfl) F.owner_object];kernel_rfl
abbrev Qao(h:Heap)(T:Addr)(a b c:Value):Prop:=h.get? T=some {cls:= .type "tuple",data:= .seq #[a,b,c]}
section
variable {prog:Program}{w:World}{A:Around}{E:Value->Shared->Prop}{s:Shared}
theorem Qex(hT:Qao s.heap T a b c)
  (h:∀h',h'.get? T=some {cls:= .type "tuple",data:= .seq ((#[a,b,c]:Array Value).setIfInBounds k x)}->Heap.SameBut T s.heap h'->Q () {s with heap:=h'}):
  wpAny (model prog w) A (updateSeq T (·.setIfInBounds k x)) Q E s:=by
 refine wpAny_updateSeq hT rfl (h _ ?_ (Heap.SameBut.update ..));rw[Heap.get?_update_self _ hT rfl];simp[Obj.mapSeq]
structure Six (z TI TO i1 i2 i3:Addr):Prop where
 TIz:TI≠z
 TOz:TO≠z
 i1z:i1≠z
 i2z:i2≠z
 i3z:i3≠z
 TITO:TI≠TO
 TIi1:TI≠i1
 TIi2:TI≠i2
 TIi3:TI≠i3
 TOi1:TO≠i1
 TOi2:TO≠i2
 TOi3:TO≠i3
 i12:i1≠i2
 i13:i1≠i3
 i23:i2≠i3
def Off(z TO i1 i2 i3 l:Addr):Prop:=l≠z/\l≠TO/\l≠i1/\l≠i2/\l≠i3
theorem Qs3{z TI TO i1 i2 i3 l1 l2 l3:Addr}{k:Nat}{xs ys zs:Array Value}{x y u a b c:Value}{Q:Value->Shared->Prop}(D:Six z TI TO i1 i2 i3)(O1:Off z TO i1 i2 i3 l1)(O2:Off z TO i1 i2 i3 l2)(O3:Off z TO i1 i2 i3 l3)
  (hz:IsZip s.heap z TI TO .none) (hTI:Qao s.heap TI (.ref i1) (.ref i2) (.ref i3)) (hTO:Qao s.heap TO a b c)
  (h1:s.heap.IsListIter i1 l1 k) (h2:s.heap.IsListIter i2 l2 k) (h3:s.heap.IsListIter i3 l3 k) (hl1:s.heap.IsList l1 xs) (hl2:s.heap.IsList l2 ys) (hl3:s.heap.IsList l3 zs) (hx:xs[k]? =some x) (hy:ys[k]? =some y) (hu:zs[k]? =some u)
  (hQ:∀h',IsZip h' z TI TO (rawInt s.heap.objs.size)->Qao h' TO x y u->h'.IsListIter i1 l1 (k+1)->h'.IsListIter i2 l2 (k+1)->h'.IsListIter i3 l3 (k+1)->Qao h' s.heap.objs.size x y u->h'.objs.size=s.heap.objs.size+1→
   (∀c o,c≠z->c≠TO->c≠i1->c≠i2->c≠i3->s.heap.get? c=some o->h'.get? c=some o)->Q (.ref s.heap.objs.size) {s with heap:=h'}):
  wpAny (model prog w) A (Builtin.«zip.__next__» ⟨[.ref z],[]⟩) (λfin s'=>∃v,fin= .done (.ret v)/\Q v s') E s:=by
 show wpAny _ _ (field (.ref z) 2 >>= _) _ _ _;refine wpAny_bind (wpAny_field hz rfl rfl ?_);show wpAny _ _ (field (.ref z) 3 >>= _) _ _ _;refine wpAny_bind (wpAny_field hz rfl rfl ?_);refine wpAny_bind (wpAny_seqItems hTI rfl ?_);show wpAny _ _ (Builtin.SmallTypes.ownedTupleIsFree (.ref z) >>= _) _ _ _;refine wpAny_bind ?_;unfold Builtin.SmallTypes.ownedTupleIsFree;refine wpAny_bind (wpAny_field hz rfl rfl (wpAny_pure ?_));simp only[if_true];refine wpAny_bind (wpAny_rule ?_);refine wpAny_bind (wpAny_field hz rfl rfl ?_);refine wpAny_bind (wpAny_setField_rec hz (by simp) λg1 hz1 s1=>?_)
 replace hz1:IsZip g1 z TI TO .ellipsis:=hz1
 refine wpAny_bind ?_;simp only[List.zipIdx_cons,List.zipIdx_nil,Zcd,List.forIn_nil];refine wpAny_bind (wpAny_bind (wpAny_onRaise ?_));show wpAny _ _ (Builtin.SmallTypes.nextOf (.ref i1) >>= _) _ _ _;have k1:∀e o,e≠z->s.heap.get? e=some o->g1.get? e=some o:=λe o a1 q=>s1.extBut _ _ a1 q;refine wpAny_bind (wpAny_nextOf_list_item (h1.at λo e=>k1 _ o D.i1z e) (hl1.at λo e=>k1 _ o O1.1 e) hx λg2 m1 s2=>wpAny_pure ?_);have k2:∀e o,e≠z->e≠i1->s.heap.get? e=some o->g2.get? e=some o:=λe o a1 a3 q=>s2.extBut _ _ a3 (k1 e o a1 q);have t2:Qao g2 TO a b c:=k2 _ _ D.TOz D.TOi1 hTO;refine wpAny_bind (wpAny_seqItems t2 rfl ?_);refine wpAny_bind (Qex t2 λg3 t3 s3=>?_)
 replace t3:Qao g3 TO x b c:=t3
 have k3:∀e o,e≠z->e≠TO->e≠i1->s.heap.get? e=some o->g3.get? e=some o:=λe o a1 a2 a3 q=>s3.extBut _ _ a2 (k2 e o a1 a3 q);refine wpAny_bind (wpAny_letGo (wpAny_pure ?_));refine wpAny_bind (wpAny_bind (wpAny_onRaise ?_));show wpAny _ _ (Builtin.SmallTypes.nextOf (.ref i2) >>= _) _ _ _;refine wpAny_bind (wpAny_nextOf_list_item (h2.at λo e=>k3 _ o D.i2z D.TOi2.symm D.i12.symm e) (hl2.at λo e=>k3 _ o O2.1 O2.2.1 O2.2.2.1 e) hy λg4 m2 s4=>wpAny_pure ?_);have k4:∀e o,e≠z->e≠TO->e≠i1->e≠i2->s.heap.get? e=some o->g4.get? e=some o:=λe o a1 a2 a3 a4 q=>s4.extBut _ _ a4 (k3 e o a1 a2 a3 q);have t4:Qao g4 TO x b c:=s4.extBut _ _ D.TOi2 t3;refine wpAny_bind (wpAny_seqItems t4 rfl ?_);refine wpAny_bind (Qex t4 λg5 t5 s5=>?_)
 replace t5:Qao g5 TO x y c:=t5
 have k5:∀e o,e≠z->e≠TO->e≠i1->e≠i2->s.heap.get? e=some o->g5.get? e=some o:=λe o a1 a2 a3 a4 q=>s5.extBut _ _ a2 (k4 e o a1 a2 a3 a4 q);refine wpAny_bind (wpAny_letGo (wpAny_pure ?_));refine wpAny_bind (wpAny_bind (wpAny_onRaise ?_));show wpAny _ _ (Builtin.SmallTypes.nextOf (.ref i3) >>= _) _ _ _;refine wpAny_bind (wpAny_nextOf_list_item (h3.at λo e=>k5 _ o D.i3z D.TOi3.symm D.i13.symm D.i23.symm e) (hl3.at λo e=>k5 _ o O3.1 O3.2.1 O3.2.2.1 O3.2.2.2.1 e) hu λg6 m3 s6=>wpAny_pure ?_);have k6:∀e o,e≠z->e≠TO->e≠i1->e≠i2->e≠i3->s.heap.get? e=some o->g6.get? e=some o:=λe o a1 a2 a3 a4 a5 q=>s6.extBut _ _ a5 (k5 e o a1 a2 a3 a4 q);have t6:Qao g6 TO x y c:=s6.extBut _ _ D.TOi3 t5;refine wpAny_bind (wpAny_seqItems t6 rfl ?_);refine wpAny_bind (Qex t6 λg7 t7 s7=>?_)
 replace t7:Qao g7 TO x y u:=t7
 have k7:∀e o,e≠z->e≠TO->e≠i1->e≠i2->e≠i3->s.heap.get? e=some o->g7.get? e=some o:=λe o a1 a2 a3 a4 a5 q=>s7.extBut _ _ a2 (k6 e o a1 a2 a3 a4 a5 q);refine wpAny_bind (wpAny_letGo (wpAny_pure (wpAny_pure ?_)));refine wpAny_bind (wpAny_seqItems t7 rfl ?_);refine wpAny_bind (wpAny_newTuple ?_);have hsz:g7.objs.size=s.heap.objs.size:=by rw[s7.1,s6.1,s5.1,s4.1,s3.1,s2.1,s1.1]
 have hz7:IsZip g7 z TI TO .ellipsis:=s7.extBut _ _ D.TOz.symm (s6.extBut _ _ D.i3z.symm (s5.extBut _ _ D.TOz.symm (s4.extBut _ _ D.i2z.symm (s3.extBut _ _ D.TOz.symm (s2.extBut _ _ D.i1z.symm hz1)))));have n1:g7.IsListIter i1 l1 (k+1):=((((m1.extBut s3.extBut D.TOi1.symm).extBut s4.extBut D.i12).extBut s5.extBut D.TOi1.symm).extBut s6.extBut D.i13).extBut s7.extBut D.TOi1.symm;have n2:g7.IsListIter i2 l2 (k+1):=((m2.extBut s5.extBut D.TOi2.symm).extBut s6.extBut D.i23).extBut s7.extBut D.TOi2.symm;have n3:g7.IsListIter i3 l3 (k+1):=m3.extBut s7.extBut D.TOi3.symm;have hzlt:z<g7.objs.size:=Zt hz7;show wpAny _ _ (Builtin.SmallTypes.ownedTupleHandOut (.ref z) (.ref g7.objs.size) >>= _) _ _ _;refine wpAny_bind ?_;unfold Builtin.SmallTypes.ownedTupleHandOut;have hz8:IsZip (g7.push {cls:= .type "tuple",data:= .seq #[x,y,u]}) z TI TO .ellipsis:=Zb _ hz7;refine wpAny_bind (wpAny_setField_rec hz8 (by simp) λg9 hz9 s9=>?_)
 replace hz9:IsZip g9 z TI TO (rawInt g7.objs.size):=hz9
 refine wpAny_setField_rec hz9 (by simp) λg10 hz10 s10=>?_
 replace hz10:IsZip g10 z TI TO (rawInt g7.objs.size):=hz10
 have up:∀c o,c≠z->g7.get? c=some o->g10.get? c=some o:=λc o c1 e=>s10.extBut _ _ c1 (s9.extBut _ _ c1 (Zb _ e));have hT:Qao g10 g7.objs.size x y u:=s10.extBut _ _ (Zbn hzlt) (s9.extBut _ _ (Zbn hzlt) (Zz _ rfl));have hz':g10.objs.size=g7.objs.size+1:=by rw[s10.1,s9.1,Zao]
 rw[hsz]at hz10 hT hz';refine wpAny_pure ⟨_,rfl,?_⟩;show Q (.ref g7.objs.size) _;rw[hsz];exact hQ g10 hz10 (up _ _ D.TOz t7) (n1.at λo e=>up _ o D.i1z e) (n2.at λo e=>up _ o D.i2z e) (n3.at λo e=>up _ o D.i3z e) hT hz' λc o c1 c2 c3 c4 c5 e=>up c o c1 (k7 c o c1 c2 c3 c4 c5 e)
theorem QvT{z TI TO i1 i2 i3 l1:Addr}{k:Nat}{xs:Array Value}{Q:Fin->Shared->Prop}(hh:A.handled=none)(D:Six z TI TO i1 i2 i3)(O1:l1≠z)
  (hz:IsZip s.heap z TI TO .none) (hTI:Qao s.heap TI (.ref i1) (.ref i2) (.ref i3)) (h1:s.heap.IsListIter i1 l1 k) (hl1:s.heap.IsList l1 xs) (hx:xs[k]? =none)
  (hE:∀h' e,(∀c o,c≠z->c≠i1->s.heap.get? c=some o->h'.get? c=some o)->(∃o,h'.get? e=some o/\o.cls= .type "StopIteration")->E (.ref e) {s with heap:=h'}):
  wpAny (model prog w) A (Builtin.«zip.__next__» ⟨[.ref z],[]⟩) Q E s:=by
 show wpAny _ _ (field (.ref z) 2 >>= _) _ _ _;refine wpAny_bind (wpAny_field hz rfl rfl ?_);show wpAny _ _ (field (.ref z) 3 >>= _) _ _ _;refine wpAny_bind (wpAny_field hz rfl rfl ?_);refine wpAny_bind (wpAny_seqItems hTI rfl ?_);show wpAny _ _ (Builtin.SmallTypes.ownedTupleIsFree (.ref z) >>= _) _ _ _;refine wpAny_bind ?_;unfold Builtin.SmallTypes.ownedTupleIsFree;refine wpAny_bind (wpAny_field hz rfl rfl (wpAny_pure ?_));simp only[if_true];refine wpAny_bind (wpAny_rule ?_);refine wpAny_bind (wpAny_field hz rfl rfl ?_);refine wpAny_bind (wpAny_setField_rec hz (by simp) λg1 hz1 s1=>?_)
 replace hz1:IsZip g1 z TI TO .ellipsis:=hz1
 refine wpAny_bind ?_;simp only[List.zipIdx_cons,List.zipIdx_nil,Zcd,List.forIn_nil];refine wpAny_bind (wpAny_bind (wpAny_onRaise ?_));show wpAny _ _ (Builtin.SmallTypes.nextOf (.ref i1) >>= _) _ _ _;refine wpAny_bind (wpAny_nextOf_list_end hh (h1.extBut s1.extBut D.i1z) (hl1.extBut s1.extBut O1) hx λg2 e s2 he=>?_);obtain⟨oe,hoe,hce⟩:=he;have hz2:IsZip g2 z TI TO .ellipsis:=s2 _ _ D.i1z.symm hz1;have hez:e≠z:=λx=>by subst x;rw[hz2]at hoe;cases hoe;simp at hce
 refine wpAny_setField_rec hz2 (by simp) λg3 _ s3=>hE g3 e (λc o c1 c3 x=>s3.extBut _ _ c1 (s2 _ _ c3 (s1.extBut _ _ c1 x))) ⟨oe,s3.extBut _ _ hez hoe,hce⟩
theorem QqG{z TI TO i1 i2 i3 l1 l2 l3:Addr}{k:Nat}{xs ys zs:Array Value}{x y u a b c:Value}{Q:Option Value->Shared->Prop}(D:Six z TI TO i1 i2 i3)(O1:Off z TO i1 i2 i3 l1)(O2:Off z TO i1 i2 i3 l2)(O3:Off z TO i1 i2 i3 l3)
  (hz:IsZip s.heap z TI TO .none) (hTI:Qao s.heap TI (.ref i1) (.ref i2) (.ref i3)) (hTO:Qao s.heap TO a b c)
  (h1:s.heap.IsListIter i1 l1 k) (h2:s.heap.IsListIter i2 l2 k) (h3:s.heap.IsListIter i3 l3 k) (hl1:s.heap.IsList l1 xs) (hl2:s.heap.IsList l2 ys) (hl3:s.heap.IsList l3 zs) (hx:xs[k]? =some x) (hy:ys[k]? =some y) (hu:zs[k]? =some u)
  (hQ:∀h',IsZip h' z TI TO (rawInt s.heap.objs.size)->Qao h' TO x y u->h'.IsListIter i1 l1 (k+1)->h'.IsListIter i2 l2 (k+1)->h'.IsListIter i3 l3 (k+1)->Qao h' s.heap.objs.size x y u->h'.objs.size=s.heap.objs.size+1→
   (∀c o,c≠z->c≠TO->c≠i1->c≠i2->c≠i3->s.heap.get? c=some o->h'.get? c=some o)->Q (some (.ref s.heap.objs.size)) {s with heap:=h'}):
  wpAny (model prog w) A (pyNext (.ref z)) Q E s:=by
 have hT:s.TypeIs (.ref z) "zip" :=⟨_,hz,rfl⟩;unfold pyNext
 exact wpAny_bind (wpAny_attempt (wpAny_callSpecial?_slot hT ZbE
  (wpAny_call_entry ZbE hT F.entry_zip_next
   (Qs3 D O1 O2 O3 hz hTI hTO h1 h2 h3 hl1 hl2 hl3 hx hy hu λh' a1 a2 a3 a4 a5 a6 a7 a8=>wpAny_pure (hQ h' a1 a2 a3 a4 a5 a6 a7 a8)) (F.args_zip_next_1 _))))
theorem Qmk{z TI TO i1 i2 i3 l1:Addr}{k:Nat}{xs:Array Value}{Q:Option Value->Shared->Prop}(hh:A.handled=none)(D:Six z TI TO i1 i2 i3)(O1:l1≠z)
  (hz:IsZip s.heap z TI TO .none) (hTI:Qao s.heap TI (.ref i1) (.ref i2) (.ref i3)) (h1:s.heap.IsListIter i1 l1 k) (hl1:s.heap.IsList l1 xs) (hx:xs[k]? =none)
  (hQ:∀h',(∀c o,c≠z->c≠i1->s.heap.get? c=some o->h'.get? c=some o)->Q none {s with heap:=h'}):wpAny (model prog w) A (pyNext (.ref z)) Q E s:=by
 have hT:s.TypeIs (.ref z) "zip" :=⟨_,hz,rfl⟩;unfold pyNext
 refine wpAny_bind (wpAny_attempt (wpAny_callSpecial?_slot hT ZbE
  (wpAny_call_entry ZbE hT F.entry_zip_next (QvT hh D O1 hz hTI h1 hl1 hx λh' e hk he=>?_) (F.args_zip_next_1 _))))
 obtain⟨o,ho,hc⟩:=he;refine wpAny_bind (wpAny_isInstance ⟨o,ho,hc⟩ isSubtype_stop ?_);exact wpAny_pure (hQ _ hk)
end
noncomputable abbrev zA(h:Heap)(l1:Addr):Heap:=h.push {cls:= .type "list_iterator",data:= .fields #[.ref l1,.int 0 0]}
noncomputable abbrev zB(h:Heap)(l1 l2:Addr):Heap:=(zA h l1).push {cls:= .type "list_iterator",data:= .fields #[.ref l2,.int 0 0]}
noncomputable abbrev zC(h:Heap)(l1 l2 l3:Addr):Heap:=(zB h l1 l2).push {cls:= .type "list_iterator",data:= .fields #[.ref l3,.int 0 0]}
noncomputable abbrev zD(h:Heap)(l1 l2 l3:Addr):Heap:=(zC h l1 l2 l3).push {cls:= .type "tuple",data:= .seq #[.ref h.objs.size,.ref (zA h l1).objs.size,.ref (zB h l1 l2).objs.size]}
noncomputable abbrev zE(h:Heap)(l1 l2 l3:Addr):Heap:=(zD h l1 l2 l3).push {cls:= .type "tuple",data:= .seq #[.none,.none,.none]}
noncomputable abbrev zF(h:Heap)(l1 l2 l3:Addr):Heap:=(zE h l1 l2 l3).push {cls:= .type "zip",data:= .fields #[.none,.bool false,.bool false,.ref (zC h l1 l2 l3).objs.size,.ref (zD h l1 l2 l3).objs.size]}
theorem QmI(l1 l2 l3:Addr)(xs ys zs:Array Value):
  Meets (Builtin.«zip.__new__» ⟨[.type "zip",.ref l1,.ref l2,.ref l3],[]⟩) (λ_ R s=>s.heap.IsList l1 xs/\s.heap.IsList l2 ys/\s.heap.IsList l3 zs∧
   R (.ok (.ret (.ref (zE s.heap l1 l2 l3).objs.size))) {s with heap:=zF s.heap l1 l2 l3}):=
 .of_wp λprog w A R s h=>by
  obtain⟨hp,g,d,tk,os⟩:=s;obtain⟨hl1,hl2,hl3,h⟩:=h;have hsub:=sub_zip;have hL1:Heap.IsList (Shared.heap ⟨hp,g,d,tk,os⟩) l1 xs:=hl1;have hL2:Heap.IsList (Shared.heap ⟨hp.push {cls:= .type "list_iterator",data:= .fields #[.ref l1,.int 0 0]},g,d,tk,os⟩) l2 ys:=ZbR hl2 _;have hL3:Heap.IsList (Shared.heap ⟨(hp.push {cls:= .type "list_iterator",data:= .fields #[.ref l1,.int 0 0]}).push {cls:= .type "list_iterator",data:= .fields #[.ref l2,.int 0 0]},g,d,tk,os⟩) l3 zs:=ZbR (ZbR hl3 _) _
  wp_walk using wpAny_pyIter_list hL1,wpAny_pyIter_list hL2,wpAny_pyIter_list hL3
  exact⟨_,rfl,h⟩
section
variable {prog:Program}{w:World}{A:Around}{E:Value->Shared->Prop}{s:Shared}
theorem Qr5(hl1:s.heap.IsList l1 xs)(hl2:s.heap.IsList l2 ys)(hl3:s.heap.IsList l3 zs)
  (h:∀h',IsZip h' (s.heap.objs.size+5) (s.heap.objs.size+3) (s.heap.objs.size+4) .none->Qao h' (s.heap.objs.size+3) (.ref s.heap.objs.size) (.ref (s.heap.objs.size+1)) (.ref (s.heap.objs.size+2))→
   Qao h' (s.heap.objs.size+4) .none .none .none->h'.IsListIter s.heap.objs.size l1 0->h'.IsListIter (s.heap.objs.size+1) l2 0->h'.IsListIter (s.heap.objs.size+2) l3 0→
   (∀c o,s.heap.get? c=some o->h'.get? c=some o)->Q (.ref (s.heap.objs.size+5)) {s with heap:=h'}):
  wpAny (model prog w) A (call (.type "zip") [.ref l1,.ref l2,.ref l3]) Q E s:=by
 refine callType_new F.called_zip (by decide) (QmY _ _ _) (Qop _ _ _) (λobj=>Qje obj _ _ _) F.entry_zip_new
  (QmI l1 l2 l3 xs ys zs) ⟨hl1,hl2,hl3,?_⟩
 have z1:(zA s.heap l1).objs.size=s.heap.objs.size+1:=Zao ..;have z2:(zB s.heap l1 l2).objs.size=s.heap.objs.size+2:=by rw[Zao,z1]
 have z3:(zC s.heap l1 l2 l3).objs.size=s.heap.objs.size+3:=by rw[Zao,z2]
 have z4:(zD s.heap l1 l2 l3).objs.size=s.heap.objs.size+4:=by rw[Zao,z3]
 have z5:(zE s.heap l1 l2 l3).objs.size=s.heap.objs.size+5:=by rw[Zao,z4]
 have g6:(zF s.heap l1 l2 l3).get? (zE s.heap l1 l2 l3).objs.size=some _:=Zz _ rfl;have g5:(zF s.heap l1 l2 l3).get? (zD s.heap l1 l2 l3).objs.size=some _:=Zb _ (Zz _ rfl);have g4:(zF s.heap l1 l2 l3).get? (zC s.heap l1 l2 l3).objs.size=some _:=Zb _ (Zb _ (Zz _ rfl));have g3:(zF s.heap l1 l2 l3).get? (zB s.heap l1 l2).objs.size=some _:=Zb _ (Zb _ (Zb _ (Zz _ rfl)));have g2:(zF s.heap l1 l2 l3).get? (zA s.heap l1).objs.size=some _:=Zb _ (Zb _ (Zb _ (Zb _ (Zz _ rfl))));have g1:(zF s.heap l1 l2 l3).get? s.heap.objs.size=some _:=Zb _ (Zb _ (Zb _ (Zb _ (Zb _ (Zz _ rfl)))));show _/\_;rw[z3,z4,z5]at g6;rw[z1,z2,z3]at g4;rw[z4]at g5;rw[z2]at g3;rw[z1]at g2;rw[z5];exact⟨⟨_,g6,rfl⟩,h _ g6 g4 g5 ⟨_,g1,rfl,rfl⟩ ⟨_,g2,rfl,rfl⟩ ⟨_,g3,rfl,rfl⟩ λc o x=>
  Zb _ (Zb _ (Zb _ (Zb _ (Zb _ (Zb _ x)))))⟩
end
open PyProof.Rows
noncomputable def Qw3(K:Fgg)(a b c:Addr):It:=
 ⟨λi H=>∃xs ys zs x y z,SqL K H a xs/\SqL K H b ys/\SqL K H c zs/\xs[i]? =some x/\ys[i]? =some y/\zs[i]? =some z,λi H v H'=>∃p x y z,v= .ref p/\H p=none/\H'=upd H p (.tup [x,y,z])/\(∀xs,SqL K H a xs->xs[i]? =some x)/\(∀ys,SqL K H b ys->ys[i]? =some y)/\∀zs,SqL K H c zs->zs[i]? =some z,
  λi H=>∃xs,SqL K H a xs/\xs.length<=i⟩
theorem mm5{a b c d e f:Addr}{l:LAd}:a∈b::c::d::e::f::a::l:= .tail _ mm4
theorem QmQ{h:Heap}(hz:IsZip h z T1 T2 x)(hA:Qao h T1 a b c)(hB:Qao h T2 d e f)(h1:h.IsListIter i1 l1 k)(h2:h.IsListIter i2 l2 k)(h3:h.IsListIter i3 l3 k):∀b∈[z,T1,T2,i1,i2,i3],NL h b:=
 fa1 (.zip hz) (fa1 (.tup hA) (fa1 (.tup hB) (fa1 (.it h1) (fa1 (.it h2) (fa1 (.it h3) λ_ h=>nomatch h)))))
theorem Qt4{P:Program}{w:World}{K:Fgg}{es:List Expr}{tk:Nat}{tpos:Pos}(l1 l2 l3 z TI TO i1 i2 i3:Addr)(D:Six z TI TO i1 i2 i3):
  Turn P w K (.Tuple es tk tpos) (Qw3 K l1 l2 l3) [z,TI,TO,i1,i2,i3] z (λi h=>IsZip h z TI TO .none/\Qao h TI (.ref i1) (.ref i2) (.ref i3)/\(∃a b c,Qao h TO a b c)/\h.IsListIter i1 l1 i/\h.IsListIter i2 l2 i/\h.IsListIter i3 l3 i) where
 mem:=mm0
 obj:=λi h st b hb=>by
  obtain⟨hz,hTI,⟨p,q,r,hTO⟩,h1,h2,h3⟩:=st;exact(QmQ hz hTI hTO h1 h2 h3 b hb).obj
 keep:=λi h h' st k=>by
  obtain⟨hz,hTI,⟨p,q,r,hTO⟩,h1,h2,h3⟩:=st;exact⟨k z mm0 _ hz,k TI mm1 _ hTI,⟨p,q,r,k TO mm2 _ hTO⟩,h1.at (k i1 mm3),h2.at (k i2 mm4),h3.at (k i3 mm5)⟩
 item:=by
  intro X hP hw hK hc i pins s σ H E I hf st hg;subst hP hw hK;obtain⟨hz,hTI,⟨a0,b0,c0,hTO⟩,h1,h2,h3⟩:=st;obtain⟨xs,ys,zs,x,y,u,hq1,hq2,hq3,hx,hy,hu⟩:=hg;obtain⟨its,rv,p,hzz⟩:=I.list hq1;obtain⟨its2,rv2,p2,hzz2⟩:=I.list hq2;obtain⟨its3,rv3,p3,hzz3⟩:=I.list hq3;obtain⟨v1,hv1,r1⟩:=rv.get hx;obtain⟨v2,hv2,r2⟩:=rv2.get hy;obtain⟨v3,hv3,r3⟩:=rv3.get hu;have O:=QmQ hz hTI hTO h1 h2 h3;have A:=λb hb l ys (hq:SqL X.K H l ys)=>(O b hb).apart I (hf b hb).1 hq;have off:∀l ys,SqL X.K H l ys->Off z TO i1 i2 i3 l:=λl ys hq=>⟨A z mm0 l ys hq,A TO mm2 l ys hq,A i1 mm3 l ys hq,A i2 mm4 l ys hq,A i3 mm5 l ys hq⟩;refine QqG D (off l1 xs hq1) (off l2 ys hq2) (off l3 zs hq3) hz hTI hTO h1 h2 h3 p.isList p2.isList p3.isList (by simpa using hv1) (by simpa using hv2) (by simpa using hv3) λg3 z3 TO3 a3 b3 c3 T3 sz3 k3=>?_;refine⟨.ref s.heap.objs.size,rfl,wpAny_letOwnedTupleGo_zip z3 λg4 z4 hs4=>?_⟩
  replace hs4:Heap.SameBut z g3 g4:=hs4
  have kk:∀b o,b∉[z,TI,TO,i1,i2,i3]->s.heap.get? b=some o->g4.get? b=some o:=λb o hb q=>
   hs4.extBut b o (nmm hb mm0) (k3 b o (nmm hb mm0) (nmm hb mm2) (nmm hb mm3) (nmm hb mm4) (nmm hb mm5) q)
  have TI4:Qao g4 TI (.ref i1) (.ref i2) (.ref i3):=hs4.extBut _ _ D.TIz (k3 _ _ D.TIz D.TITO D.TIi1 D.TIi2 D.TIi3 hTI);have TO4:Qao g4 TO v1 v2 v3:=hs4.extBut _ _ D.TOz TO3;have a4:g4.IsListIter i1 l1 (i+1):=a3.extBut hs4.extBut D.i1z;have b4:g4.IsListIter i2 l2 (i+1):=b3.extBut hs4.extBut D.i2z;have c4:g4.IsListIter i3 l3 (i+1):=c3.extBut hs4.extBut D.i3z
  exact⟨.ref s.heap.objs.size,upd H s.heap.objs.size (.tup [x,y,u]),I.QrX (t':=s.toks) hf kk (λb hb=>(QmQ z4 TI4 TO4 a4 b4 c4 b hb).ex) (Zj _) ⟨by show 3<=sizeLine;decide,_,.cons r1 (.cons r2 (.cons r3 .nil)),_,(hs4.2 _ (Zbn (O z mm0).lt)).trans T3,rfl,_,rfl⟩,rfl,
   ⟨_,x,y,u,rfl,I.hok.fresh (Zj _),rfl,λws hy'=>by rw[I.QdP hy' hq1];exact hx,λws hy'=>by rw[I.QdP hy' hq2];exact hy,λws hy'=>by rw[I.QdP hy' hq3];exact hu⟩,⟨z4,TI4,⟨_,_,_,TO4⟩,a4,b4,c4⟩,λb hb=>by rw[QR (ZM (O b hb).lt)];exact(hf b hb).1⟩
 done:=by
  intro X hP hw hK hc i pins s σ H E I hf st hg;subst hP hw hK;obtain⟨hz,hTI,⟨a0,b0,c0,hTO⟩,h1,h2,h3⟩:=st;obtain⟨xs,hq1,hx⟩:=hg;obtain⟨its,rv,p,hzz⟩:=I.list hq1;have hl:=rv.length;refine Qmk (I.ok.hd hc) D ((NL.zip hz).apart I (hf z mm0).1 hq1) hz hTI h1 p.isList (by simp;omega) λg3 k3=>⟨rfl,?_⟩;exact I.turns (t':=s.toks) hf λb o hb q=>k3 b o (nmm hb mm0) (nmm hb mm3) q
 self:=λ_ _ _ _ _ st h=>wpAny_pyIter_zip st.1 h
theorem vals3(r:QM [x,y,z] us):∃u v w',us=[u,v,w']/\RelV x u/\RelV y v/\RelV z w':=by
 cases r with
 | cons r1 r2=>
  obtain⟨v,w',rfl,h1,h2⟩:=vals2 r2;exact⟨_,_,_,rfl,r1,h1,h2⟩
section
noncomputable def QCK(K:Fgg)(ta:TA):TI:=λσ H R=>ta σ H λvs H1=>∃a b c,vs=[.ref a,.ref b,.ref c]/\(∃xs,SqL K H1 a xs)/\(∃ys,SqL K H1 b ys)/\(∃zs,SqL K H1 c zs)/\R (Qw3 K a b c) H1
theorem Qzs{a b c:Expr}{ta:TA}{p pos:Pos}{es:List Expr}{tk:Nat}{tpos:Pos}(hg:Gl X "zip")(hm:X.mg "zip" =none)(ha:PA X [a,b,c] ta)(hs:starEach [a,b,c] X.env=(false,eval a X.env)::starEach [b,c] X.env)(hs2:(backTo pos (starEach [b,c] X.env)).any (·.1)=false):
  PI X (.Tuple es tk tpos) (.Call (.Name "zip" p) [a,b,c] [] pos) (QCK X.K ta):=by
 intro pins s σ H R I h;refine Call_ (Qdx I hg hm PyProof.Rows.boot_zip (Zad (thn (ha pos pins s σ H _ I h) λus s1 ⟨vs,H1,I1,r1,q1⟩=>?_) hs hs2));obtain⟨l,l2,l3,e,⟨xs,hq⟩,⟨ys,hq2⟩,⟨zs,hq3⟩,q⟩:=q1;subst e;obtain⟨u,u2,u3,rfl,ru,ru2,ru3⟩:=vals3 r1;cases ru;cases ru2;cases ru3;obtain⟨its,rv,pl,hz⟩:=I1.list hq;obtain⟨its2,rv2,pl2,hz2⟩:=I1.list hq2;obtain⟨its3,rv3,pl3,hz3⟩:=I1.list hq3;refine Qr5 pl.isList pl2.isList pl3.isList λh2 hz hTI hTO h1 h2' h3' hk2=>?_;have I2:Inv X pins σ H1 {s1 with heap:=h2}:=I1.kept (t':=s1.toks) hk2;refine wpAny_pyIter_zip hz ⟨_,[s1.heap.objs.size+5,s1.heap.objs.size+3,s1.heap.objs.size+4,s1.heap.objs.size,s1.heap.objs.size+1,s1.heap.objs.size+2],_,_,H1,rfl,I2,Qt4 l l2 l3 _ _ _ _ _ _ ⟨?_,?_,?_,?_,?_,?_,?_,?_,?_,?_,?_,?_,?_,?_,?_⟩,⟨hz,hTI,⟨_,_,_,hTO⟩,h1,h2',h3'⟩,λb hb=>?_,q⟩
 iterate 15 (exact(by intro e;first | (have e':(s1.heap.objs.size:Nat)+_=_:=e;omega) | (have e':(s1.heap.objs.size:Nat)=_:=e;omega)))
 have hle:s1.heap.objs.size<=b:=by
  simp only[Zi,Zby,or_false]at hb;rcases hb with rfl | rfl | rfl | rfl | rfl | rfl<;>first | exact Zj _ | exact Nat.le_add_right _ _
 exact I1.QkU hle (I1.hok.fresh hle)
end
end L2
namespace HS
open PySem PySem.Spec PyProof.Rows L2
inductive D where
 | non | bl (b:Bool) | int (i:Int) | str (x:Str) | tup (xs:List D) | lst (xs:List D) | exc (x:Str)
mutual
noncomputable def D.flat:D->Bool
 | .lst _=>false
 | .tup xs=>Qam xs
 | .non=>true
 | .bl _=>true
 | .int _=>true
 | .str _=>true
 | .exc _=>true
noncomputable def Qam:List D->Bool
 | []=>true
 | d::ds=>d.flat && Qam ds
end
mutual
noncomputable def D.nl:D->Nat
 | .lst xs=>nls xs+1
 | .tup xs=>nls xs
 | .non=>0
 | .bl _=>0
 | .int _=>0
 | .str _=>0
 | .exc _=>0
noncomputable def nls:List D->Nat
 | []=>0
 | d::ds=>d.nl+nls ds
end
mutual
theorem QeK:∀(d:D),d.flat=true->d.nl=0
 | .non,_=>rfl
 | .bl _,_=>rfl
 | .int _,_=>rfl
 | .str _,_=>rfl
 | .exc _,_=>rfl
 | .tup xs,h=>by simp only[D.nl];simp only[D.flat]at h;exact QkT xs h
 | .lst xs,h=>by simp[D.flat]at h
theorem QkT:∀(ds:List D),Qam ds=true->nls ds=0
 | [],_=>rfl
 | d::ds,h=>by simp only[Qam,Zm]at h;simp only[nls,QeK d h.1,QkT ds h.2]
end
def Fix(K:Fgg)(H:Hp)(a:Addr)(vs:List V):Prop:=
 (∃o,H a=some (.frz o (.lst vs)))∨
  ∃(its:List Value) (n:Nat),K.lookup a=some {cls:= .type "list",data:= .seq its.toArray n}/\vs.length<=sizeLine/\QM vs its
def QdI(a C:Addr)(h:Heap):Prop:=∃o vs,h.get? a=some o/\o.cls= .ref C/\o.data= .fields vs
def ExcAt(K:Fgg)(H:Hp)(a:Addr)(x:Str):Prop:=∃C,PySem.W.nsIn K mainGlobals x=some (some (.ref C))/\H a=some (.ext (QdI a C))
theorem Qr0{K:Fgg}{H H':Hp}{a:Addr}{x:Str}(s:QS H H')(h:ExcAt K H a x):ExcAt K H' a x:=by
 obtain⟨C,h1,h2⟩:=h;exact⟨C,h1,s _ _ h2⟩
theorem QuE{K:Fgg}{H:Hp}{a p:Addr}{x:Str}{zs ys:List V}(hp:H p=some (.lst zs))(h:ExcAt K H a x):ExcAt K (upd H p (.lst ys)) a x:=by
 obtain⟨C,h1,h2⟩:=h;exact⟨C,h1,by rw[QR (QoH h2 hp (by intro z;cases z))];exact h2⟩
mutual
noncomputable def Rp(K:Fgg)(H:Hp):D->V->List Addr->Prop
 | .non,v,F=>v= .non/\F=[]
 | .bl b,v,F=>v= .bl b/\F=[]
 | .int i,v,F=>v= .int i/\F=[]
 | .str x,v,F=>v= .str x/\F=[]
 | .exc x,v,F=>(∃a,v= .ref a/\ExcAt K H a x)/\F=[]
 | .tup ds,v,F=>∃a vs,v= .ref a/\SqT K H a vs/\Rps K H ds vs F
 | .lst ds,v,F=>ds.length<=sizeLine/\∃a vs,v= .ref a/\((∃G,F=a::G/\H a=some (.lst vs)/\Rps K H ds vs G)∨(Fix K H a vs/\Rps K H ds vs F))
noncomputable def Rps(K:Fgg)(H:Hp):List D->List V->List Addr->Prop
 | [],vs,F=>vs=[]/\F=[]
 | d::ds,vs,F=>∃v ws F1 F2,vs=v::ws/\F=F1++F2/\Rp K H d v F1/\Rps K H ds ws F2
end
theorem QoS{K:Fgg}{H H':Hp}{a:Addr}{vs:List V}(s:QS H H')(h:SqT K H a vs):SqT K H' a vs:=by
 rcases h with(h | ⟨o,h⟩) | h
 ·exact .inl (.inl (s _ _ h))
 ·exact .inl (.inr ⟨o,s _ _ h⟩)
 ·exact .inr h
theorem Qp6{K:Fgg}{H H':Hp}{a:Addr}{vs:List V}(s:QS H H')(h:Fix K H a vs):Fix K H' a vs:=by
 rcases h with⟨o,h⟩ | h
 ·exact .inl ⟨o,s _ _ h⟩
 ·exact .inr h
theorem QrF{K:Fgg}{H:Hp}{a p:Addr}{vs zs ys:List V}(hp:H p=some (.lst zs))(h:SqT K H a vs):SqT K (upd H p (.lst ys)) a vs:=by
 rcases h with(h | ⟨o,h⟩) | h
 ·exact .inl (.inl (by rw[QR (QoH h hp (by intro z;cases z))];exact h))
 ·exact .inl (.inr ⟨o,by rw[QR (QoH h hp (by intro z;cases z))];exact h⟩)
 ·exact .inr h
theorem Qyo{K:Fgg}{H:Hp}{a p:Addr}{vs zs ys:List V}(hp:H p=some (.lst zs))(h:Fix K H a vs):Fix K (upd H p (.lst ys)) a vs:=by
 rcases h with⟨o,h⟩ | h
 ·exact .inl ⟨o,by rw[QR (QoH h hp (by intro z;cases z))];exact h⟩
 ·exact .inr h
section
variable {K:Fgg}{H H':Hp}
mutual
theorem Rp.same(s:QS H H'):∀{d:D}{v:V}{F:LAd},Rp K H d v F->Rp K H' d v F
 | .exc _,_,_,h=>by
  simp only[Rp]at h ⊢;obtain⟨⟨a,e,q⟩,z⟩:=h;exact⟨⟨a,e,Qr0 s q⟩,z⟩
 | .non,_,_,h=>h
 | .bl _,_,_,h=>h
 | .int _,_,_,h=>h
 | .str _,_,_,h=>h
 | .tup ds,_,_,h=>by
  simp only[Rp]at h ⊢;obtain⟨a,vs,e,q,r⟩:=h;exact⟨a,vs,e,QoS s q,Rps.same s r⟩
 | .lst ds,_,_,h=>by
  simp only[Rp]at h ⊢;obtain⟨hz,a,vs,e,⟨G,eF,q,r⟩ | ⟨q,r⟩⟩:=h
  ·exact⟨hz,a,vs,e,.inl ⟨G,eF,s _ _ q,Rps.same s r⟩⟩
  ·exact⟨hz,a,vs,e,.inr ⟨Qp6 s q,Rps.same s r⟩⟩
theorem Rps.same(s:QS H H'):∀{ds:List D}{vs:List V}{F:LAd},Rps K H ds vs F->Rps K H' ds vs F
 | [],_,_,h=>h
 | d::ds,_,_,h=>by
  simp only[Rps]at h ⊢;obtain⟨v,ws,F1,F2,e,eF,r,q⟩:=h;exact⟨v,ws,F1,F2,e,eF,Rp.same s r,Rps.same s q⟩
end
mutual
theorem Rp.upd{p:Addr}{zs ys:List V}(hp:H p=some (.lst zs)):∀{d:D}{v:V}{F:LAd},Rp K H d v F->p∉F->Rp K (upd H p (.lst ys)) d v F
 | .exc _,_,_,h,_=>by
  simp only[Rp]at h ⊢;obtain⟨⟨a,e,q⟩,z⟩:=h;exact⟨⟨a,e,QuE hp q⟩,z⟩
 | .non,_,_,h,_=>h
 | .bl _,_,_,h,_=>h
 | .int _,_,_,h,_=>h
 | .str _,_,_,h,_=>h
 | .tup ds,_,_,h,hn=>by
  simp only[Rp]at h ⊢;obtain⟨a,vs,e,q,r⟩:=h;exact⟨a,vs,e,QrF hp q,Rps.upd hp r hn⟩
 | .lst ds,_,_,h,hn=>by
  simp only[Rp]at h ⊢;obtain⟨hz,a,vs,e,⟨G,eF,q,r⟩ | ⟨q,r⟩⟩:=h
  ·subst eF;have h1:a≠p:=λz=>hn (by rw[z];exact Zl);exact⟨hz,a,vs,e,.inl ⟨G,rfl,by rw[QR h1];exact q,Rps.upd hp r λz=>hn (Zc _ z)⟩⟩
  ·exact⟨hz,a,vs,e,.inr ⟨Qyo hp q,Rps.upd hp r hn⟩⟩
theorem Rps.upd{p:Addr}{zs ys:List V}(hp:H p=some (.lst zs)):∀{ds:List D}{vs:List V}{F:LAd},Rps K H ds vs F->p∉F->Rps K (upd H p (.lst ys)) ds vs F
 | [],_,_,h,_=>h
 | d::ds,_,_,h,hn=>by
  simp only[Rps]at h ⊢;obtain⟨v,ws,F1,F2,e,eF,r,q⟩:=h;subst eF;exact⟨v,ws,F1,F2,e,rfl,Rp.upd hp r λz=>hn (Zf _ z),Rps.upd hp q λz=>hn (Ze _ z)⟩
end
mutual
theorem Rp.mem:∀{d:D}{v:V}{F:LAd},Rp K H d v F->∀a∈F,∃vs,H a=some (.lst vs)
 | .non,_,_,h,a,ha=>by simp only[Rp]at h;rw[h.2]at ha;simp at ha
 | .bl _,_,_,h,a,ha=>by simp only[Rp]at h;rw[h.2]at ha;simp at ha
 | .int _,_,_,h,a,ha=>by simp only[Rp]at h;rw[h.2]at ha;simp at ha
 | .str _,_,_,h,a,ha=>by simp only[Rp]at h;rw[h.2]at ha;simp at ha
 | .exc _,_,_,h,a,ha=>by simp only[Rp]at h;rw[h.2]at ha;simp at ha
 | .tup ds,_,_,h,a,ha=>by
  simp only[Rp]at h;obtain⟨_,vs,e,q,r⟩:=h;exact Rps.mem r a ha
 | .lst ds,_,_,h,a,ha=>by
  simp only[Rp]at h;obtain⟨_,b,vs,e,⟨G,eF,q,r⟩ | ⟨q,r⟩⟩:=h
  ·subst eF;rcases Zi.mp ha with z | z
   ·exact⟨vs,by rw[z];exact q⟩
   ·exact Rps.mem r a z
  ·exact Rps.mem r a ha
theorem Rps.mem:∀{ds:List D}{vs:List V}{F:LAd},Rps K H ds vs F->∀a∈F,∃vs,H a=some (.lst vs)
 | [],_,_,h,a,ha=>by simp only[Rps]at h;rw[h.2]at ha;simp at ha
 | d::ds,_,_,h,a,ha=>by
  simp only[Rps]at h;obtain⟨v,ws,F1,F2,e,eF,r,q⟩:=h;subst eF;rcases ZF.mp ha with z | z
  ·exact Rp.mem r a z
  ·exact Rps.mem q a z
end
mutual
theorem Rp.QcC:∀{d:D}{v:V}{F:LAd},Rp K H d v F->d.flat=true->F=[]
 | .non,_,_,h,_=>by simp only[Rp]at h;exact h.2
 | .bl _,_,_,h,_=>by simp only[Rp]at h;exact h.2
 | .int _,_,_,h,_=>by simp only[Rp]at h;exact h.2
 | .str _,_,_,h,_=>by simp only[Rp]at h;exact h.2
 | .exc _,_,_,h,_=>by simp only[Rp]at h;exact h.2
 | .tup ds,_,_,h,hf=>by
  simp only[Rp]at h;simp only[D.flat]at hf;obtain⟨_,vs,e,q,r⟩:=h;exact Rps.QcC r hf
 | .lst ds,_,_,h,hf=>by simp[D.flat]at hf
theorem Rps.QcC:∀{ds:List D}{vs:List V}{F:LAd},Rps K H ds vs F->Qam ds=true->F=[]
 | [],_,_,h,_=>by simp only[Rps]at h;exact h.2
 | d::ds,_,_,h,hf=>by
  simp only[Rps]at h;simp only[Qam,Zm]at hf;obtain⟨v,ws,F1,F2,e,eF,r,q⟩:=h;rw[eF,Rp.QcC r hf.1,Rps.QcC q hf.2];rfl
end
mutual
theorem Rp.QaO:∀{d:D}{v:V}{F:LAd},Rp K H d v F->F.length<=d.nl
 | .non,_,_,h=>by simp only[Rp]at h;rw[h.2];exact Zab _
 | .bl _,_,_,h=>by simp only[Rp]at h;rw[h.2];exact Zab _
 | .int _,_,_,h=>by simp only[Rp]at h;rw[h.2];exact Zab _
 | .str _,_,_,h=>by simp only[Rp]at h;rw[h.2];exact Zab _
 | .exc _,_,_,h=>by simp only[Rp]at h;rw[h.2];exact Zab _
 | .tup ds,_,_,h=>by
  simp only[Rp]at h;obtain⟨_,vs,e,q,r⟩:=h;simp only[D.nl];exact Rps.QaO r
 | .lst ds,_,_,h=>by
  simp only[Rp]at h;simp only[D.nl];obtain⟨_,b,vs,e,⟨G,eF,q,r⟩ | ⟨q,r⟩⟩:=h
  ·rw[eF,ZR];have:=Rps.QaO r;omega
  ·have:=Rps.QaO r;omega
theorem Rps.QaO:∀{ds:List D}{vs:List V}{F:LAd},Rps K H ds vs F->F.length<=nls ds
 | [],_,_,h=>by simp only[Rps]at h;rw[h.2];exact Zab _
 | d::ds,_,_,h=>by
  simp only[Rps]at h;obtain⟨v,ws,F1,F2,e,eF,r,q⟩:=h;simp only[nls];rw[eF,Zy];have:=Rp.QaO r;have:=Rps.QaO q;omega
end
theorem Rps.length:∀{ds:List D}{vs:List V}{F:LAd},Rps K H ds vs F->ds.length=vs.length
 | [],_,_,h=>by simp only[Rps]at h;rw[h.1];rfl
 | d::ds,_,_,h=>by
  simp only[Rps]at h;obtain⟨v,ws,F1,F2,e,eF,r,q⟩:=h;rw[e,ZR,ZR,Rps.length q]
theorem Rps.append:∀{ds es:List D}{vs ws:List V}{F G:LAd},Rps K H ds vs F->Rps K H es ws G->Rps K H (ds++es) (vs++ws) (F++G)
 | [],_,_,_,_,_,h,g=>by simp only[Rps]at h;rw[h.1,h.2];exact g
 | d::ds,_,_,_,_,_,h,g=>by
  simp only[Rps,ZbS]at h ⊢;obtain⟨v,ws,F1,F2,e,eF,r,q⟩:=h;subst e eF;exact⟨v,_,F1,_,rfl,by rw[Zba],r,Rps.append q g⟩
theorem Rps.get:∀{ds:List D}{vs:List V}{F:LAd}{i:Nat}{d:D},Rps K H ds vs F->ds[i]? =some d->∃v F1 G F2,vs[i]? =some v/\F=F1++(G++F2)/\Rp K H d v G/\(F.length=nls ds->G.length=d.nl)
 | [],_,_,_,_,_,e=>by simp at e
 | d::ds,_,_,0,_,h,e=>by
  simp only[Rps]at h;obtain⟨v,ws,F1,F2,e1,eF,r,q⟩:=h;simp at e;subst e e1 eF;refine⟨v,[],F1,F2,by simp,rfl,r,λhl=>?_⟩;simp only[nls,Zy]at hl;have:=Rp.QaO r;have:=Rps.QaO q;omega
 | d::ds,_,_,i+1,_,h,e=>by
  simp only[Rps]at h;obtain⟨v,ws,F1,F2,e1,eF,r,q⟩:=h;obtain⟨v',G1,G,G2,h1,h2,h3,h4⟩:=Rps.get q (by simpa using e);have l1:=Rp.QaO r;have l2:=Rps.QaO q;subst e1 eF;refine⟨v',F1++G1,G,G2,by simpa using h1,by rw[h2,Zba],h3,λhl=>h4 ?_⟩;simp only[nls,Zy]at hl;omega
theorem Fix.sq{K:Fgg}{H:Hp}{a:Addr}{vs:List V}(h:Fix K H a vs):SqL K H a vs:=by
 rcases h with⟨o,h⟩ | ⟨its,n,h,hz,r⟩
 ·exact .inl (.inr ⟨o,h⟩)
 ·exact .inr ⟨_,its.toArray,n,h,rfl,rfl,rfl,by rw[Zw,← r.length];exact hz,by simpa using r⟩
theorem _root_.L2.Inv.Qqb(I:Inv X pins σ H s)(h:H a=some (.lst vs)∨Fix X.K H a vs):
  vs.length<=sizeLine/\∃(its:List Value) (n:Nat),QM vs its/\vs.length=its.length/\s.heap.get? a=some {cls:= .type "list",data:= .seq its.toArray n}:=by
 rcases h with h | ⟨o,h⟩ | ⟨its,n,h,hz,r⟩
 ·exact I.QBf h
 ·obtain⟨e,hz,its,n,r,e2⟩:=I.hok a _ h;exact⟨hz,its,n,r,r.length,e2⟩
 ·exact⟨hz,its,n,r,r.length,I.kIn _ _ h⟩
theorem Rp.lst_inv{K:Fgg}{H:Hp}{ds:List D}{v:V}{F:LAd}(h:Rp K H (.lst ds) v F):
  ∃a vs G,v= .ref a/\(H a=some (.lst vs)∨Fix K H a vs)/\Rps K H ds vs G/\ds.length<=sizeLine/\(F=a::G∨F=G):=by
 simp only[Rp]at h;obtain⟨hz,a,vs,e,⟨G,eF,q,r⟩ | ⟨q,r⟩⟩:=h
 ·exact⟨a,vs,G,e,.inl q,r,hz,.inl eF⟩
 ·exact⟨a,vs,F,e,.inr q,r,hz,.inr rfl⟩
theorem QZ{K:Fgg}{H:Hp}{a:Addr}{vs:List V}(h:H a=some (.lst vs)∨Fix K H a vs):SqL K H a vs:=h.elim (λh=>SqL.of h) Fix.sq
theorem Rp.Qbn{K:Fgg}{H:Hp}{ds:List D}{v:V}{F:LAd}(h:Rp K H (.tup ds) v F):∃a vs,v= .ref a/\SqT K H a vs/\Rps K H ds vs F:=by
 simp only[Rp]at h;exact h
theorem Rp.Qen{K:Fgg}{H:Hp}{ds:List D}{a:Addr}{vs:List V}{G:LAd}(h:H a=some (.lst vs))(r:Rps K H ds vs G)(hz:ds.length<=sizeLine):Rp K H (.lst ds) (.ref a) (a::G):=by
 simp only[Rp];exact⟨hz,a,vs,rfl,.inl ⟨G,rfl,h,r⟩⟩
theorem Rp.Qht{K:Fgg}{H:Hp}{ds:List D}{a:Addr}{vs:List V}{G:LAd}(h:H a=some (.tup vs))(r:Rps K H ds vs G):Rp K H (.tup ds) (.ref a) G:=by
 simp only[Rp];exact⟨a,vs,rfl,SqT.of h,r⟩
theorem Rp.int_inv{K:Fgg}{H:Hp}{i:Int}{v:V}{F:LAd}(h:Rp K H (.int i) v F):v= .int i:=by simp only[Rp]at h;exact h.1
theorem Rp.Qjp{K:Fgg}{H:Hp}{i:Bool}{v:V}{F:LAd}(h:Rp K H (.bl i) v F):v= .bl i:=by simp only[Rp]at h;exact h.1
theorem Rp.Qni{K:Fgg}{H:Hp}{v:V}{F:LAd}(h:Rp K H .non v F):v= .non:=by simp only[Rp]at h;exact h.1
theorem Rp.str_inv{K:Fgg}{H:Hp}{i:Str}{v:V}{F:LAd}(h:Rp K H (.str i) v F):v= .str i:=by simp only[Rp]at h;exact h.1
theorem Rp.int_mk{K:Fgg}{H:Hp}{i:Int}:Rp K H (.int i) (.int i) []:=by simp[Rp]
theorem Rp.Qec{K:Fgg}{H:Hp}{i:Bool}:Rp K H (.bl i) (.bl i) []:=by simp[Rp]
theorem Rp.Qp1{K:Fgg}{H:Hp}:Rp K H .non .non []:=by simp[Rp]
theorem Rp.str_mk{K:Fgg}{H:Hp}{i:Str}:Rp K H (.str i) (.str i) []:=by simp[Rp]
theorem Qbz(h:H p=none):QS H (L2.upd H p o):=λb u e=>by rw[QR (Qb8 e h)];exact e
end
end HS
namespace HS
open PySem PySem.Spec L2
noncomputable abbrev En:=List (Option (D×Bool))
noncomputable abbrev slT(d:D):Option (D×Bool):=some (d,true)
noncomputable abbrev slF(d:D):Option (D×Bool):=some (d,false)
noncomputable abbrev slI(i:Int):Option (D×Bool):=some (.int i,true)
theorem nn{α:Type}{x:α}{C:Prop}(h:(none:Option α)=some x):C:=nomatch h
structure R where
 d:D
 fr:Bool
 M:List Nat
noncomputable abbrev reT(d:D):R:=⟨d,true,[]⟩
noncomputable abbrev reF(d:D):R:=⟨d,false,[]⟩
noncomputable abbrev reI(i:Int):R:=⟨.int i,true,[]⟩
structure RA where
 ds:List D
 fr:Bool
 M:List Nat
noncomputable abbrev DE:=En->Option R
noncomputable abbrev DA:=En->Option RA
noncomputable abbrev DT:=En->Option Bool
structure Rel (K:Fgg) (H0:Hp) (A0:LAd) (hs:List (V×D×List Addr)) (U:En) (F:Nat->List Addr) (σ:St) (H:Hp):Prop where
 len:U.length=σ.length
 val:∀(i:Nat) d b,U[i]? =some (some (d,b))->∃v,σ[i]? =some (some v)/\Rp K H d v (F i)
 own:∀(i:Nat) d,U[i]? =some (some (d,true))->(F i).length=d.nl/\(F i).Nodup/\(∀a∈F i,H0 a=none)/\(∀(j:Nat) d' b',j≠i->U[j]? =some (some (d',b'))->∀a∈F i,a∉F j)/\∀t∈hs,∀a∈F i,a∉t.2.2
 src:∀(i:Nat) d b,U[i]? =some (some (d,b))->∀a∈F i,H0 a=none∨a∈A0
 held:∀t∈hs,Rp K H t.2.1 t.1 t.2.2/\∀a∈t.2.2,H0 a=none∨a∈A0
 same:QS H0 H
def Src(U:En)(F:Nat->List Addr)(H:Hp)(M:List Nat)(G:LAd):Prop:=
 ∀a∈G,H a=none∨∃(i:Nat) (d:D) (b:Bool),U[i]? =some (some (d,b))/\a∈F i/\(b=true->i∈M)
noncomputable def nw(H:Hp)(a:Addr):Nat:=match H a with | none=>1 | some _=>0
def Cnt(F:Nat->List Addr)(H:Hp)(M:List Nat)(G:LAd):Prop:=
 ∀a,G.count a<=nw H a+((M.map F).flatten).count a
def QbM(U:En)(M:List Nat):Prop:=∀i∈M,∃d,U[i]? =some (some (d,true))
structure Qaf (K:Fgg) (U:En) (F:Nat->List Addr) (H H':Hp) (r:R) (v:V) (G:LAd):Prop where
 same:QS H H'
 rp:Rp K H' r.d v G
 src:Src U F H r.M G
 cnt:r.fr=true->Cnt F H r.M G/\G.length=r.d.nl
 own:QbM U r.M
structure Qs1 (K:Fgg) (U:En) (F:Nat->List Addr) (H H':Hp) (r:RA) (vs:List V) (G:LAd):Prop where
 same:QS H H'
 rp:Rps K H' r.ds vs G
 src:Src U F H r.M G
 cnt:r.fr=true->Cnt F H r.M G/\G.length=nls r.ds
 own:QbM U r.M
noncomputable def tV(K:Fgg)(H0:Hp)(A0:LAd)(f:DE):TE:=λσ H Q=>∃U hs F r,Rel K H0 A0 hs U F σ H/\f U=some r/\∀v H' G,Qaf K U F H H' r v G->Q v H'
noncomputable def tVA(K:Fgg)(H0:Hp)(A0:LAd)(f:DA):TA:=λσ H Q=>∃U hs F r,Rel K H0 A0 hs U F σ H/\f U=some r/\∀v H' G,Qs1 K U F H H' r v G->Q v H'
noncomputable def tVT(K:Fgg)(H0:Hp)(A0:LAd)(f:DT):TT:=λσ H Q=>∃U hs F b,Rel K H0 A0 hs U F σ H/\f U=some b/\∀H',QS H H'->Q b H'
def SE(X:Cx)(e:Expr)(f:DE):Prop:=∀H0 A0,PE X e (tV X.K H0 A0 f)
def SA(X:Cx)(es:List Expr)(f:DA):Prop:=∀H0 A0,PA X es (tVA X.K H0 A0 f)
def ST(X:Cx)(e:Expr)(f:DT):Prop:=∀H0 A0,PT X e (tVT X.K H0 A0 f)
theorem _root_.L2.PE.mono(h:PE X e t)(m:∀σ H Q,t' σ H Q->t σ H Q):PE X e t':=λpins s σ H Q I q=>h pins s σ H Q I (m σ H Q q)
theorem _root_.L2.PT.mono(h:PT X e t)(m:∀σ H Q,t' σ H Q->t σ H Q):PT X e t':=λpins s σ H Q I q=>h pins s σ H Q I (m σ H Q q)
theorem _root_.L2.PA.mono(h:PA X e t)(m:∀σ H Q,t' σ H Q->t σ H Q):PA X e t':=λpos pins s σ H Q I q=>h pos pins s σ H Q I (m σ H Q q)
section
theorem Rel.ext(r:Rel K H0 A0 hs U F σ H)(s:QS H H'):Rel K H0 A0 hs U F σ H' where
 len:=r.len
 val:=λi d b e=>let ⟨v,h1,h2⟩:=r.val i d b e;⟨v,h1,h2.same s⟩
 own:=r.own
 src:=r.src
 held:=λt ht=>⟨(r.held t ht).1.same s,(r.held t ht).2⟩
 same:=r.same.trans s
theorem Rel.mem(r:Rel K H0 A0 hs U F σ H)(e:U[i]? =some (some (d,b)))(h:a∈F i):∃vs,H a=some (.lst vs):=
 let ⟨_,_,h2⟩:=r.val i d b e;h2.mem a h
theorem Qdh(h:H a=some o):nw H a=0:=by simp[nw,h]
theorem QbL(h:H a=none):nw H a=1:=by simp[nw,h]
theorem Rel.fl0(r:Rel K H0 A0 hs U F σ H)(ow:QbM U M)(h:H a=none):((M.map F).flatten).count a=0:=by
 rw[ZS];intro hm;obtain⟨l,hl,ha⟩:=Zbz.mp hm;obtain⟨i,hi,rfl⟩:=ZL.mp hl;obtain⟨d,e⟩:=ow i hi;obtain⟨vs,q⟩:=r.mem e ha;rw[h]at q;cases q
theorem Cnt.append(r:Rel K H0 A0 hs U F σ H)(c1:Cnt F H M1 G1)(c2:Cnt F H1 M2 G2)(s:QS H H1)(m1:∀a∈G1,∃vs,H1 a=some (.lst vs)):Cnt F H (M1++M2) (G1++G2):=λa=>by
 rw[Zas,ZaI,List.flatten_append,Zas];have h1:=c1 a;have h2:=c2 a;cases q:H1 a with
 | some o=>rw[Qdh q]at h2;omega
 | none=>
  rw[QbL q]at h2;have h3:H a=none:=s.free q;rw[QbL h3]at h1 ⊢;have h4:G1.count a=0:=ZS.mpr λhm=>by obtain⟨vs,z⟩:=m1 a hm;rw[q]at z;cases z
  omega
theorem Src.append(c1:Src U F H M1 G1)(c2:Src U F H1 M2 G2)(s:QS H H1):Src U F H (M1++M2) (G1++G2):=λa ha=>by
 rcases ZF.mp ha with h | h
 ·rcases c1 a h with z | ⟨i,d,b,e,m,w⟩
  ·exact .inl z
  ·exact .inr ⟨i,d,b,e,m,λhb=>Zf _ (w hb)⟩
 ·rcases c2 a h with z | ⟨i,d,b,e,m,w⟩
  ·exact .inl (s.free z)
  ·exact .inr ⟨i,d,b,e,m,λhb=>Ze _ (w hb)⟩
theorem QbM.append(h1:QbM U M1)(h2:QbM U M2):QbM U (M1++M2):=λi hi=>(ZF.mp hi).elim (h1 i) (h2 i)
theorem QbM.nil:QbM U []:=λi hi=>by simp at hi
theorem Src.nil:Src U F H M []:=λa ha=>by simp at ha
theorem Cnt.nil:Cnt F H M []:=λa=>by simp
theorem Qaf.flat(s:QS H H')(r:Rp K H' d v [])(hf:d.flat=true:=by rfl):Qaf K U F H H' ⟨d,true,[]⟩ v []:=⟨s,r,Src.nil,λ_=>⟨Cnt.nil,(QeK d hf).symm⟩,QbM.nil⟩
theorem Qaf.sub(p:Qaf K U F H H1 r v G)(rp:Rp K H1 d u G')(hs:∀a,G'.count a<=G.count a)(hn:G.length=r.d.nl->G'.length=d.nl):Qaf K U F H H1 ⟨d,r.fr,r.M⟩ u G' where
 same:=p.same
 rp:=rp
 src:=λa ha=>p.src a (by
  have:=hs a;have h1:0<G'.count a:=Zai.mpr ha;exact Zai.mp ⋯)
 cnt:=λh=>⟨λa=>Zo (hs a) ((p.cnt h).1 a),hn (p.cnt h).2⟩
 own:=p.own
noncomputable def R.norm(r:R):R:=if r.d.flat then⟨r.d,true,[]⟩else r
theorem R.Qc3(r:R):r.norm.d=r.d:=by unfold R.norm;split<;>rfl
theorem Qaf.norm(p:Qaf K U F H H' r v G):Qaf K U F H H' r.norm v G:=by
 unfold R.norm;split
 ·rename_i h;have:=p.rp.QcC h;subst this;exact .flat p.same p.rp h
 ·exact p
end
noncomputable def Ql(i:Nat):DE:=λU=>match U[i]? with
 | some (some (d,b))=>if d.flat then some ⟨d,true,[]⟩else if b then some ⟨d,true,[i]⟩else some ⟨d,false,[]⟩
 | _=>none
noncomputable def dC(d:D):DE:=λ_=>some ⟨d,true,[]⟩
noncomputable abbrev vv0:DE:=Ql 0
noncomputable abbrev vv1:DE:=Ql 1
noncomputable abbrev vv2:DE:=Ql 2
noncomputable abbrev vv3:DE:=Ql 3
noncomputable abbrev vv4:DE:=Ql 4
noncomputable abbrev vv5:DE:=Ql 5
noncomputable abbrev vv6:DE:=Ql 6
noncomputable abbrev vv7:DE:=Ql 7
noncomputable abbrev vv8:DE:=Ql 8
noncomputable abbrev vv9:DE:=Ql 9
noncomputable abbrev Qu9:DE:=Ql 10
noncomputable abbrev kk0:DE:=dC (.int 0)
noncomputable abbrev kk1:DE:=dC (.int 1)
noncomputable abbrev kk2:DE:=dC (.int 2)
noncomputable abbrev kk3:DE:=dC (.int 3)
noncomputable abbrev kk4:DE:=dC (.int 4)
noncomputable abbrev kk5:DE:=dC (.int 5)
noncomputable abbrev kk6:DE:=dC (.int 6)
noncomputable abbrev kk7:DE:=dC (.int 7)
noncomputable abbrev kk9:DE:=dC (.int 9)
noncomputable abbrev Qvr:DE:=dC (.int 10)
noncomputable abbrev QC6:DE:=dC (.int 11)
noncomputable abbrev QDf:DE:=dC (.int 17)
noncomputable abbrev QDG:DE:=dC (.int 64)
noncomputable abbrev QDv:DE:=dC (.int 72)
noncomputable abbrev QB5:DE:=dC (.int 300)
noncomputable abbrev Qth:DE:=dC (.int 7919)
noncomputable abbrev Qy7:DE:=dC (.int 16807)
noncomputable abbrev Qza:DE:=dC (.int 39373)
noncomputable abbrev QmV:DE:=dC (.int 48271)
noncomputable abbrev Qzb:DE:=dC (.int 69621)
noncomputable abbrev Qus:DE:=dC (.int 1000003)
noncomputable abbrev QpO:DE:=dC (.int 2147483629)
noncomputable abbrev Qgo:DE:=dC (.int 2147483647)
section
theorem Qdz(h:PE X (.Name x pos) (QgO i)):SE X (.Name x pos) (Ql i):=λH0 A0=>h.mono λσ H Q=>exK λU hs F r rel e q=>by
 unfold Ql at e;split at e
 ·rename_i d b q1;obtain⟨v,h1,h2⟩:=rel.val i d b q1;refine⟨v,h1,q v H (F i) ?_⟩;split at e
  ·rename_i hf;cases e;have:=h2.QcC hf;rw[this]at h2 ⊢;exact .flat (QS.refl _) h2 hf
  ·split at e
   ·rename_i hb;cases e;subst hb;exact⟨QS.refl _,h2,λa ha=> .inr ⟨i,d,true,q1,ha,λ_=>by simp⟩,λ_=>⟨λa=>(by simp),(rel.own i d q1).1⟩,λj hj=>by simp at hj;subst hj;exact⟨d,q1⟩⟩
   ·rename_i hb;cases e;simp at hb;subst hb;exact⟨QS.refl _,h2,λa ha=> .inr ⟨i,d,false,q1,ha,λz=>by cases z⟩,λz=>(by cases z),QbM.nil⟩
 ·cases e
theorem Qlu(h:PE X e (tC v))(r:∀K H,Rp K H d v [])(hf:d.flat=true):SE X e (dC d):=λH0 A0=>h.mono λσ H Q=>exK λU hs F r' rel e q=>by
 cases e;exact q v H [] (.flat (QS.refl _) (r _ _) hf)
theorem two{K:Fgg}{H0:Hp}{A0:LAd}{fa fb:DE}{σ:St}{H:Hp}{hs:List (V×D×List Addr)}{U:En}{F:Nat->List Addr}{ra rb:R}{Rr:V->V->Hp->Prop}(rel:Rel K H0 A0 hs U F σ H)(ea:fa U=some ra)(eb:fb U=some rb)
  (k:∀x y H1 H2 G1 G2,Qaf K U F H H1 ra x G1->Qaf K U F H1 H2 rb y G2->Rr x y H2):tV K H0 A0 fa σ H λx H1=>tV K H0 A0 fb σ H1 λy H2=>Rr x y H2:=
 ⟨U,hs,F,ra,rel,ea,λx H1 G1 p1=>⟨U,hs,F,rb,rel.ext p1.same,eb,λy H2 G2 p2=>k x y H1 H2 G1 G2 p1 p2⟩⟩
noncomputable def dOp(g:D->D->Option D)(fa fb:DE):DE:=λU=>(fa U).bind λra=>(fb U).bind λrb=>(g ra.d rb.d).map λd=>⟨d,true,[]⟩
theorem QmJ(e:dOp g fa fb U=some r):∃ra rb d,fa U=some ra/\fb U=some rb/\g ra.d rb.d=some d/\r=⟨d,true,[]⟩:=by
 unfold dOp at e;cases h1:fa U with
 | none=>rw[h1]at e;cases e
 | some ra=>
  cases h2:fb U with
  | none=>rw[h1,h2]at e;cases e
  | some rb=>
   rw[h1,h2]at e;cases h3:g ra.d rb.d with
   | none=>simp[h3]at e
   | some d=>simp[h3]at e;exact⟨ra,rb,d,rfl,rfl,h3,e.symm⟩
def QcS(K:Fgg)(g:D->D->Option D)(r:R2):Prop:=∀a b d,g a b=some d->d.flat=true/\∀H x y F G (Q:VK),Rp K H a x F->Rp K H b y G->(∀v,(∀H',Rp K H' d v [])->Q v H)->r x y H Q
theorem QlZ(ho:OpR X (binaryOp op) r)(hg:QcS X.K g r)(ha:SE X a fa)(hb:SE X b fb):SE X (.BinOp a op b pos) (dOp g fa fb):=λH0 A0=>
 (QsC ho (ha H0 A0) (hb H0 A0)).mono λσ H Q=>exK λU hs F r' rel e q=>by
  obtain⟨ra,rb,d,ea,eb,eg,rfl⟩:=QmJ e;refine two rel ea eb λx y H1 H2 G1 G2 p1 p2=>(hg _ _ _ eg).2 H2 x y G1 G2 Q (p1.rp.same p2.same) p2.rp λv hv=>?_;exact q v H2 [] (.flat (p1.same.trans p2.same) (hv H2) (hg _ _ _ eg).1)
theorem Qp9(ho:OpR X (compareOp op) r)(hg:QcS X.K g r)(ha:SE X a fa)(hb:SE X b fb)(hm:behindInMarks op b=false):SE X (.Compare a [op] [b] pos) (dOp g fa fb):=λH0 A0=>
 (QyX ho (ha H0 A0) (hb H0 A0) hm).mono λσ H Q=>exK λU hs F r' rel e q=>by
  obtain⟨ra,rb,d,ea,eb,eg,rfl⟩:=QmJ e;refine two rel ea eb λx y H1 H2 G1 G2 p1 p2=>(hg _ _ _ eg).2 H2 x y G1 G2 Q (p1.rp.same p2.same) p2.rp λv hv=>?_;exact q v H2 [] (.flat (p1.same.trans p2.same) (hv H2) (hg _ _ _ eg).1)
end
noncomputable def Qep(i j:Int):Int:=if 0<=j then i / j else i.fdiv j
noncomputable def QdM(i j:Int):Int:=if 0<=j then i % j else i.fmod j
theorem QnB(i j:Int):Qep i j=i.fdiv j:=by
 unfold Qep;split
 ·rw[ZbJ _ (by assumption)]
 ·rfl
theorem Qno(i j:Int):QdM i j=i.fmod j:=by
 unfold QdM;split
 ·rw[Int.fmod_eq_emod_of_nonneg _ (by assumption)]
 ·rfl
noncomputable def Qd3(i j:Int):Bool:=decide (i.natAbs<2^64) || decide (j.natAbs<2^64) || (decide (Builtin.Int.intBits i<=2^20) && decide (Builtin.Int.intBits j<=2^20))
noncomputable def Qci(j:Int):Bool:=decide (j≠0) && decide (j.natAbs<2^8000)
noncomputable def gI(f:Int->Int->Option D)(a b:D):Option D:=match a,b with
 | .int i,.int j=>f i j
 | _,_=>none
noncomputable def QaL:=gI λi j=>some (.int (i-j))
noncomputable def Qbb:=gI λi j=>if Qci j then some (.int (Qep i j))else none
noncomputable def Q3:=gI λi j=>if j≠0 then some (.int (QdM i j))else none
noncomputable def QmW:=gI λi j=>if 0<=j/\j<=1000/\i.natAbs<2^200 then some (.int (i^j.toNat))else none
noncomputable def QoQ:=gI λi j=>if 0<=j then some (.int (i / 2^j.toNat))else none
noncomputable def gLt:=gI λi j=>some (.bl (decide (i<j)))
noncomputable def gLe:=gI λi j=>some (.bl (decide (i<=j)))
noncomputable def gGt:=gI λi j=>some (.bl (decide (j<i)))
noncomputable def gGe:=gI λi j=>some (.bl (decide (j<=i)))
theorem QtM(h:gI f a b=some d):∃i j,a= .int i/\b= .int j/\f i j=some d:=by
 unfold gI at h;split at h
 ·exact⟨_,_,rfl,rfl,h⟩
 ·cases h
section
theorem QgS(hf:∀i j d,f i j=some d->d.flat=true)(h:∀i j d,f i j=some d->∀H (Q:VK),(∀v,(∀H',Rp K H' d v [])->Q v H)->r (.int i) (.int j) H Q):QcS K (gI f) r:=λa b d e=>by
 obtain⟨i,j,rfl,rfl,ef⟩:=QtM e;refine⟨hf i j d ef,λH x y F G Q ha hb q=>?_⟩;rw[ha.int_inv,hb.int_inv];exact h i j d ef H Q q
theorem Qt2:QcS K QaL (rI0 λi j=> .int (i-j)):=QgS (λi j d e=>by cases e;rfl) λi j d e H Q q=>by cases e;exact⟨i,j,rfl,rfl,q _ λ_=> .int_mk⟩
theorem QwM(h:Qd3 i j=true):IntMulOk i j:=by
 have small:∀k:Int,k.natAbs<2^64->Builtin.Int.intBits k<=64:=λk hk=>by
  unfold Builtin.Int.intBits;split
  ·omega
  ·rename_i h0;have h0':k.natAbs≠0:=λz=>by simp_all
   have:=(Nat.log2_lt h0').mpr hk;omega
 unfold Qd3 at h;simp only[Zce,Zm,decide_eq_true_eq]at h;rcases h with(h | h) | ⟨h1,h2⟩
 ·exact .of_left (small i h)
 ·exact .of_right (small j h)
 ·exact .of_bits h1 h2
theorem Qy3:OpR X (binaryOp .Mult) (rI (λi j=>Qd3 i j=true) λi j=> .int (i*j)):=opI λ_ _ _ _ _ _ _ hc q=>PyProof.Rows.mul_int q (QwM hc)
theorem QxR:OpR X (binaryOp .FloorDiv) (rI (λi j=>Qci j=true) λi j=> .int (Qep i j)):=opI λi j _ _ _ _ _ hc q=>by
 unfold Qci at hc;simp only[Zm,decide_eq_true_eq]at hc;rw[QnB]at q;refine PyProof.Rows.floordiv_int hc.1 q (.inl (ZbO ?_));have h0:j.natAbs≠0:= ⋯
 exact ZbY ((Nat.log2_lt h0).mpr hc.2) (by decide)
theorem Qy1:OpR X (binaryOp .Mod) (rI (λi j=>j≠0) λi j=> .int (QdM i j)):=opI λi j _ _ _ _ _ hc q=>by
 rw[Qno]at q;exact PyProof.Rows.mod_int' hc q
theorem QzV:QcS K Qbb (rI (λi j=>Qci j=true) λi j=> .int (Qep i j)):=QgS (λi j d e=>by split at e<;>cases e;rfl) λi j d e H Q q=>by
 split at e
 ·cases e;exact⟨i,j,rfl,rfl,by assumption,q _ λ_=> .int_mk⟩
 ·cases e
theorem QAv:QcS K Q3 (rI (λi j=>j≠0) λi j=> .int (QdM i j)):=QgS (λi j d e=>by split at e<;>cases e;rfl) λi j d e H Q q=>by
 split at e
 ·cases e;exact⟨i,j,rfl,rfl,by assumption,q _ λ_=> .int_mk⟩
 ·cases e
theorem Qyz:OpR X (binaryOp .Pow) (rI (λi j=>0<=j/\j<=1000/\i.natAbs<2^200) λi j=> .int (i^j.toNat)):=opI λi j _ _ _ _ _ hc q=>by
 refine PyProof.Rows.pow_int hc.1 ?_ q;have hb:Builtin.Int.intBits i<=200:=by
  unfold Builtin.Int.intBits;split
  ·omega
  ·rename_i h0;have h0':i.natAbs≠0:=λz=>by simp_all
   have:=(Nat.log2_lt h0').mpr hc.2.2;omega
 have h1:((Builtin.Int.intBits i:Nat):Int)*j<=200*1000:=Int.mul_le_mul ⋯ hc.2.1 hc.1 (by decide);omega
theorem Qz9:QcS K QmW (rI (λi j=>0<=j/\j<=1000/\i.natAbs<2^200) λi j=> .int (i^j.toNat)):=QgS (λi j d e=>by split at e<;>cases e;rfl) λi j d e H Q q=>by
 split at e
 ·rename_i h;cases e;exact⟨i,j,rfl,rfl,h,q _ λ_=> .int_mk⟩
 ·cases e
theorem QAW:QcS K QoQ (rI (λ_ j=>0<=j) λi j=> .int (i / 2^j.toNat)):=QgS (λi j d e=>by split at e<;>cases e;rfl) λi j d e H Q q=>by
 split at e
 ·cases e;exact⟨i,j,rfl,rfl,by assumption,q _ λ_=> .int_mk⟩
 ·cases e
theorem QBR:QcS K gLt (rI0 λi j=> .bl (decide (i<j))):=QgS (λi j d e=>by cases e;rfl) λi j d e H Q q=>by cases e;exact⟨i,j,rfl,rfl,q _ λ_=> .Qec⟩
theorem QCc:QcS K gLe (rI0 λi j=> .bl (decide (i<=j))):=QgS (λi j d e=>by cases e;rfl) λi j d e H Q q=>by cases e;exact⟨i,j,rfl,rfl,q _ λ_=> .Qec⟩
theorem QB3:QcS K gGt (rI0 λi j=> .bl (decide (j<i))):=QgS (λi j d e=>by cases e;rfl) λi j d e H Q q=>by cases e;exact⟨i,j,rfl,rfl,q _ λ_=> .Qec⟩
theorem QCb:QcS K gGe (rI0 λi j=> .bl (decide (j<=i))):=QgS (λi j d e=>by cases e;rfl) λi j d e H Q q=>by cases e;exact⟨i,j,rfl,rfl,q _ λ_=> .Qec⟩
end
theorem QcZ:∀(xs ys:List D),Qam (xs++ys)=(Qam xs && Qam ys)
 | [],ys=>by simp[Qam]
 | x::xs,ys=>by simp[Qam,QcZ xs ys,Bool.and_assoc]
noncomputable def Qbv(ds:List D)(M:List Nat):R:=if Qam ds then⟨.lst ds,true,[]⟩else⟨.lst ds,false,M⟩
section
variable {K:Fgg}{H0 H H':Hp}{A0:LAd}{hs:List (V×D×List Addr)}{U:En}{F:Nat->List Addr}{σ:L2.St}
theorem Qaf.Qbv(s:QS H H1)(hp:H1 p=none)(r:Rps K H1 ds vs G)(hz:ds.length<=sizeLine)(src:Src U F H M G)(ow:QbM U M):
  Qaf K U F H (upd H1 p (.lst vs)) (Qbv ds M) (.ref p) (p::G):=by
 have s2:QS H1 (upd H1 p (.lst vs)):=Qbz hp;have rp:Rp K (upd H1 p (.lst vs)) (.lst ds) (.ref p) (p::G):=Rp.Qen Qaa (r.same s2) hz;have hH:H p=none:=s.free hp;unfold HS.Qbv;split
 ·rename_i hf;have:=r.QcC hf;subst this;refine⟨s.trans s2,rp,λa ha=>?_,λ_=>⟨λa=>?_,by simp only[D.nl,QkT ds hf];rfl⟩,QbM.nil⟩
  ·have:a=p:=by simpa using ha
   subst this;exact .inl hH
  ·rw[List.count_singleton];split
   ·rename_i e;have e':p=a:=by simpa using e
    subst e';rw[QbL hH];omega
   ·omega
 ·refine⟨s.trans s2,rp,λa ha=>?_,λz=>(by cases z),ow⟩;rcases Zi.mp ha with rfl | h
  ·exact .inl hH
  ·exact src a h
end
noncomputable def QL(fa fb:DE):DE:=λU=>(fa U).bind λra=>(fb U).bind λrb=>match ra.d,rb.d with
 | .int i,.int j=>some ⟨.int (i+j),true,[]⟩
 | .lst xs,.lst ys=>if xs.length+ys.length<=sizeLine then some (Qbv (xs++ys) (ra.M++rb.M))else none
 | _,_=>none
noncomputable def QY(fa fb:DE):DE:=λU=>(fa U).bind λra=>(fb U).bind λrb=>match ra.d,rb.d with
 | .int i,.int j=>if Qd3 i j then some ⟨.int (i*j),true,[]⟩else none
 | .lst xs,.int j=>if xs.length*j.toNat<=sizeLine/\ -(2^63)<=j/\j<2^63/\Qam xs=true then some ⟨.lst (List.replicate j.toNat xs).flatten,true,[]⟩else none
 | _,_=>none
theorem QsU{fa fb:DE}{U:En}{k:R->R->Option R}{r:R}(e:((fa U).bind λra=>(fb U).bind λrb=>k ra rb)=some r):∃ra rb,fa U=some ra/\fb U=some rb/\k ra rb=some r:=by
 cases h1:fa U with
 | none=>rw[h1]at e;cases e
 | some ra=>
  cases h2:fb U with
  | none=>rw[h1,h2]at e;cases e
  | some rb=>rw[h1,h2]at e;exact⟨ra,rb,rfl,rfl,e⟩
theorem bind1{α β:Type}{x:Option α}{k:α->Option β}{r:β}(e:x.bind k=some r):∃a,x=some a/\k a=some r:=by
 cases x with
 | none=>cases e
 | some a=>exact⟨a,rfl,e⟩
section
noncomputable def QCj(K:Fgg):R2:=λx y H Q=>∃l c xs zs,x= .ref l/\y= .ref c/\(H l=some (.lst xs)∨Fix K H l xs)/\(H c=some (.lst zs)∨Fix K H c zs)/\xs.length+zs.length<=sizeLine/\∀p,H p=none->Q (.ref p) (upd H p (.lst (xs++zs)))
theorem mapR{α γ:Type}{x:Option α}{f:α->γ}{r:γ}{M:γ->Prop}(e:x.map f=some r)(g:∀a,x=some a->M (f a)):M r:=by
 obtain⟨a,h,rfl⟩:=Zh.mp e;exact g a h
theorem Qg{α β:Type}{x:Option α}{k:α->Option β}{r:β}{G:Prop}(e:x.bind k=some r)(g:∀a,x=some a->k a=some r->G):G:=let ⟨a,h1,h2⟩:=bind1 e;g a h1 h2
theorem QyQ:OpR X (binaryOp .Add) (QCj X.K):=by
 intro pins s σ H x y v u Q I rx ry h;obtain⟨l,c,xs,zs,rfl,rfl,hH,hB,hz,q⟩:=h;cases rx;cases ry;obtain⟨z,its,n,r,hl,e⟩:=I.Qqb hH;obtain⟨z2,its2,n2,r2,hl2,e2⟩:=I.Qqb hB;refine PySem.P.add_list e e2 ?_ (by rw[Zw,Zw];omega);have ea:its.toArray++its2.toArray=(its++its2).toArray:=by simp
 rw[ea];exact⟨.ref _,_,I.QAE (t':=s.toks) (r.append r2) (by rw[Zy];omega),rfl,q _ I.fresh⟩
theorem QAk(ha:SE X a fa)(hb:SE X b fb):SE X (.BinOp a .Add b pos) (QL fa fb):=λH0 A0=>
 (QsC (QBn.or QyQ) (ha H0 A0) (hb H0 A0)).mono λσ H Q=>exK λU hs F r' rel e q=>by
  obtain⟨ra,rb,ea,eb,ek⟩:=QsU e;refine two rel ea eb λx y H1 H2 G1 G2 p1 p2=>?_;have p1':=p1.rp.same p2.same;have p2':=p2.rp;have c1:=p1.src.append p2.src p1.same;have o1:=p1.own.append p2.own;revert ek;revert p1' p2';cases ra.d<;>cases rb.d<;>intro p1' p2' ek<;>first | (cases ek;done) | skip
  ·cases ek;rw[p1'.int_inv,p2'.int_inv];exact .inl ⟨_,_,rfl,rfl,q _ H2 [] (.flat (p1.same.trans p2.same) .int_mk)⟩
  ·rename_i xs ys;dsimp only at ek;split at ek
   ·rename_i hz;cases ek;obtain⟨l,vs,L1,rfl,hl,rl,zl,el⟩:=p1'.lst_inv;obtain⟨c,ws,L2',rfl,hc,rc,zc,ec⟩:=p2'.lst_inv;have n1:=rl.length;have n2:=rc.length;refine .inr ⟨l,c,vs,ws,rfl,rfl,hl,hc,⋯,λp hp=>?_⟩;refine q _ _ (p::(L1++L2')) (Qaf.Qbv (p1.same.trans p2.same) hp (rl.append rc) (by rw[Zy];exact hz) (λa ha=>c1 a ?_) o1);rcases ZF.mp ha with h | h
    ·refine Zf _ ?_;rcases el with rfl | rfl
     ·exact Zc _ h
     ·exact h
    ·refine Ze _ ?_;rcases ec with rfl | rfl
     ·exact Zc _ h
     ·exact h
   ·cases ek
noncomputable def QCv(K:Fgg):R2:=λx y H Q=>∃l k xs,x= .ref l/\y= .int k/\(H l=some (.lst xs)∨Fix K H l xs)/\ -(2^63)<=k/\k<2^63/\xs.length*k.toNat<=sizeLine∧
 ∀p,H p=none->Q (.ref p) (upd H p (.lst (List.replicate k.toNat xs).flatten))
theorem QxK:OpR X (binaryOp .Mult) (QCv X.K):=by
 intro pins s σ H x y v u Q I rx ry h;obtain⟨l,k,xs,rfl,rfl,hH,h1,h2,hz,q⟩:=h;cases rx;obtain⟨t,rfl⟩:=ry;obtain⟨z,its,n,r,hl,e⟩:=I.Qqb hH;have hlen:its.toArray.size*k.toNat<=sizeLine:=by rw[Zw,← hl];exact hz
 have hcap:¬its.toArray.size*k.toNat>(2^63-1) / 8:=by
  have:(sizeLine:Nat)<=(2^63-1) / 8:=by decide
  omega
 have hfit:¬(!Builtin.List.listFitsIndex k)=true:=by
  rw[fitsIndex_both h1 h2];exact Zah
 have hlong:¬Builtin.List.listTooLong (its.toArray.size*k.toNat)=true:=by
  rw[QvQ hlen];exact Zah
 have hnew:List.foldl (λx1 x2=>x1++x2) #[] (List.replicate (if its.toArray.isEmpty=true then 0 else k.toNat) its.toArray)=(List.replicate k.toNat its).flatten.toArray:=by
  have f0:∀m:Nat,List.foldl (λx1 x2=>x1++x2) #[] (List.replicate m its.toArray)=(List.replicate m its).flatten.toArray:=λm=>by
   have:=foldl_rep its m [];rw[Zcf]at this;exact this
  rw[f0];cases its with
  | nil=>simp
  | cons a r'=>rw[if_neg (by simp)]
 open PyProof.Rows in
 refine wpAny_binaryOp_repeat_ref (by decide) ⟨_,e,rfl⟩ (λs'=>typeIs_int s' k t) noFill_list_mul F.fills_int_mul F.slot_int_rmul repeat_list F.slot_int_index.lookup
  (call_meets F.slot_int_rmul (typeIs_int s k t) F.entry_int_rmul (F.args_int_rmul_2 _ _) (int___rmul___int_list k t l its.toArray n)
   ⟨e,rfl,⟨_,e,rfl⟩,call_meets F.slot_list_mul ⟨_,e,rfl⟩ F.entry_list_mul (F.args_list_mul_2 _ _) (AutoListH.list___mul___list_int_3 l its.toArray n k t hfit hcap hlong) ⟨e,?_⟩⟩)
 rw[hnew];exact⟨.ref _,_,I.QAE (t':=s.toks) (r.rep k.toNat) (by rw[len_rep,ZaS];exact hz),rfl,q _ I.fresh⟩
theorem Qoc(h:Qam xs=true):∀n:Nat,Qam (List.replicate n xs).flatten=true
 | 0=>by simp[Qam]
 | n+1=>by rw[Zam,Zar,QcZ,h,Qoc h n];rfl
theorem Rps.rep(h:Rps K H ds vs []):∀n:Nat,Rps K H (List.replicate n ds).flatten (List.replicate n vs).flatten []
 | 0=>by simp[Rps]
 | n+1=>by rw[Zam,Zar,Zam,Zar];exact h.append (Rps.rep h n)
theorem QzL(ha:SE X a fa)(hb:SE X b fb):SE X (.BinOp a .Mult b pos) (QY fa fb):=λH0 A0=>
 (QsC (Qy3.or QxK) (ha H0 A0) (hb H0 A0)).mono λσ H Q=>exK λU hs F r' rel e q=>by
  obtain⟨ra,rb,ea,eb,ek⟩:=QsU e;refine two rel ea eb λx y H1 H2 G1 G2 p1 p2=>?_;have p1':=p1.rp.same p2.same;have p2':=p2.rp;revert ek;revert p1' p2';cases ra.d<;>cases rb.d<;>intro p1' p2' ek<;>first | (cases ek;done) | skip
  ·dsimp only at ek;split at ek
   ·rename_i hm;cases ek;rw[p1'.int_inv,p2'.int_inv];exact .inl ⟨_,_,rfl,rfl,hm,q _ H2 [] (.flat (p1.same.trans p2.same) .int_mk)⟩
   ·cases ek
  ·rename_i xs j;dsimp only at ek;split at ek
   ·rename_i hz;cases ek;obtain⟨hz1,hz2,hz3,hf⟩:=hz;obtain⟨l,vs,L1,rfl,hl,rl,zl,el⟩:=p1'.lst_inv;have n1:=rl.length;have e0:=rl.QcC hf;subst e0;rw[p2'.int_inv];refine .inr ⟨l,j,vs,rfl,rfl,hl,hz2,hz3,by rw[← n1];exact hz1,λp hp=>?_⟩;have w:HS.Qbv (List.replicate j.toNat xs).flatten []=⟨.lst (List.replicate j.toNat xs).flatten,true,[]⟩:=by
     unfold HS.Qbv;rw[if_pos (Qoc hf _)]
    rw[← w]at q;exact q _ _ (p::[]) (Qaf.Qbv (p1.same.trans p2.same) hp (rl.rep _) (by rw[len_rep,ZaS];exact hz1) Src.nil QbM.nil)
   ·cases ek
end
noncomputable def Qc:DA:=λ_=>some ⟨[],true,[]⟩
noncomputable def Qa(fa:DE)(fr:DA):DA:=λU=>(fa U).bind λr=>(fr U).bind λrs=>some ⟨r.d::rs.ds,r.fr && rs.fr,r.M++rs.M⟩
noncomputable def Qar(fa:DA):DE:=λU=>(fa U).bind λr=>if r.ds.length<=64 then some ⟨.tup r.ds,r.fr,r.M⟩else none
noncomputable def QX(fa:DA):DE:=λU=>(fa U).bind λr=>if r.ds.length<=64 then some ⟨.lst r.ds,r.fr,r.M⟩else none
section
variable {X:Cx}{a b e:Expr}{es:List Expr}{fa fb:DE}{fs:DA}{pos:Pos}
theorem QlS:SA X [] Qc:=λH0 A0=>Qc1.mono λσ H Q=>exK λU hs F r' rel e q=>by
 cases e;exact q [] H [] ⟨QS.refl _,by simp[Rps],Src.nil,λ_=>⟨Cnt.nil,rfl⟩,QbM.nil⟩
theorem QhE(ha:SE X e fa)(hr:SA X es fs)(hs:starEach (e::es) X.env=(false,eval e X.env)::starEach es X.env):SA X (e::es) (Qa fa fs):=λH0 A0=>
 (Qap (ha H0 A0) (hr H0 A0) hs).mono λσ H Q=>exK λU hs F r' rel e q=>by
  refine Qg e λr e1 e=>?_;refine Qg e λrs e2 e=>?_;cases e;refine⟨U,hs,F,r,rel,e1,λx H1 G1 p1=>⟨U,hs,F,rs,rel.ext p1.same,e2,λxs H2 G2 p2=>?_⟩⟩;refine q _ H2 (G1++G2) ⟨p1.same.trans p2.same,?_,p1.src.append p2.src p1.same,λh=>?_,p1.own.append p2.own⟩
  ·simp only[Rps];exact⟨x,xs,G1,G2,rfl,rfl,p1.rp.same p2.same,p2.rp⟩
  ·simp only[Zm]at h;exact⟨(p1.cnt h.1).1.append rel (p2.cnt h.2).1 p1.same p1.rp.mem,by simp only[nls,Zy,(p1.cnt h.1).2,(p2.cnt h.2).2]⟩
theorem QfB{n:Nat}(h:n<=64):n<=sizeLine:=Zo h (by decide)
theorem QAX{k:Nat}(ha:SA X es fs):SE X (.Tuple es k pos) (Qar fs):=λH0 A0=>
 (QtU (ha H0 A0)).mono λσ H Q=>exK λU hs F r' rel e q=>by
  refine Qg e λr e1 e=>?_;split at e
  ·rename_i hz;cases e;refine⟨U,hs,F,r,rel,e1,λxs H1 G p=>⟨by rw[← p.rp.length];exact QfB hz,λc hc=>q _ _ G ⟨p.same.trans (Qbz hc),Rp.Qht Qaa (p.rp.same (Qbz hc)),p.src,λh=>⟨(p.cnt h).1,by simp only[D.nl];exact(p.cnt h).2⟩,p.own⟩⟩⟩
  ·cases e
theorem QzS(ha:SA X es fs):SE X (.List es pos) (QX fs):=λH0 A0=>
 (QAZ (ha H0 A0)).mono λσ H Q=>exK λU hs F r' rel e q=>by
  refine Qg e λr e1 e=>?_;split at e
  ·rename_i hz;cases e;refine⟨U,hs,F,r,rel,e1,λxs H1 G p=>⟨by rw[← p.rp.length];exact QfB hz,λc hc=>?_⟩⟩;have hH:H c=none:=p.same.free hc;refine q _ _ (c::G) ⟨p.same.trans (Qbz hc),Rp.Qen Qaa (p.rp.same (Qbz hc)) (QfB hz),λz hz'=>?_,λh=>⟨λz=>?_,by simp only[D.nl,ZR,(p.cnt h).2]⟩,p.own⟩
   ·rcases Zi.mp hz' with rfl | h
    ·exact .inl hH
    ·exact p.src z h
   ·rw[ZaP];have:=(p.cnt h).1 z;split
    ·rename_i e';have e':c=z:=by simpa using e'
     subst e';have h0:G.count c=0:=ZS.mpr λhm=>by obtain⟨vs,w⟩:=p.rp.mem c hm;rw[hc]at w;cases w
     rw[QbL hH];omega
    ·exact this
  ·cases e
noncomputable def D.items:D->Option (List D)
 | .lst xs=>some xs
 | .tup xs=>some xs
 | _=>none
noncomputable def Qm(fa fb:DE):DE:=λU=>(fa U).bind λra=>(fb U).bind λrb=>match rb.d with
 | .int i=>(ra.d.items).bind λxs=>(atI xs i).map λd=>(R.norm ⟨d,ra.fr,ra.M⟩)
 | _=>none
theorem Qzp{α β:Type}{xs:List α}{i:Int}{d:α}(h:atI xs i=some d):∃j:Nat,xs[j]? =some d/\∀(ys:List β),ys.length=xs.length->∀y,ys[j]? =some y->atI ys i=some y:=by
 unfold atI at h;cases e:ixN xs.length i with
 | none=>rw[e]at h;cases h
 | some j=>
  rw[e]at h;refine⟨j,h,λys hl y hy=>?_⟩;unfold atI;rw[hl,e];exact hy
theorem QzC(ha:SE X a fa)(hb:SE X b fb)(hs:QhD b):SE X (.Subscript a b pos) (Qm fa fb):=λH0 A0=>
 (Qsd (QrD.or QuF) (ha H0 A0) (hb H0 A0) hs).mono λσ H Q=>exK λU hs F r' rel e q=>by
  obtain⟨ra,rb,ea,eb,ek⟩:=QsU e;refine two rel ea eb λx y H1 H2 G1 G2 p1 p2=>?_;have p1':=p1.rp.same p2.same;have p2':=p2.rp;have pp:Qaf X.K U F H H2 ra x G1:=⟨p1.same.trans p2.same,p1',p1.src,p1.cnt,p1.own⟩;cases hb':rb.d with
  | int i=>
   rw[hb']at ek p2';rw[p2'.int_inv];refine Qg ek λxs ex ek=>?_;obtain⟨d,ed,ek⟩:=Zh.mp ek;subst ek;obtain⟨j,hj,hm⟩:=Qzp ed;have fin:∀(L:LAd) (vs:List V),Rps X.K H2 xs vs L->(∀z,L.count z<=G1.count z)->(G1.length=ra.d.nl->L.length=nls xs)->∃v,atI vs i=some v/\Q v H2:=λL vs rl hc hn=>by
    obtain⟨v,F1,G,F2,hv,eF,rv,hx⟩:=rl.get hj;refine⟨v,hm vs rl.length.symm v hv,q v H2 G (Qaf.norm (Qaf.sub pp rv (λz=>Zo ?_ (hc z)) λz=>hx (hn z)))⟩;rw[eF,Zas,Zas];omega
   cases hra:ra.d with
   | lst ys=>
    rw[hra]at ex p1';cases ex;obtain⟨l,vs,L,rfl,hl,rl,zl,el⟩:=p1'.lst_inv;have hn:G1.length=ra.d.nl->L.length=nls xs:=λhz=>by
     have:=rl.QaO;simp only[hra,D.nl]at hz;rcases el with rfl | rfl
     ·rw[ZR]at hz;omega
     ·omega
    have hc:∀z,L.count z<=G1.count z:=λz=>by
     rcases el with rfl | rfl
     ·rw[ZaP];omega
     ·exact Zj _
    obtain⟨v,h1,h2⟩:=fin L vs rl hc hn;exact .inl ⟨l,vs,i,v,rfl,rfl,QZ hl,h1,h2⟩
   | tup ys=>
    rw[hra]at ex p1';cases ex;obtain⟨l,vs,rfl,hl,rl⟩:=p1'.Qbn;obtain⟨v,h1,h2⟩:=fin G1 vs rl (λz=>Zj _) λz=>(by simpa only[hra,D.nl]using z);exact .inr ⟨l,vs,i,v,rfl,rfl,hl,h1,h2⟩
   | _=>rw[hra]at ex;cases ex
  | _=>rw[hb']at ek;cases ek
noncomputable abbrev DO:=En->Option (Option Int)
noncomputable def Qch:DO:=λ_=>some none
noncomputable def Qcf(f:DE):DO:=λU=>(f U).bind λr=>match r.d with
 | .int i=>some (some i)
 | _=>none
noncomputable def tVO(K:Fgg)(H0:Hp)(A0:LAd)(f:DO):TO:=λσ H Q=>∃U hs F o,Rel K H0 A0 hs U F σ H/\f U=some o/\∀H',QS H H'->Q o H'
def SO(X:Cx)(e:Option Expr)(f:DO):Prop:=∀H0 A0,PO X e (tVO X.K H0 A0 f)
theorem _root_.L2.PO.mono{X:Cx}{e:Option Expr}{t t':TO}(h:PO X e t)(m:∀σ H Q,t' σ H Q->t σ H Q):PO X e t':=by
 intro pins s σ H Q I q;exact h pins s σ H Q I (m σ H Q q)
theorem QxW:SO X none Qch:=λH0 A0=>Qyi.mono λσ H Q=>exK λU hs F o rel e q=>by
 cases e;exact q H (QS.refl _)
theorem Qyn(h:SE X a fa):SO X (some a) (Qcf fa):=λH0 A0=>(QxZ (h H0 A0)).mono λσ H Q=>exK λU hs F o rel e q=>by
 refine Qg e λr e1 e=>?_;refine⟨U,hs,F,r,rel,e1,λv H1 G p=>?_⟩;have rp:=p.rp;cases hr:r.d with
 | int i=>
  rw[hr]at e rp;cases e;exact⟨i,rp.int_inv,q H1 p.same⟩
 | _=>rw[hr]at e;cases e
noncomputable def cutD(xs:List D)(lo hi:Option Int):List D:=(xs.drop (HT.sIx xs.length 0 lo)).take (HT.sIx xs.length xs.length hi-HT.sIx xs.length 0 lo)
noncomputable def Qdp(fa:DE)(lo hi:DO):DE:=λU=>(fa U).bind λra=>(lo U).bind λl=>(hi U).bind λh=>match ra.d with
 | .lst xs=>some (Qbv (cutD xs l h) ra.M)
 | _=>none
theorem Rps.drop:∀{ds:List D}{vs:List V}{F:LAd}{K:Fgg}{H:Hp}(n:Nat),Rps K H ds vs F->∃G,Rps K H (ds.drop n) (vs.drop n) G/\∀a∈G,a∈F
 | [],vs,F,K,H,n,h=>by simp only[Rps]at h;rw[h.1,h.2];exact⟨[],by simp[Rps],λ_ h=>h⟩
 | d::ds,vs,F,K,H,0,h=>⟨F,by simpa using h,λ_ h=>h⟩
 | d::ds,vs,F,K,H,n+1,h=>by
  simp only[Rps]at h;obtain⟨v,ws,F1,F2,e,eF,r,q⟩:=h;subst e eF;obtain⟨G,h1,h2⟩:=Rps.drop n q;exact⟨G,by simpa using h1,λa ha=>Ze _ (h2 a ha)⟩
theorem Rps.take:∀{ds:List D}{vs:List V}{F:LAd}{K:Fgg}{H:Hp}(n:Nat),Rps K H ds vs F->∃G,Rps K H (ds.take n) (vs.take n) G/\∀a∈G,a∈F
 | [],vs,F,K,H,n,h=>by simp only[Rps]at h;rw[h.1,h.2];exact⟨[],by simp[Rps],λ_ h=>h⟩
 | d::ds,vs,F,K,H,0,h=>⟨[],by simp[Rps],λ_ h=>by simp at h⟩
 | d::ds,vs,F,K,H,n+1,h=>by
  simp only[Rps]at h;obtain⟨v,ws,F1,F2,e,eF,r,q⟩:=h;subst e eF;obtain⟨G,h1,h2⟩:=Rps.take n q;refine⟨F1++G,?_,λa ha=>?_⟩
  ·simp only[List.take_succ_cons,Rps];exact⟨v,_,F1,G,rfl,rfl,r,h1⟩
  ·rcases ZF.mp ha with h | h
   ·exact Zf _ h
   ·exact Ze _ (h2 a h)
theorem QBh{lo hi:Option Expr}{fl fh:DO}{p2:Pos}(ha:SE X a fa)(hl:SO X lo fl)(hh:SO X hi fh):SE X (.Subscript a (.Slice lo hi none p2) pos) (Qdp fa fl fh):=λH0 A0=>
 (Qv9 Qye (ha H0 A0) (hl H0 A0) (hh H0 A0)).mono λσ H Q=>exK λU hs F r' rel e q=>by
  refine Qg e λra e1 e=>?_;refine Qg e λl e2 e=>?_;refine Qg e λh e3 e=>?_;refine⟨U,hs,F,ra,rel,e1,λx H1 G1 p1=>⟨U,hs,F,l,rel.ext p1.same,e2,λH2 s2=>⟨U,hs,F,h,(rel.ext p1.same).ext s2,e3,λH3 s3=>?_⟩⟩⟩;have rp:=p1.rp.same (s2.trans s3);cases hra:ra.d with
  | lst xs=>
   rw[hra]at e rp;cases e;obtain⟨c,vs,L,rfl,hc,rl,zl,el⟩:=rp.lst_inv;refine⟨c,vs,rfl,QZ hc,λp hp=>?_⟩;obtain⟨G2,h2,m2⟩:=rl.drop (HT.sIx xs.length 0 l);obtain⟨G3,h3,m3⟩:=h2.take (HT.sIx xs.length xs.length h-HT.sIx xs.length 0 l);have n1:=rl.length;rw[show Qm6 vs l h=(vs.drop (HT.sIx xs.length 0 l)).take (HT.sIx xs.length xs.length h-HT.sIx xs.length 0 l) by unfold Qm6;rw[n1]];refine q _ _ (p::G3) (Qaf.Qbv (p1.same.trans (s2.trans s3)) hp h3 ?_ (λz hz=>p1.src z ?_) p1.own)
   ·unfold cutD;rw[ZbP,List.length_drop];omega
   ·have:=m2 z (m3 z hz);rcases el with rfl | rfl
    ·exact Zc _ this
    ·exact this
  | _=>rw[hra]at e;cases e
noncomputable def dBf(g:List D->Option D)(fs:DA):DE:=λU=>(fs U).bind λr=>(g r.ds).map λd=>⟨d,true,[]⟩
def Qe6(K:Fgg)(g:List D->Option D)(r:List V->Hp->VK->Prop):Prop:=∀ds d,g ds=some d->d.flat=true/\∀H vs F (Q:VK),Rps K H ds vs F->(∀v,(∀H',Rp K H' d v [])->Q v H)->r vs H Q
theorem Qie{x:Str}{id:String}{g:List D->Option D}{r:List V->Hp->VK->Prop}{p:Pos}(hc:QcT X (.builtin id) r)(hk:Qe6 X.K g r)(hg:Gl X x)(hm:X.mg x=none)(hv:bootBuiltins x=some (.builtin id))(ha:SA X (e::es) fs)(hn:x≠ "__name__")(hdb:(x == ("__debug__" :Str))=false)
  (he:starEach (e::es) X.env=(false,eval e X.env)::starEach es X.env) (hpl:(backTo pos (starEach es X.env)).any (·.1)=false):SE X (.Call (.Name x p) (e::es) [] pos) (dBf g fs):=λH0 A0=>
 (QkG hc hg hm hv (ha H0 A0) hn hdb he hpl).mono λσ H Q=>exK λU hs F r' rel e q=>by
  refine Qg e λra e1 e=>?_;obtain⟨d,ed,e⟩:=Zh.mp e;subst e;exact⟨U,hs,F,ra,rel,e1,λvs H1 G p1=>(hk _ _ ed).2 H1 vs G Q p1.rp λv hv=>q v H1 [] (.flat p1.same (hv _) (hk _ _ ed).1)⟩
theorem Rps.one{K:Fgg}{H:Hp}{d:D}{vs:List V}{F:LAd}(h:Rps K H [d] vs F):∃v,vs=[v]/\Rp K H d v F:=by
 simp only[Rps]at h;obtain⟨v,ws,F1,F2,rfl,rfl,r,rfl,rfl⟩:=h;exact⟨v,rfl,by simpa using r⟩
theorem Rps.two{K:Fgg}{H:Hp}{d e:D}{vs:List V}{F:LAd}(h:Rps K H [d,e] vs F):∃v w F1 F2,vs=[v,w]/\Rp K H d v F1/\Rp K H e w F2:=by
 simp only[Rps]at h;obtain⟨v,ws,F1,F2,rfl,rfl,r,w,ws',F3,F4,rfl,rfl,r2,rfl,rfl⟩:=h;exact⟨v,w,F1,F3,rfl,r,r2⟩
noncomputable def Qa3:List D->Option D
 | [.lst xs]=>some (.int xs.length)
 | [.tup xs]=>some (.int xs.length)
 | _=>none
theorem QA5{K:Fgg}:Qe6 K Qa3 (λxs H Q=>∃p ys,xs=[.ref p]/\(SqL K H p ys∨SqT K H p ys)/\Q (.int ys.length) H):=λds d e=>by
 unfold Qa3 at e;split at e
 ·cases e;refine⟨rfl,λH vs F Q r q=>?_⟩;obtain⟨v,rfl,rp⟩:=r.one;obtain⟨l,ws,L,rfl,hl,rl,zl,el⟩:=rp.lst_inv;exact⟨l,ws,rfl,.inl (QZ hl),by rw[← rl.length];exact q _ λ_=> .int_mk⟩
 ·cases e;refine⟨rfl,λH vs F Q r q=>?_⟩;obtain⟨v,rfl,rp⟩:=r.one;obtain⟨l,ws,rfl,hl,rl⟩:=rp.Qbn;exact⟨l,ws,rfl,.inr hl,by rw[← rl.length];exact q _ λ_=> .int_mk⟩
 ·cases e
noncomputable def QlF:List D->Option D
 | [.int i,.int j]=>some (.int (if j<i then j else i))
 | _=>none
noncomputable def Qmo:List D->Option D
 | [.int i,.int j]=>some (.int (if j>i then j else i))
 | _=>none
noncomputable def Qi6:List D->Option D
 | [.int i]=>some (.int (if i<0 then-i else i))
 | _=>none
theorem Qyv{K:Fgg}:Qe6 K QlF (λxs H Q=>∃i j,xs=[.int i,.int j]/\Q (.int (if j<i then j else i)) H):=λds d e=>by
 unfold QlF at e;split at e
 ·cases e;refine⟨rfl,λH vs F Q r q=>?_⟩;obtain⟨v,w,F1,F2,rfl,r1,r2⟩:=r.two;exact⟨_,_,by rw[r1.int_inv,r2.int_inv],q _ λ_=> .int_mk⟩
 ·cases e
theorem QyW{K:Fgg}:Qe6 K Qmo (λxs H Q=>∃i j,xs=[.int i,.int j]/\Q (.int (if j>i then j else i)) H):=λds d e=>by
 unfold Qmo at e;split at e
 ·cases e;refine⟨rfl,λH vs F Q r q=>?_⟩;obtain⟨v,w,F1,F2,rfl,r1,r2⟩:=r.two;exact⟨_,_,by rw[r1.int_inv,r2.int_inv],q _ λ_=> .int_mk⟩
 ·cases e
theorem QAc{K:Fgg}:Qe6 K Qi6 (λxs H Q=>∃i,xs=[.int i]/\Q (.int (if i<0 then-i else i)) H):=λds d e=>by
 unfold Qi6 at e;split at e
 ·cases e;refine⟨rfl,λH vs F Q r q=>?_⟩;obtain⟨v,rfl,r1⟩:=r.one;exact⟨_,by rw[r1.int_inv],q _ λ_=> .int_mk⟩
 ·cases e
noncomputable def dList(fs:DA):DE:=λU=>(fs U).bind λr=>match r.ds with
 | [.lst xs]=>some (Qbv xs r.M)
 | [.tup xs]=>if xs.length<=sizeLine then some (Qbv xs r.M)else none
 | _=>none
theorem QxS{p:Pos}(hg:Gl X "list")(hm:X.mg "list" =none)(ha:SA X (e::es) fs)(he:starEach (e::es) X.env=(false,eval e X.env)::starEach es X.env)(hpl:(backTo pos (starEach es X.env)).any (·.1)=false):
  SE X (.Call (.Name "list" p) (e::es) [] pos) (dList fs):=λH0 A0=>
 (Qjk QiY hg hm Zbp (ha H0 A0) (by decide) (by decide) he hpl).mono λσ H Q=>exK λU hs F r' rel e q=>by
  refine Qg e λra e1 e=>?_;refine⟨U,hs,F,ra,rel,e1,λvs H1 G p1=>?_⟩;have rp:=p1.rp;have src:=p1.src;split at e
  ·rename_i xs hds;cases e;rw[hds]at rp;obtain⟨v,rfl,rq⟩:=rp.one;obtain⟨l,ws,L,rfl,hl,rl,zl,el⟩:=rq.lst_inv;refine⟨l,ws,rfl,.inl (QZ hl),λc hc=>q _ _ (c::L) (Qaf.Qbv p1.same hc rl zl (λz hz=>src z ?_) p1.own)⟩;rcases el with rfl | rfl
   ·exact Zc _ hz
   ·exact hz
  ·rename_i xs hds;split at e
   ·rename_i hz;cases e;rw[hds]at rp;obtain⟨v,rfl,rq⟩:=rp.one;obtain⟨l,ws,rfl,hl,rl⟩:=rq.Qbn;exact⟨l,ws,rfl,.inr hl,λc hc=>q _ _ (c::G) (Qaf.Qbv p1.same hc rl hz src p1.own)⟩
   ·cases e
  ·cases e
end
mutual
noncomputable def D.py:D->PyData
 | .non=> .none
 | .bl b=> .bool b
 | .int i=> .int i
 | .str x=> .str x
 | .tup xs=> .tuple (pys xs)
 | .lst xs=> .list (pys xs)
 | .exc _=> .none
noncomputable def pys:List D->List PyData
 | []=>[]
 | d::ds=>d.py::pys ds
end
noncomputable def D.sim:Nat->D->Bool
 | _,.non=>true
 | _,.bl _=>true
 | _,.int _=>true
 | _,.str x=>PyData.canLay0 (.str x)
 | 0,.tup xs=>xs.isEmpty
 | 0,.lst xs=>xs.isEmpty
 | n+1,.tup xs=>xs.all (D.sim n)
 | n+1,.lst xs=>xs.all (D.sim n)
 | _,.exc _=>false
theorem Qgk:∀{ds:List D},(∀d∈ds,d.py.canLay0=true)->PyData.canLayAll0 (pys ds)=true
 | [],_=>rfl
 | d::ds,h=>by
  simp only[pys,PyData.canLayAll0,Zm];exact⟨h d Zl,Qgk λe he=>h e (Zc _ he)⟩
theorem Qhc:∀{ds:List D},(∀d∈ds,d.py.depth<=n)->PyData.depthAll (pys ds)<=n
 | [],_=>Zab _
 | d::ds,h=>by
  simp only[pys,PyData.depthAll];exact Nat.max_le.mpr ⟨h d Zl,Qhc λe he=>h e (Zc _ he)⟩
theorem Qef:∀(n:Nat) (d:D),d.sim n=true->d.py.canLay0=true/\d.py.depth<=n+1
 | n,.exc _,h=>by cases n<;>cases h
 | n,.non,_=>by simp[D.py,PyData.canLay0,PyData.depth]
 | n,.bl _,_=>by simp[D.py,PyData.canLay0,PyData.depth]
 | n,.int _,_=>by simp[D.py,PyData.canLay0,PyData.depth]
 | n,.str x,h=>by
  simp only[D.py,PyData.depth];refine⟨?_,Zab _⟩;cases n<;>exact h
 | 0,.tup xs,h=>by
  have:xs=[]:=by simpa[D.sim]using h
  subst this;simp[D.py,pys,PyData.canLay0,PyData.canLayAll0,PyData.depth,PyData.depthAll]
 | 0,.lst xs,h=>by
  have:xs=[]:=by simpa[D.sim]using h
  subst this;simp[D.py,pys,PyData.canLay0,PyData.canLayAll0,PyData.depth,PyData.depthAll]
 | n+1,.tup xs,h=>by
  simp only[D.sim,ZaK]at h;simp only[D.py,PyData.canLay0,PyData.depth];exact⟨Qgk λd hd=>(Qef n d (h d hd)).1,ZbB (Qhc λd hd=>(Qef n d (h d hd)).2) 1⟩
 | n+1,.lst xs,h=>by
  simp only[D.sim,ZaK]at h;simp only[D.py,PyData.canLay0,PyData.depth];exact⟨Qgk λd hd=>(Qef n d (h d hd)).1,ZbB (Qhc λd hd=>(Qef n d (h d hd)).2) 1⟩
noncomputable def deq(a b:D):Bool:=PyData.eqv a.py b.py
theorem Qo0(h:d.sim n=true):deq d d=true:=SeqAt.eqv_refl _ (Qef n d h).1
mutual
noncomputable def D.noX:D->Bool
 | .exc _=>false
 | .tup xs=>Qld xs
 | .lst xs=>Qld xs
 | .non=>true
 | .bl _=>true
 | .int _=>true
 | .str _=>true
noncomputable def Qld:List D->Bool
 | []=>true
 | d::ds=>d.noX && Qld ds
end
theorem Qm8:∀{ds:List D},(∀d∈ds,d.noX=true)->Qld ds=true
 | [],_=>rfl
 | d::ds,h=>by
  simp only[Qld,Zm];exact⟨h d Zl,Qm8 λe he=>h e (Zc _ he)⟩
theorem QfM:∀(n:Nat) (d:D),d.sim n=true->d.noX=true
 | n,.exc _,h=>by cases n<;>cases h
 | n,.non,_=>rfl
 | n,.bl _,_=>rfl
 | n,.int _,_=>rfl
 | n,.str x,_=>rfl
 | 0,.tup xs,h=>by
  have:xs=[]:=by simpa[D.sim]using h
  subst this;rfl
 | 0,.lst xs,h=>by
  have:xs=[]:=by simpa[D.sim]using h
  subst this;rfl
 | n+1,.tup xs,h=>by
  simp only[D.sim,ZaK]at h;simp only[D.noX];exact Qm8 λd hd=>QfM n d (h d hd)
 | n+1,.lst xs,h=>by
  simp only[D.sim,ZaK]at h;simp only[D.noX];exact Qm8 λd hd=>QfM n d (h d hd)
section
variable {X:Cx}{pins:List (Addr×Obj)}{σ:L2.St}{H:Hp}{s:Shared}
mutual
theorem Rp.reads(I:Inv X pins σ H s):∀{d:D}{v:V}{F:LAd}{u:Value},d.noX=true->Rp X.K H d v F->RelV v u->∃as,Reads s.heap u d.py as
 | .exc _,v,_,u,hx,h,r=>by cases hx
 | .non,v,_,u,hx,h,r=>by
  rw[h.Qni]at r;cases(show u=Value.none from r);exact⟨_,.none⟩
 | .bl b,v,_,u,hx,h,r=>by
  rw[h.Qjp]at r;cases(show u=Value.bool b from r);exact⟨_,.bool b⟩
 | .int i,v,_,u,hx,h,r=>by
  rw[h.int_inv]at r;obtain⟨t,rfl⟩:=(show ∃t,u=Value.int i t from r);exact⟨_,.int i t⟩
 | .str i,v,_,u,hx,h,r=>by
  rw[h.str_inv]at r;obtain⟨t,rfl⟩:=(show ∃t,u=Value.str i t from r);exact⟨_,.str i t⟩
 | .tup ds,v,_,u,hx,h,r=>by
  obtain⟨a,vs,rfl,hq,rs⟩:=h.Qbn;cases(show u=Value.ref a from r);obtain⟨its,rv,⟨o,h1,h2,n,h3⟩,_⟩:=I.tuple hq;obtain⟨as,ra⟩:=Rps.reads I (by simpa only[D.noX]using hx) rs rv;exact⟨_,.tuple h1 h2 h3 (by simpa using ra)⟩
 | .lst ds,v,_,u,hx,h,r=>by
  simp only[Rp]at h;obtain⟨hz,a,vs,rfl,h⟩:=h;have key:∃G,(H a=some (.lst vs)∨Fix X.K H a vs)/\Rps X.K H ds vs G:=by
   rcases h with⟨G,_,q,rs⟩ | ⟨q,rs⟩
   ·exact⟨G,.inl q,rs⟩
   ·exact⟨_,.inr q,rs⟩
  obtain⟨G,hq,rs⟩:=key;cases(show u=Value.ref a from r);obtain⟨_,its,n,rv,_,e⟩:=I.Qqb hq;obtain⟨as,ra⟩:=Rps.reads I (by simpa only[D.noX]using hx) rs rv;exact⟨_,.list e rfl rfl (by simpa using ra)⟩
theorem Rps.reads(I:Inv X pins σ H s):∀{ds:List D}{vs:List V}{F:LAd}{us:List Value},Qld ds=true->Rps X.K H ds vs F->QM vs us->∃as,ReadsAll s.heap us (pys ds) as
 | [],vs,_,us,_,h,r=>by
  simp only[Rps]at h;rw[h.1]at r;cases r;exact⟨_,.nil⟩
 | d::ds,vs,_,us,hx,h,r=>by
  simp only[Qld,Zm]at hx;simp only[Rps]at h;obtain⟨v,ws,F1,F2,rfl,rfl,h1,h2⟩:=h;cases r with
  | cons r rr=>
   obtain⟨as,ra⟩:=Rp.reads I hx.1 h1 r;obtain⟨bs,rb⟩:=Rps.reads I hx.2 h2 rr;exact⟨_,.cons ra rb⟩
end
end
noncomputable def gEq(a b:D):Option D:=if a.sim 8 && b.sim 8 then some (.bl (deq a b))else none
noncomputable def gNe(a b:D):Option D:=if a.sim 8 && b.sim 8 then some (.bl (!deq a b))else none
noncomputable def Qz0(K:Fgg):R2:=λx y H Q=>∃a b F G,Rp K H a x F/\Rp K H b y G/\a.sim 8=true/\b.sim 8=true/\Q (.bl (deq a b)) H
noncomputable def QBu(K:Fgg):R2:=λx y H Q=>∃a b F G,Rp K H a x F/\Rp K H b y G/\a.sim 8=true/\b.sim 8=true/\Q (.bl (!deq a b)) H
section
variable {X:Cx}
theorem Qs9(hu:X.A.units+64<cLine):OpR X (compareOp .Eq) (Qz0 X.K):=by
 intro pins s σ H x y v u Q I rx ry h;obtain⟨a,b,F,G,ha,hb,sa,sb,q⟩:=h;obtain⟨as,ra⟩:=Rp.reads I (QfM 8 _ sa) ha rx;obtain⟨bs,rb⟩:=Rp.reads I (QfM 8 _ sb) hb ry;have h1:=Qef 8 a sa;have h2:=Qef 8 b sb;exact SeqAt.compareEq_reads ra rb h1.1 h2.1 (by have:=Nat.min_le_left a.py.depth b.py.depth;omega) ⟨.bl _,H,I,rfl,q⟩
theorem Qub(hu:X.A.units+64<cLine):OpR X (compareOp .NotEq) (QBu X.K):=by
 intro pins s σ H x y v u Q I rx ry h;obtain⟨a,b,F,G,ha,hb,sa,sb,q⟩:=h;obtain⟨as,ra⟩:=Rp.reads I (QfM 8 _ sa) ha rx;obtain⟨bs,rb⟩:=Rp.reads I (QfM 8 _ sb) hb ry;have h1:=Qef 8 a sa;have h2:=Qef 8 b sb;exact SeqAt.compareNe_reads ra rb h1.1 h2.1 (by have:=Nat.min_le_left a.py.depth b.py.depth;omega) ⟨.bl _,H,I,rfl,q⟩
theorem Qxn:QcS K gEq (Qz0 K):=λa b d e=>by
 unfold gEq at e;split at e
 ·rename_i h;simp only[Zm]at h;cases e;exact⟨rfl,λH x y F G Q ha hb q=>⟨a,b,F,G,ha,hb,h.1,h.2,q _ λ_=> .Qec⟩⟩
 ·cases e
theorem Qxt:QcS K gNe (QBu K):=λa b d e=>by
 unfold gNe at e;split at e
 ·rename_i h;simp only[Zm]at h;cases e;exact⟨rfl,λH x y F G Q ha hb q=>⟨a,b,F,G,ha,hb,h.1,h.2,q _ λ_=> .Qec⟩⟩
 ·cases e
noncomputable def D.tyN:D->String
 | .non=> "NoneType" | .bl _=> "bool" | .int _=> "int" | .str _=> "str" | .tup _=> "tuple" | .lst _=> "list" | .exc _=> "?"
noncomputable def D.isE:D->Bool
 | .exc _=>true
 | _=>false
noncomputable def D.isa(T:String)(d:D):Option Bool:=if(T == "int" || T == "bool" || T == "list" || T == "tuple" || T == "str") && !d.isE then some (d.tyN == T || (d.tyN == "bool" && T == "int"))else none
theorem Qz7(I:Inv X pins σ H s)(rp:Rp X.K H d v F)(rx:RelV v u)(e:d.isa T=some b)(h:∀tk,Q (.bool b) {s with toks:=tk}):
  wpAny (model X.prog X.w) A (call (.builtin "isinstance") [u,.type T]) Q E s:=by
 have kit:PySem.W.kitOne X.K (.type d.tyN) (.type T)=some b:=by
  unfold D.isa at e;split at e
  ·rename_i hT;cases e;simp only[Zm,Zce,beq_iff_eq]at hT;obtain⟨hT,hE⟩:=hT;rcases hT with(((rfl | rfl) | rfl) | rfl) | rfl<;>cases d<;>first | rfl | (cases hE)
  ·cases e
 cases d with
 | exc x=>unfold D.isa at e;split at e;(rename_i hT;exfalso;simp only[Zm]at hT;exact nomatch hT.2);cases e
 | non=>rw[rp.Qni]at rx;cases(show u=Value.none from rx);exact ZaQ PySem.W.kitx_none I.kIn True.intro kit (λz=>nomatch z) h
 | bl y=>rw[rp.Qjp]at rx;cases(show u=Value.bool y from rx);exact ZaQ PySem.W.kitx_bool I.kIn True.intro kit (λz=>nomatch z) h
 | int i=>rw[rp.int_inv]at rx;obtain⟨t,q⟩:=(show ∃t,u=Value.int i t from rx);cases q;exact ZaQ PySem.W.kitx_int I.kIn True.intro kit (λz=>nomatch z) h
 | str y=>rw[rp.str_inv]at rx;obtain⟨t,q⟩:=(show ∃t,u=Value.str y t from rx);cases q;exact ZaQ PySem.W.kitx_str I.kIn True.intro kit (λz=>nomatch z) h
 | tup ds=>
  obtain⟨a,vs,rfl,hq,_⟩:=rp.Qbn;cases(show u=Value.ref a from rx);obtain⟨its,rv,⟨o,h1,h2,n,h3⟩,_⟩:=I.tuple hq;exact ZaQ PySem.W.kitx_tuple I.kIn ⟨o,h1,h2⟩ kit (λz=>nomatch z) h
 | lst ds=>
  obtain⟨a,vs,G,rfl,hq,_⟩:=rp.lst_inv;cases(show u=Value.ref a from rx);obtain⟨_,its,n,rv,_,e1⟩:=I.Qqb hq;exact ZaQ PySem.W.kitx_list I.kIn ⟨_,e1,rfl⟩ kit (λz=>nomatch z) h
noncomputable def QDe(K:Fgg):List V->Hp->VK->Prop:=λxs H Q=>∃x T d F b,xs=[x,.ty T]/\Rp K H d x F/\d.isa T=some b/\Q (.bl b) H
theorem Qvc:QcT X (.builtin "isinstance") (QDe X.K):=by
 intro pins s σ H xs us Q I r h;obtain⟨x,T,d,F,b,rfl,rp,e,q⟩:=h;obtain⟨u,w,rfl,ru,rw'⟩:=vals2 r;cases(show w=Value.type T from rw');exact Qz7 I rp ru e λtk=>⟨.bl b,H,I.tok _,rfl,q⟩
noncomputable def QwC(T:String)(fa:DE):DE:=λU=>(fa U).bind λr=>(r.d.isa T).map λb=>⟨.bl b,true,[]⟩
theorem QAt(hg:Gl X "isinstance")(hm:X.mg "isinstance" =none)(ha:SE X a fa)(hT:PE X (.Name x p2) (tC (.ty T)))
  (he:starEach [a,.Name x p2] X.env=(false,eval a X.env)::starEach [.Name x p2] X.env):SE X (.Call (.Name "isinstance" p) [a,.Name x p2] [] pos) (QwC T fa):=λH0 A0=>
 (QkG Qvc hg hm ZbF (Qap (ha H0 A0) (Qap hT Qc1) he) (by decide) (by decide) he (by rfl)).mono λσ H Q=>exK λU hs F r' rel e q=>by
  refine Qg e λr e1 e=>?_;obtain⟨b,eb,e⟩:=Zh.mp e;subst e;exact⟨U,hs,F,r,rel,e1,λv H1 G p=>⟨v,T,r.d,G,b,rfl,p.rp,eb,q _ H1 [] (.flat p.same .Qec)⟩⟩
noncomputable def D.tru:D->Option Bool
 | .non=>some false
 | .bl b=>some b
 | .int i=>some (i != 0)
 | .lst xs=>some (!xs.isEmpty)
 | .tup xs=>some (!xs.isEmpty)
 | .str _=>none
 | .exc _=>none
theorem Qoy(h:Rp K H d v F)(e:d.tru=some b):Qw2 K v H b:=by
 have emp:∀{ds:List D}{vs:List V}{G:LAd},Rps K H ds vs G->(!ds.isEmpty)= !vs.isEmpty:=λ{ds vs G} r=>by
  have:=r.length;cases ds<;>cases vs<;>simp_all
 cases d with
 | non=>rw[h.Qni];cases e;exact rfl
 | bl c=>rw[h.Qjp];cases e;exact rfl
 | int i=>rw[h.int_inv];cases e;exact rfl
 | str i=>cases e
 | exc i=>cases e
 | tup ds=>cases e;obtain⟨a,vs,rfl,hq,r⟩:=h.Qbn;exact .inr (.inl ⟨vs,hq,emp r⟩)
 | lst ds=>cases e;obtain⟨a,vs,G,rfl,hq,r,_⟩:=h.lst_inv;exact .inl ⟨vs,QZ hq,emp r⟩
noncomputable def QF(fa:DE):DT:=λU=>(fa U).bind λr=>r.d.tru
noncomputable def Qih(f g:DT):DT:=λU=>(f U).bind λb=>if b=true then g U else some false
noncomputable def bOr(f g:DT):DT:=λU=>(f U).bind λb=>if b=true then some true else g U
noncomputable def Qdo(f:DT):DT:=λU=>(f U).bind λb=>some (!b)
def SW(X:Cx)(e:Expr)(f:DT):Prop:=∀H0 A0,PW X e (tVT X.K H0 A0 f)
theorem _root_.L2.PW.mono(h:PW X e t)(m:∀σ H Q,t' σ H Q->t σ H Q):PW X e t':=λwh pins s σ H Q I q=>h wh pins s σ H Q I (m σ H Q q)
variable {a b e:Expr}{fa fb:DE}{ga gb gc:DT}{pos:Pos}{rest:List Expr}
theorem QA9(ha:SE X a fa)(he:∀whole,isTrue a X.env whole=(do let v ← whole;standAt a.pos;holding [v] (truthy v))):ST X a (QF fa):=λH0 A0=>
 (QvP (ha H0 A0) he).mono λσ H Q=>exK λU hs F b rel e q=>by
  refine Qg e λr e1 e=>?_;exact⟨U,hs,F,r,rel,e1,λv H1 G p=>⟨b,Qoy p.rp e,q H1 p.same⟩⟩
theorem QzU(ho:OpR X (compareOp op) r)(hg:QcS X.K g r)(hbl:∀a b d,g a b=some d->∃k,d= .bl k)(ha:SE X a fa)(hb:SE X b fb)(hm:behindInMarks op b=false):ST X (.Compare a [op] [b] pos) (QF (dOp g fa fb)):=λH0 A0=>
 (Qym ho (ha H0 A0) (hb H0 A0) hm).mono λσ H Q=>exK λU hs F k rel e q=>by
  refine Qg e λr' e0 e=>?_;obtain⟨ra,rb,d,ea,eb,eg,rfl⟩:=QmJ e0;obtain⟨k',rfl⟩:=hbl _ _ _ eg;cases e;refine two rel ea eb λx y H1 H2 G1 G2 p1 p2=>(hg _ _ _ eg).2 H2 x y G1 G2 _ (p1.rp.same p2.same) p2.rp λv hv=>?_;exact⟨_,(hv H2).Qjp,q H2 (p1.same.trans p2.same)⟩
theorem QAy(ha:ST X a ga):ST X (.UnaryOp .Not a pos) (Qdo ga):=λH0 A0=>
 (QAn (ha H0 A0)).mono λσ H Q=>exK λU hs F b rel e q=>by
  refine Qg e λc e1 e=>?_;cases e;exact⟨U,hs,F,c,rel,e1,λH1 s1=>q H1 s1⟩
theorem QxP(ha:ST X a ga):SW X (.BoolOp .And [a] pos) ga:=λH0 A0=>Qyf (ha H0 A0)
theorem QzK(ha:ST X a ga):SW X (.BoolOp .Or [a] pos) ga:=λH0 A0=>QBk (ha H0 A0)
theorem QAm(ha:ST X a ga)(hb:SW X (.BoolOp .And (b::rest) pos) gb):SW X (.BoolOp .And (a::b::rest) pos) (Qih ga gb):=λH0 A0=>
 (QzJ (ha H0 A0) (hb H0 A0)).mono λσ H Q=>exK λU hs F c rel e q=>by
  refine Qg e λd e1 e=>?_;refine⟨U,hs,F,d,rel,e1,λH1 s1=>?_⟩;cases d with
  | true=>exact⟨U,hs,F,c,rel.ext s1,e,λH2 s2=>q H2 (s1.trans s2)⟩
  | false=>cases e;exact q H1 s1
theorem QB2(ha:ST X a ga)(hb:SW X (.BoolOp .Or (b::rest) pos) gb):SW X (.BoolOp .Or (a::b::rest) pos) (bOr ga gb):=λH0 A0=>
 (QCD (ha H0 A0) (hb H0 A0)).mono λσ H Q=>exK λU hs F c rel e q=>by
  refine Qg e λd e1 e=>?_;refine⟨U,hs,F,d,rel,e1,λH1 s1=>?_⟩;cases d with
  | true=>cases e;exact q H1 s1
  | false=>exact⟨U,hs,F,c,rel.ext s1,e,λH2 s2=>q H2 (s1.trans s2)⟩
theorem SW.st(h:SW X e ga):ST X e ga:=λH0 A0=>(h H0 A0).pt
noncomputable def QcY(fa fb:DE):DE:=λU=>(fa U).bind λra=>(ra.d.tru).bind λb=>if b=true then fb U else some ra
noncomputable def dOr(fa fb:DE):DE:=λU=>(fa U).bind λra=>(ra.d.tru).bind λb=>if b=true then some ra else fb U
noncomputable def QmX(fa:DE):DE:=λU=>(fa U).bind λra=>(ra.d.tru).bind λb=>some ⟨.bl (!b),true,[]⟩
noncomputable def dIf(g:DT)(fa fb:DE):DE:=λU=>(g U).bind λb=>if b=true then fa U else fb U
theorem QpF{op}(h:SE X a fa):SE X (.BoolOp op [a] pos) fa:=λH0 A0=>QA0 (h H0 A0)
theorem Qaf.ext(s:QS H H1)(p:Qaf K U F H1 H2 r v G)(rel:Rel K H0 A0 hs U F σ H):Qaf K U F H H2 r v G where
 same:=s.trans p.same
 rp:=p.rp
 src:=λa ha=>(p.src a ha).elim (λz=> .inl (s.free z)) .inr
 cnt:=λh=>⟨λa=>Zo ((p.cnt h).1 a) (ZbB (by
  cases q:H1 a with
  | none=>rw[QbL q,QbL (s.free q)];exact Zj _
  | some o=>rw[Qdh q];exact Zab _) _),(p.cnt h).2⟩
 own:=p.own
theorem QuL(ha:SE X a fa)(hb:SE X (.BoolOp .And (b::rest) pos) fb):SE X (.BoolOp .And (a::b::rest) pos) (QcY fa fb):=λH0 A0=>by
 intro pins s σ H Q I ⟨U,hs,F,r,rel,e,q⟩;refine Qg e λra e1 e=>?_;refine Qg e λc e2 e=>?_;refine PyProof.Rows.BoolOp_and (thn (ha H0 A0 pins s σ H _ I ⟨U,hs,F,ra,rel,e1,λv H' G p=>(⟨G,p⟩:∃G,Qaf X.K U F H H' ra v G)⟩) λv s1 Z=>?_);obtain⟨x,H1,I1,r1,G,p⟩:=Z;refine thn (Ql5 pins s1 σ H1 x v (λk H2=>k=c/\H2=H1) I1 r1 ⟨c,Qoy p.rp e2,rfl,rfl⟩) λk s2 Z=>?_;obtain⟨H2,I2,e3,e4⟩:=Z;subst e3 e4;cases k with
 | true=>exact hb H0 A0 pins s2 σ _ Q I2 ⟨U,hs,F,r,rel.ext p.same,e,λw H3 G3 p3=>q w H3 G3 (p3.ext p.same rel)⟩
 | false=>cases e;exact⟨x,_,I2,r1,q x _ G p⟩
theorem QCg(ha:SE X a fa)(hb:SE X (.BoolOp .Or (b::rest) pos) fb):SE X (.BoolOp .Or (a::b::rest) pos) (dOr fa fb):=λH0 A0=>by
 intro pins s σ H Q I ⟨U,hs,F,r,rel,e,q⟩;refine Qg e λra e1 e=>?_;refine Qg e λc e2 e=>?_;refine PyProof.Rows.BoolOp_or (thn (ha H0 A0 pins s σ H _ I ⟨U,hs,F,ra,rel,e1,λv H' G p=>(⟨G,p⟩:∃G,Qaf X.K U F H H' ra v G)⟩) λv s1 Z=>?_);obtain⟨x,H1,I1,r1,G,p⟩:=Z;refine thn (Ql5 pins s1 σ H1 x v (λk H2=>k=c/\H2=H1) I1 r1 ⟨c,Qoy p.rp e2,rfl,rfl⟩) λk s2 Z=>?_;obtain⟨H2,I2,e3,e4⟩:=Z;subst e3 e4;cases k with
 | false=>exact hb H0 A0 pins s2 σ _ Q I2 ⟨U,hs,F,r,rel.ext p.same,e,λw H3 G3 p3=>q w H3 G3 (p3.ext p.same rel)⟩
 | true=>cases e;exact⟨x,_,I2,r1,q x _ G p⟩
theorem Qtf(ha:SE X a fa):SE X (.UnaryOp .Not a pos) (QmX fa):=λH0 A0=>by
 intro pins s σ H Q I ⟨U,hs,F,r,rel,e,q⟩;refine Qg e λra e1 e=>?_;refine Qg e λc e2 e=>?_;cases e;refine PyProof.Rows.UnaryOp_ (thn (ha H0 A0 pins s σ H _ I ⟨U,hs,F,ra,rel,e1,λv H' G p=>(⟨G,p⟩:∃G,Qaf X.K U F H H' ra v G)⟩) λv s1 Z=>?_);obtain⟨x,H1,I1,r1,G,p⟩:=Z;refine PyProof.Rows.not_of (thn (Ql5 pins s1 σ H1 x v (λk H2=>k=c/\H2=H1) I1 r1 ⟨c,Qoy p.rp e2,rfl,rfl⟩) λk s2 Z=>?_);obtain⟨H2,I2,e3,e4⟩:=Z;subst e3 e4;exact⟨.bl (!k),_,I2,rfl,q _ _ [] (.flat p.same .Qec)⟩
theorem QCk(hc:ST X c gc)(ha:SE X a fa)(hb:SE X b fb):SE X (.IfExp c a b pos) (dIf gc fa fb):=λH0 A0=>
 (Qv5 (hc H0 A0) (ha H0 A0) (hb H0 A0)).mono λσ H Q=>exK λU hs F r rel e q=>by
  refine Qg e λc e1 e=>?_;refine⟨U,hs,F,c,rel,e1,λH1 s1=>?_⟩;cases c with
  | true=>exact⟨U,hs,F,r,rel.ext s1,e,λv H2 G p=>q v H2 G (p.ext s1 rel)⟩
  | false=>exact⟨U,hs,F,r,rel.ext s1,e,λv H2 G p=>q v H2 G (p.ext s1 rel)⟩
noncomputable def Qii(fa:DE):DE:=λU=>(fa U).bind λra=>match ra.d with
 | .int i=>some ⟨.int (-i),true,[]⟩
 | _=>none
theorem Qz6(ha:SE X a fa):SE X (.UnaryOp .USub a pos) (Qii fa):=λH0 A0=>
 (QB6 QzW (ha H0 A0)).mono λσ H Q=>exK λU hs F r rel e q=>by
  refine Qg e λra e1 e=>?_;refine⟨U,hs,F,ra,rel,e1,λv H1 G p=>?_⟩;have rp:=p.rp;cases hr:ra.d with
  | int i=>
   rw[hr]at e rp;cases e;exact⟨i,rp.int_inv,q _ H1 [] (.flat p.same .int_mk)⟩
  | _=>rw[hr]at e;cases e
end
end HS
namespace HS
open PySem PySem.Spec L2
section
def QcM(U U':En):Prop:=U'.length=U.length/\∀(i:Nat) d b,U'[i]? =some (some (d,b))->∃b',U[i]? =some (some (d,b'))/\(b=true->b'=true)
theorem QcM.refl:QcM U U:=⟨rfl,λi d b h=>⟨b,h,id⟩⟩
theorem QcM.trans(a:QcM U U')(b:QcM U' U''):QcM U U'':=⟨b.1.trans a.1,λi d c h=>by
 obtain⟨c',h1,h2⟩:=b.2 i d c h;obtain⟨c'',h3,h4⟩:=a.2 i d c' h1;exact⟨c'',h3,λz=>h4 (h2 z)⟩⟩
theorem Rel.weak(r:Rel K H0 A0 hs U F σ H)(w:QcM U U'):Rel K H0 A0 hs U' F σ H where
 len:=w.1.trans r.len
 val:=λi d b e=>let ⟨b',h,_⟩:=w.2 i d b e;r.val i d b' h
 own:=λi d e=>by
  obtain⟨b',h,hb⟩:=w.2 i d true e;have:b'=true:=hb rfl;subst this;obtain⟨h1,h2,h3,h4,h5⟩:=r.own i d h;exact⟨h1,h2,h3,λj d' b' hj e'=>let ⟨b'',h',_⟩:=w.2 j d' b' e';h4 j d' b'' hj h',h5⟩
 src:=λi d b e=>let ⟨b',h,_⟩:=w.2 i d b e;r.src i d b' h
 held:=r.held
 same:=r.same
noncomputable def kill:List Nat->En->En
 | [],U=>U
 | i::M,U=>kill M (U.set i none)
noncomputable def Qba:List Nat->En->En
 | [],U=>U
 | i::M,U=>Qba M (match U[i]? with
  | some (some (d,_))=>U.set i (some (d,false))
  | _=>U)
theorem QcV(i:Nat):QcM U (U.set i none):=⟨by simp,λj d b h=>by
 by_cases hj:i=j
 ·subst hj;by_cases hl:i<U.length
  ·rw[Zn hl]at h;cases h
  ·rw[Zu (by simp;omega)]at h;cases h
 ·rw[Zd hj]at h;exact⟨b,h,id⟩⟩
theorem Qc8:∀(M:List Nat) (U:En),QcM U (kill M U)
 | [],U=> .refl
 | i::M,U=>(QcV i).trans (Qc8 M _)
theorem Qjx:∀(M:List Nat) (U:En) (i:Nat) (d:D) (b:Bool),i∈M->(kill M U)[i]? =some (some (d,b))->False
 | [],U,i,d,b,h,_=>by simp at h
 | j::M,U,i,d,b,h,e=>by
  rcases Zi.mp h with rfl | h
  ·obtain⟨b',e',_⟩:=(Qc8 M (U.set i none)).2 i d b e;by_cases hl:i<U.length
   ·rw[Zn hl]at e';cases e'
   ·rw[Zu (by simp;omega)]at e';cases e'
  ·exact Qjx M _ i d b h e
theorem QvA(i:Nat):QcM U (match U[i]? with
  | some (some (d,_))=>U.set i (some (d,false))
  | _=>U):=by
 split
 ·rename_i d b e;refine⟨by simp,λj d' b' h=>?_⟩;by_cases hj:i=j
  ·subst hj;have hl:i<U.length:=(Zk.mp e).1;rw[Zn hl]at h;cases h;exact⟨b,e,λz=>by cases z⟩
  ·rw[Zd hj]at h;exact⟨b',h,id⟩
 ·exact .refl
theorem Qbp:∀(M:List Nat) (U:En),QcM U (Qba M U)
 | [],U=> .refl
 | i::M,U=>(QvA i).trans (Qbp M _)
theorem Qmb:∀(M:List Nat) (U:En) (i:Nat) (d:D),i∈M->(Qba M U)[i]? =some (some (d,true))->False
 | [],U,i,d,h,_=>by simp at h
 | j::M,U,i,d,h,e=>by
  rcases Zi.mp h with rfl | h
  ·obtain⟨b',e',hb⟩:=(Qbp M _).2 i d true e;have:b'=true:=hb rfl;subst this;split at e'
   ·rename_i d' b e1;have hl:i<U.length:=(Zk.mp e1).1;rw[Zn hl]at e';cases e'
   ·rename_i h1;exact h1 d true e'
  ·exact Qmb M _ i d h e
def Shr(H0:Hp)(A0:LAd)(U:En)(F:Nat->List Addr)(G:LAd):Prop:=
 ∀a∈G,(H0 a=none∨a∈A0)/\∀(i:Nat) d,U[i]? =some (some (d,true))->a∉F i
theorem Shr.of(r:Rel K H0 A0 hs U F σ H)(s:Src U F H M G):Shr H0 A0 (Qba M U) F G:=λa ha=>by
 have w:=Qbp M U;rcases s a ha with h | ⟨i,d,b,e,m,hm⟩
 ·refine⟨.inl (r.same.free h),λj d' e' hj=>?_⟩;obtain⟨b',e2,_⟩:=w.2 j d' true e';obtain⟨vs,q⟩:=r.mem e2 hj;rw[h]at q;cases q
 ·refine⟨r.src i d b e a m,λj d' e' hj=>?_⟩;obtain⟨b',e2,hb⟩:=w.2 j d' true e';have:b'=true:=hb rfl;subst this;by_cases hij:i=j
  ·subst hij;rw[e]at e2;cases e2;exact Qmb M U i _ (hm rfl) e'
  ·exact(r.own j d' e2).2.2.2.1 i d b hij e a hj m
theorem Rel.Qmw(r:Rel K H0 A0 hs U F σ H)(rp:Rp K H d v G)(sh:Shr H0 A0 U F G):
  Rel K H0 A0 hs (U.set i (some (d,d.flat))) (λj=>if j=i then G else F j) (σ.set i (some v)) H where
 len:=by simp[r.len]
 val:=λj d' b e=>by
  by_cases hj:j=i
  ·subst hj;have hl:j<U.length:=by
    by_cases hl:j<U.length
    ·exact hl
    ·rw[Zu (by simp;omega)]at e;cases e
   rw[Zn hl]at e;cases e;exact⟨v,by rw[Zn (by rw[← r.len];exact hl)],by rw[if_pos rfl];exact rp⟩
  ·rw[Zd (Ne.symm hj)]at e;obtain⟨w,h1,h2⟩:=r.val j d' b e;exact⟨w,by rw[Zd (Ne.symm hj)];exact h1,by rw[if_neg hj];exact h2⟩
 own:=λj d' e=>by
  by_cases hj:j=i
  ·subst hj;have hl:j<U.length:=by
    by_cases hl:j<U.length
    ·exact hl
    ·rw[Zu (by simp;omega)]at e;cases e
   rw[Zn hl]at e;have e1:=Option.some.inj (Option.some.inj e);have ed:d=d':=congrArg Prod.fst e1;have ef:d.flat=true:=congrArg Prod.snd e1;subst ed;have:=rp.QcC ef;subst this;rw[if_pos rfl];exact⟨(QeK d ef).symm,Zbb,λa ha=>by simp at ha,λ_ _ _ _ _ a ha=>by simp at ha,λ_ _ a ha=>by simp at ha⟩
  ·rw[Zd (Ne.symm hj)]at e;obtain⟨h1,h2,h3,h4,h5⟩:=r.own j d' e;rw[if_neg hj];refine⟨h1,h2,h3,λk d'' b hk ek a ha=>?_,h5⟩;by_cases hki:k=i
   ·subst hki;rw[if_pos rfl];exact λhG=>(sh a hG).2 j d' e ha
   ·rw[Zd (Ne.symm hki)]at ek;rw[if_neg hki];exact h4 k d'' b hk ek a ha
 src:=λj d' b e a ha=>by
  by_cases hj:j=i
  ·subst hj;rw[if_pos rfl]at ha;exact(sh a ha).1
  ·rw[Zd (Ne.symm hj)]at e;rw[if_neg hj]at ha;exact r.src j d' b e a ha
 held:=r.held
 same:=r.same
theorem QCy(r:Rel K H0 A0 hs U F σ H)(ow:QbM U M)(nd:M.Nodup)(a:Addr):((M.map F).flatten).count a<=1:=by
 induction M with
 | nil=>simp
 | cons i M ih=>
  rw[ZH,Zar,Zas];obtain⟨h1,h2⟩:=ZaC.mp nd;have ih':=ih (λj hj=>ow j (Zc _ hj)) h2;obtain⟨d,e⟩:=ow i Zl;obtain⟨_,nd1,_,apart,_⟩:=r.own i d e;by_cases ha:a∈F i
  ·have c1:(F i).count a<=1:=Zap.mp nd1 a;have c2:((M.map F).flatten).count a=0:=ZS.mpr λhm=>by
    obtain⟨l,hl,hal⟩:=Zbz.mp hm;obtain⟨j,hj,rfl⟩:=ZL.mp hl;obtain⟨d',e'⟩:=ow j (Zc _ hj);exact apart j d' true (λz=>h1 (z▸hj)) e' a ha hal
   omega
  ·have:(F i).count a=0:=ZS.mpr ha;omega
theorem Qaf.fresh(r:Rel K H0 A0 hs U F σ H)(p:Qaf K U F H H' rr v G)(hf:rr.fr=true)(nd:rr.M.Nodup):
  G.Nodup/\∀a∈G,H0 a=none/\(H a=none∨∃i d,i∈rr.M/\U[i]? =some (some (d,true))/\a∈F i):=by
 obtain⟨c,_⟩:=p.cnt hf;refine⟨Zap.mpr λa=>?_,λa ha=>?_⟩
 ·have h1:=c a;have h2:=QCy r p.own nd a;cases q:H a with
  | none=>rw[QbL q,r.fl0 p.own q]at h1;omega
  | some o=>rw[Qdh q]at h1;omega
 ·cases q:H a with
  | none=>exact⟨r.same.free q,.inl rfl⟩
  | some o=>
   have h1:=c a;rw[Qdh q]at h1;have h2:0<G.count a:=Zai.mpr ha;obtain⟨l,hl,hal⟩:=Zbz.mp (Zai.mp (by omega:0<((rr.M.map F).flatten).count a));obtain⟨i,hi,rfl⟩:=ZL.mp hl;obtain⟨d,e⟩:=p.own i hi;exact⟨(r.own i d e).2.2.1 a hal,.inr ⟨i,d,hi,e,hal⟩⟩
theorem Rel.QDu(r:Rel K H0 A0 hs U F σ H)(p:Qaf K U F H H' rr v G)(hf:rr.fr=true)(nd:rr.M.Nodup):
  Rel K H0 A0 hs ((kill rr.M U).set i (some (rr.d,true))) (λj=>if j=i then G else F j) (σ.set i (some v)) H':=by
 have r1:=(r.ext p.same).weak (Qc8 rr.M U);obtain⟨gn,gs⟩:=p.fresh r hf nd;have gl:=(p.cnt hf).2;have apart:∀(j:Nat) d b,(kill rr.M U)[j]? =some (some (d,b))->∀a∈G,a∉F j:=λj d b e a ha hj=>by
  obtain⟨b',e',_⟩:=(Qc8 rr.M U).2 j d b e;rcases(gs a ha).2 with q | ⟨k,d',hk,ek,hak⟩
  ·obtain⟨vs,w⟩:=r.mem e' hj;rw[q]at w;cases w
  ·have hjk:j≠k:=λz=>by subst z;exact Qjx rr.M U j d b hk e
   exact(r.own k d' ek).2.2.2.1 j d b' hjk e' a hak hj
 have apartH:∀t∈hs,∀a∈G,a∉t.2.2:=λt ht a ha hj=>by
  rcases(gs a ha).2 with q | ⟨k,d',hk,ek,hak⟩
  ·obtain⟨vs,w⟩:=(r.held t ht).1.mem a hj;rw[q]at w;cases w
  ·exact(r.own k d' ek).2.2.2.2 t ht a hak hj
 have lt:∀{j:Nat}{x:Option (D×Bool)}{y:D×Bool},((kill rr.M U).set j x)[j]? =some (some y)->j<(kill rr.M U).length:=λ{j x y} e=>by
  by_cases hl:j<(kill rr.M U).length
  ·exact hl
  ·rw[Zu (by simp;omega)]at e;cases e
 refine⟨by simp[r1.len],λj d b e=>?_,λj d e=>?_,λj d b e a ha=>?_,r1.held,r1.same⟩
 ·by_cases hj:j=i
  ·subst hj;have hl:=lt e;rw[Zn hl]at e;cases e;exact⟨v,by rw[Zn (by rw[← r1.len];exact hl)],by rw[if_pos rfl];exact p.rp⟩
  ·rw[Zd (Ne.symm hj)]at e;obtain⟨w,h1,h2⟩:=r1.val j d b e;exact⟨w,by rw[Zd (Ne.symm hj)];exact h1,by rw[if_neg hj];exact h2⟩
 ·by_cases hj:j=i
  ·subst hj;have hl:=lt e;rw[Zn hl]at e;cases e;rw[if_pos rfl];refine⟨gl,gn,λa ha=>(gs a ha).1,λk d' b hk ek a ha=>?_,apartH⟩;rw[Zd (Ne.symm hk)]at ek;rw[if_neg hk];exact apart k d' b ek a ha
  ·rw[Zd (Ne.symm hj)]at e;obtain⟨h1,h2,h3,h4,h5⟩:=r1.own j d e;rw[if_neg hj];refine⟨h1,h2,h3,λk d' b hk ek a ha=>?_,h5⟩;by_cases hki:k=i
   ·subst hki;rw[if_pos rfl];exact λhG=>apart j d true e a hG ha
   ·rw[Zd (Ne.symm hki)]at ek;rw[if_neg hki];exact h4 k d' b hk ek a ha
 ·by_cases hj:j=i
  ·subst hj;rw[if_pos rfl]at ha;exact .inl (gs a ha).1
  ·rw[Zd (Ne.symm hj)]at e;rw[if_neg hj]at ha;exact r1.src j d b e a ha
noncomputable def asg(i:Nat)(r:R)(U:En):En:=
 if r.norm.fr && decide r.norm.M.Nodup then(kill r.norm.M U).set i (some (r.d,true))else(Qba r.norm.M U).set i (some (r.d,r.d.flat))
theorem Rel.asg(r:Rel K H0 A0 hs U F σ H)(p:Qaf K U F H H' rr v G):∃F',Rel K H0 A0 hs (asg i rr U) F' (σ.set i (some v)) H':=by
 have p':=p.norm;unfold HS.asg;split
 ·rename_i h;simp only[Zm,decide_eq_true_eq]at h;have:=r.QDu (i:=i) p' h.1 h.2;rw[rr.Qc3]at this;exact⟨_,this⟩
 ·have r1:=(r.ext p'.same).weak (Qbp rr.norm.M U);have rp:=p'.rp;rw[rr.Qc3]at rp;have sh:=Shr.of r p'.src;exact⟨_,r1.Qmw rp sh⟩
theorem Rel.hold(r:Rel K H0 A0 hs U F σ H)(h:∀t∈ts,Rp K H t.2.1 t.1 t.2.2/\Shr H0 A0 U F t.2.2):Rel K H0 A0 (ts++hs) U F σ H where
 len:=r.len
 val:=r.val
 own:=λi d e=>by
  obtain⟨h1,h2,h3,h4,h5⟩:=r.own i d e;refine⟨h1,h2,h3,h4,λt ht a ha hm=>?_⟩;rcases ZF.mp ht with z | z
  ·exact((h t z).2 a hm).2 i d e ha
  ·exact h5 t z a ha hm
 src:=r.src
 held:=λt ht=>by
  rcases ZF.mp ht with z | z
  ·exact⟨(h t z).1,λa ha=>((h t z).2 a ha).1⟩
  ·exact r.held t z
 same:=r.same
theorem Rel.QpM(r:Rel K H0 A0 (ts++hs) U F σ H):Rel K H0 A0 hs U F σ H where
 len:=r.len
 val:=r.val
 own:=λi d e=>let ⟨h1,h2,h3,h4,h5⟩:=r.own i d e;⟨h1,h2,h3,h4,λt ht=>h5 t (Ze _ ht)⟩
 src:=r.src
 held:=λt ht=>r.held t (Ze _ ht)
 same:=r.same
end
structure Ret (K:Fgg) (H0:Hp) (A0:LAd) (d:D) (fr:Bool) (v:V) (H':Hp) (G:LAd):Prop where
 same:QS H0 H'
 rp:Rp K H' d v G
 src:∀a∈G,H0 a=none∨a∈A0
 cnt:fr=true->G.Nodup/\G.length=d.nl/\∀a∈G,H0 a=none
noncomputable abbrev Den:=List D->Option (D×Bool)
noncomputable def spV(K:Fgg)(n:Nat)(den:Den):Sp:=λvs H Q _=>∃ds F d fr,Rps K H ds vs F/\ds.length=n/\den ds=some (d,fr)/\∀v H' G,Ret K H F d fr v H' G->Q v H'
theorem QqR{K:Fgg}{n:Nat}{den:Den}{ps:List Str}(hn:ps.length=n):∀vs H Q E,spV K n den vs H Q E->vs.length=ps.length:=λvs H Q E ⟨ds,F,d,fr,r,hl,_⟩=>by rw[hn,← hl,r.length]
noncomputable def Qf(n:Nat)(den:Den)(dfl:List D)(fs:DA):DE:=λU=>(fs U).bind λr=>if r.ds.length+dfl.length=n then(den (r.ds++dfl)).map λq=>if q.2=true then⟨q.1,true,[]⟩else R.norm ⟨q.1,false,r.M⟩else none
section
variable {X:Cx}{e:Expr}{es:List Expr}{fs:DA}{pos p:Pos}{x:Str}{n k:Nat}{f:Addr}{fd:FuncData}{ps:List Str}{den:Den}{dfl:List D}{dvs:List V}{ds:List Value}
theorem QnS{σ:L2.St}{H H0:Hp}{A0:LAd}{Q:VK}(hdf:∀H,Rps X.K H dfl dvs []):tV X.K H0 A0 (Qf n den dfl fs) σ H Q->QrM (spV X.K n den) dvs E0 (tVA X.K H0 A0 fs) σ H Q:=exK λU hs F r rel e q=>by
 refine Qg e λra e1 e=>?_;split at e
 ·rename_i hl;obtain⟨⟨d,fr⟩,e2,e⟩:=Zh.mp e;refine⟨U,hs,F,ra,rel,e1,λvs H1 G p1=>⟨ra.ds++dfl,G++[],d,fr,p1.rp.append (hdf H1),by rw[Zy];exact hl,e2,λv H2 G2 rt=>?_⟩⟩;subst e;have src:Src U F H ra.M G2:=λa ha=>by
   rcases rt.src a ha with z | z
   ·exact .inl (p1.same.free z)
   ·rw[ZaO]at z;exact p1.src a z
  split at q
  ·rename_i hf;have hf:fr=true:=hf;obtain⟨nd,hn,fresh⟩:=rt.cnt hf;have hH:∀a∈G2,H a=none:=λa ha=>p1.same.free (fresh a ha);refine q v H2 G2 ⟨p1.same.trans rt.same,rt.rp,λa ha=> .inl (hH a ha),λ_=>⟨λa=>?_,hn⟩,QbM.nil⟩;by_cases ha:a∈G2
   ·rw[QbL (hH a ha)];have:=Zap.mp nd a;omega
   ·rw[ZS.mpr ha];exact Zab _
  ·refine q v H2 G2 (Qaf.norm ⟨p1.same.trans rt.same,rt.rp,src,λz=>(by cases z),p1.own⟩)
 ·cases e
theorem Qyw(Fk:QcF X.prog X.w X.K X.mg X.base CX0 k f fd ps (spV X.K n den))(hr:Qbx k X.A)(hg:Gl X x)(hm:X.mg x=some (.ref f))(hk:PySem.W.keepIn X.K (.ref f)=true)(hb:Binds X.K fd ps ds)(hd:QM dvs ds)(hdf:∀H,Rps X.K H dfl dvs [])
  (ha:SA X (e::es) fs) (hdb:(x == ("__debug__" :Str))=false) (he:starEach (e::es) X.env=(false,eval e X.env)::starEach es X.env) (hpl:(backTo pos (starEach es X.env)).any (·.1)=false):
  SE X (.Call (.Name x p) (e::es) [] pos) (Qf n den dfl fs):=λH0 A0=>
 (Qx4 Fk hr hg hm hk hb hd Qxg (ha H0 A0) hdb he hpl).mono λσ H Q h=>QnS hdf h
theorem QwJ(Fk:QcF X.prog X.w X.K X.mg X.base CX0 k f fd ps (spV X.K n den))(hr:Qbx k X.A)(hg:Gl X x)(hm:X.mg x=some (.ref f))(hk:PySem.W.keepIn X.K (.ref f)=true)(hb:Binds X.K fd ps ds)(hd:QM dvs ds)(hdf:∀H,Rps X.K H dfl dvs [])
  (hdb:(x == ("__debug__" :Str))=false):SE X (.Call (.Name x p) [] [] pos) (Qf n den dfl Qc):=λH0 A0=>
 (Qv2 Fk hr hg hm hk hb hd Qxg hdb).mono λσ H Q h=>by
  have h':=QnS hdf h;obtain⟨U,hs,F,r,rel,e,q⟩:=h';cases e;exact q [] H [] ⟨QS.refl _,by simp[Rps],Src.nil,λ_=>⟨Cnt.nil,rfl⟩,QbM.nil⟩
end
structure IR where
 items:List D
 M:List Nat
noncomputable abbrev DI:=En->Option IR
def Qlt(K:Fgg)(H:Hp)(ts:List (V×D×List Addr)):Prop:=∀t∈ts,Rp K H t.2.1 t.1 t.2.2
structure Walk (K:Fgg) (J:It) (ts:List (V×D×List Addr)) (ds:List D):Prop where
 stop:∀H,Qlt K H ts->J.stop ds.length H
 go:∀i H,i<ds.length->Qlt K H ts->J.go i H
 yld:∀(i:Nat) d H x H',ds[i]? =some d->Qlt K H ts->J.yld i H x H'->QS H H'/\∃G,Rp K H' d x G/\∀a∈G,∃t∈ts,a∈t.2.2
noncomputable def tI(K:Fgg)(H0:Hp)(A0:LAd)(f:DI):TI:=λσ H Rr=>∃U hs F ir,Rel K H0 A0 hs U F σ H/\f U=some ir∧
 ∀J H1 ts,QS H H1->Walk K J ts ir.items->(∀t∈ts,Rp K H1 t.2.1 t.1 t.2.2/\Src U F H ir.M t.2.2)->QbM U ir.M->ir.items.length<=sizeLine->Rr J H1
def SI(X:Cx)(tg e:Expr)(f:DI):Prop:=∀H0 A0,PI X tg e (tI X.K H0 A0 f)
theorem _root_.L2.PI.mono(h:PI X tg e t)(m:∀σ H Q,t' σ H Q->t σ H Q):PI X tg e t':=λpins s σ H Q I q=>h pins s σ H Q I (m σ H Q q)
section
variable {X:Cx}{tg a b:Expr}{fa fb:DE}{fs:DA}{pos p:Pos}
theorem Rps.nth{K:Fgg}{H:Hp}{ds:List D}{vs:List V}{F:LAd}{i:Nat}{d:D}(h:Rps K H ds vs F)(e:ds[i]? =some d):∃v G,vs[i]? =some v/\Rp K H d v G/\∀a∈G,a∈F:=by
 obtain⟨v,F1,G,F2,h1,h2,h3,_⟩:=h.get e;exact⟨v,G,h1,h3,λa ha=>by rw[h2];exact Ze _ (Zf _ ha)⟩
noncomputable def QDa(K:Fgg)(tl:TE):TI:=λσ H Rr=>tl σ H λx H1=>(∃a,x= .ref a/\(∃xs,SqL K H1 a xs)/\Rr (Itl K a) H1)∨(∃a,x= .ref a/\(∃xs,SqT K H1 a xs)/\Rr (Itt K a) H1)
theorem QzP(hl:PE X l tl):PI X tg l (QDa X.K tl):=by
 intro pins s σ H Rr I h;refine thn (hl pins s σ H _ I h) λv s1=>exJ λx H1 I1 r1 q1=>?_;rcases q1 with⟨a,e,⟨xs,hq⟩,q⟩ | ⟨a,e,⟨xs,hq⟩,q⟩
 ·subst e;cases r1;obtain⟨its,rv,pl,hz⟩:=I1.list hq;refine wpAny_pyIter_list pl.isList ⟨s1.heap.objs.size,[s1.heap.objs.size],_,_,H1,rfl,I1.kept (t':=s1.toks) λb o e=>Zb _ e,QuN a _,⟨_,Zz _ rfl,rfl,rfl⟩,λb hb=>?_,q⟩;have e:b=s1.heap.objs.size:=by simpa using hb
  subst e;exact I1.QkU (Zj _) (I1.hok.fresh (Zj _))
 ·subst e;cases r1;obtain⟨its,rv,pl,hz⟩:=I1.tuple hq;refine wpAny_pyIter_tuple (show s1.heap.IsTuple a its.toArray from pl) ⟨s1.heap.objs.size,[s1.heap.objs.size],_,_,H1,rfl,I1.kept (t':=s1.toks) λb o e=>Zb _ e,QsN a _,⟨_,Zz _ rfl,rfl,rfl⟩,λb hb=>?_,q⟩;have e:b=s1.heap.objs.size:=by simpa using hb
  subst e;exact I1.QkU (Zj _) (I1.hok.fresh (Zj _))
noncomputable def QW(fa:DE):DI:=λU=>(fa U).bind λr=>match r.d with
 | .lst xs=>some ⟨xs,r.M⟩
 | .tup xs=>if xs.length<=sizeLine then some ⟨xs,r.M⟩else none
 | _=>none
theorem QtC{K:Fgg}{c:Addr}{ds:List D}{G:LAd}:Walk K (Itl K c) [(.ref c,.lst ds,G)] ds where
 stop:=λH h=>by
  obtain⟨l,vs,L,e,hl,rl,zl,el⟩:=(h _ (ZE.mpr rfl)).lst_inv;cases e;exact⟨vs,QZ hl,by rw[rl.length];exact Zj _⟩
 go:=λi H hi h=>by
  obtain⟨l,vs,L,e,hl,rl,zl,el⟩:=(h _ (ZE.mpr rfl)).lst_inv;cases e;have:i<vs.length:=by rw[← rl.length];exact hi
  exact⟨vs,vs[i],QZ hl,by simp[this]⟩
 yld:=λi d H x H' e h y=>by
  obtain⟨l,vs,L,e1,hl,rl,zl,el⟩:=(h _ (ZE.mpr rfl)).lst_inv;cases e1;obtain⟨rfl,y⟩:=y;obtain⟨v,G',h1,h2,h3⟩:=rl.nth e;have:=y vs (QZ hl);rw[h1]at this;cases this;refine⟨QS.refl _,G',h2,λz hz=>⟨_,ZE.mpr rfl,?_⟩⟩;have:=h3 z hz;rcases el with rfl | rfl
  ·exact Zc _ this
  ·exact this
theorem QvO{K:Fgg}{c:Addr}{ds:List D}{G:LAd}:Walk K (Itt K c) [(.ref c,.tup ds,G)] ds where
 stop:=λH h=>by
  obtain⟨l,vs,e,hl,rl⟩:=(h _ (ZE.mpr rfl)).Qbn;cases e;exact⟨vs,hl,by rw[rl.length];exact Zj _⟩
 go:=λi H hi h=>by
  obtain⟨l,vs,e,hl,rl⟩:=(h _ (ZE.mpr rfl)).Qbn;cases e;have:i<vs.length:=by rw[← rl.length];exact hi
  exact⟨vs,vs[i],hl,by simp[this]⟩
 yld:=λi d H x H' e h y=>by
  obtain⟨l,vs,e1,hl,rl⟩:=(h _ (ZE.mpr rfl)).Qbn;cases e1;obtain⟨rfl,y⟩:=y;obtain⟨v,G',h1,h2,h3⟩:=rl.nth e;have:=y vs hl;rw[h1]at this;cases this;exact⟨QS.refl _,G',h2,λz hz=>⟨_,ZE.mpr rfl,h3 z hz⟩⟩
theorem Qz4(ha:SE X a fa):SI X tg a (QW fa):=λH0 A0=>(QzP (ha H0 A0)).mono λσ H Rr=>exK λU hs F ir rel e q=>by
 refine Qg e λr e1 e=>?_;refine⟨U,hs,F,r,rel,e1,λv H1 G p=>?_⟩;have rp:=p.rp;cases hr:r.d with
 | lst xs=>
  rw[hr]at e rp;cases e;obtain⟨c,vs,L,rfl,hl,rl,zl,el⟩:=rp.lst_inv;refine .inl ⟨c,rfl,⟨vs,QZ hl⟩,q _ H1 [(.ref c,.lst xs,G)] p.same QtC (λt ht=>?_) p.own zl⟩;rw[ZE.mp ht];exact⟨rp,p.src⟩
 | tup xs=>
  rw[hr]at e rp;dsimp only at e;split at e
  ·rename_i hz;cases e;obtain⟨c,vs,rfl,hl,rl⟩:=rp.Qbn;refine .inr ⟨c,rfl,⟨vs,hl⟩,q _ H1 [(.ref c,.tup xs,G)] p.same QvO (λt ht=>?_) p.own hz⟩;rw[ZE.mp ht];exact⟨rp,p.src⟩
  ·cases e
 | _=>rw[hr]at e;cases e
noncomputable def Qi5(lo:Int)(n:Nat):List D:=(List.range n).map λ(k:Nat)=> .int (lo+(k:Int))
theorem QhW:(Qi5 lo n).length=n:=by simp[Qi5]
theorem QvL(h:(Qi5 lo n)[i]? =some d):i<n/\d= .int (lo+i):=by
 unfold Qi5 at h;rw[Zs]at h;cases q:(List.range n)[i]? with
 | none=>rw[q]at h;cases h
 | some k=>
  rw[q]at h;obtain⟨h1,h2⟩:=Zk.mp q;simp at h1 h2;subst h2;exact⟨h1,(Option.some.inj h).symm⟩
theorem Qly:Walk K (Itr lo n) [] (Qi5 lo n) where
 stop:=λH _=>by rw[QhW];exact Zj _
 go:=λi H hi _=>by rw[QhW]at hi;exact hi
 yld:=λi d H x H' e _ y=>by
  obtain⟨h1,rfl⟩:=QvL e;obtain⟨rfl,rfl⟩:=y;exact⟨QS.refl _,[],.int_mk,λz hz=>by simp at hz⟩
noncomputable def Qa7(fa:DE):DI:=λU=>(fa U).bind λr=>match r.d with
 | .int j=>if j<=16777216/\ -(2^62)<=j then some ⟨Qi5 0 j.toNat,[]⟩else none
 | _=>none
noncomputable def Qd2(fa fb:DE):DI:=λU=>(fa U).bind λr=>(fb U).bind λr'=>match r.d,r'.d with
 | .int i,.int j=>if j-i<=16777216/\ -(2^62)<=i/\i<2^62/\ -(2^62)<=j/\j<2^62 then some ⟨Qi5 i (j-i).toNat,[]⟩else none
 | _,_=>none
theorem Qmv:(sizeLine:Nat)=16777216:=sizeLine_eq
theorem Qtl(hg:Gl X "range")(hm:X.mg "range" =none)(ha:SE X a fa)(hs:starEach [a] X.env=[(false,eval a X.env)]):SI X tg (.Call (.Name "range" p) [a] [] pos) (Qa7 fa):=λH0 A0=>
 (Qtn hg hm (Qap (ha H0 A0) Qc1 hs) hs).mono λσ H Rr=>exK λU hs F ir rel e q=>by
  refine Qg e λr e1 e=>?_;refine⟨U,hs,F,r,rel,e1,λv H1 G pp=>?_⟩;have rp:=pp.rp;cases hr:r.d with
  | int j=>
   rw[hr]at e rp;dsimp only at e;split at e
   ·rename_i hz;cases e;rw[rp.int_inv];refine⟨j,rfl,hz.2,⋯,q _ H1 [] pp.same Qly (λt ht=>by simp at ht) QbM.nil ?_⟩;rw[QhW,Qmv];omega
   ·cases e
  | _=>rw[hr]at e;cases e
theorem QtE(hg:Gl X "range")(hm:X.mg "range" =none)(ha:SE X a fa)(hb:SE X b fb)(hs:starEach [a,b] X.env=[(false,eval a X.env),(false,eval b X.env)])(hs2:starEach [b] X.env=[(false,eval b X.env)]):
  SI X tg (.Call (.Name "range" p) [a,b] [] pos) (Qd2 fa fb):=λH0 A0=>
 (Qta hg hm (Qap (ha H0 A0) (Qap (hb H0 A0) Qc1 hs2) (by rw[hs,hs2])) hs hs2).mono λσ H Rr=>exK λU hs F ir rel e q=>by
  refine Qg e λr e1 e=>?_;refine Qg e λr' e2 e=>?_;refine⟨U,hs,F,r,rel,e1,λv H1 G pp=>⟨U,hs,F,r',rel.ext pp.same,e2,λv' H2 G' pp'=>?_⟩⟩;have rp:=pp.rp.same pp'.same;have rp':=pp'.rp;cases hr:r.d with
  | int i=>
   cases hr':r'.d with
   | int j=>
    rw[hr,hr']at e;rw[hr]at rp;rw[hr']at rp';dsimp only at e;split at e
    ·rename_i hz;cases e;rw[rp.int_inv,rp'.int_inv];refine⟨i,j,rfl,hz.2,q _ H2 [] (pp.same.trans pp'.same) Qly (λt ht=>by simp at ht) QbM.nil ?_⟩;rw[QhW,Qmv];omega
    ·cases e
   | _=>rw[hr,hr']at e;cases e
  | _=>rw[hr]at e;cases e
noncomputable def Qdg(ds:List D):List D:=ds.zipIdx.map λq=> .tup [.int q.2,q.1]
theorem QiN:(Qdg ds).length=ds.length:=by simp[Qdg]
theorem Qs7{ds:List D}{i:Nat}{d:D}(h:(Qdg ds)[i]? =some d):∃e,ds[i]? =some e/\d= .tup [.int i,e]:=by
 unfold Qdg at h;rw[Zs,List.getElem?_zipIdx]at h;cases q:ds[i]? with
 | none=>rw[q]at h;cases h
 | some e=>rw[q]at h;simp at h;exact⟨e,rfl,h.symm⟩
theorem QtF{K:Fgg}{c:Addr}{ds:List D}{G:LAd}:Walk K (Ite K c) [(.ref c,.lst ds,G)] (Qdg ds) where
 stop:=λH h=>by
  obtain⟨l,vs,L,e,hl,rl,zl,el⟩:=(h _ (ZE.mpr rfl)).lst_inv;cases e;exact⟨vs,QZ hl,by rw[QiN,rl.length];exact Zj _⟩
 go:=λi H hi h=>by
  obtain⟨l,vs,L,e,hl,rl,zl,el⟩:=(h _ (ZE.mpr rfl)).lst_inv;cases e;rw[QiN]at hi;have:i<vs.length:=by rw[← rl.length];exact hi
  exact⟨vs,vs[i],QZ hl,by simp[this]⟩
 yld:=λi d H x H' e h y=>by
  obtain⟨l,vs,L,e1,hl,rl,zl,el⟩:=(h _ (ZE.mpr rfl)).lst_inv;cases e1;obtain⟨d',e',rfl⟩:=Qs7 e;obtain⟨pp,u,rfl,hp,rfl,y⟩:=y;obtain⟨v,G',h1,h2,h3⟩:=rl.nth e';have:=y vs (QZ hl);rw[h1]at this;cases this;have s:=Qbz (o:= .tup [.int i,u]) hp;refine⟨s,G',Rp.Qht Qaa ?_,λz hz=>⟨_,ZE.mpr rfl,?_⟩⟩
  ·simp only[Rps];exact⟨.int i,[u],[],G',rfl,rfl,.int_mk,u,[],G',[],rfl,by simp,h2.same s,rfl,rfl⟩
  ·have:=h3 z hz;rcases el with rfl | rfl
   ·exact Zc _ this
   ·exact this
noncomputable def Qb9(fa:DE):DI:=λU=>(fa U).bind λr=>match r.d with
 | .lst xs=>some ⟨Qdg xs,r.M⟩
 | _=>none
theorem Qze(hg:Gl X "enumerate")(hm:X.mg "enumerate" =none)(ha:SE X a fa)(hs:starEach [a] X.env=[(false,eval a X.env)]):SI X (.Tuple es tk tpos) (.Call (.Name "enumerate" p) [a] [] pos) (Qb9 fa):=λH0 A0=>
 (Qy4 hg hm (Qap (ha H0 A0) Qc1 hs) hs).mono λσ H Rr=>exK λU hs F ir rel e q=>by
  refine Qg e λr e1 e=>?_;refine⟨U,hs,F,r,rel,e1,λv H1 G pp=>?_⟩;have rp:=pp.rp;cases hr:r.d with
  | lst xs=>
   rw[hr]at e rp;cases e;obtain⟨c,vs,L,rfl,hl,rl,zl,el⟩:=rp.lst_inv;refine⟨c,rfl,⟨vs,QZ hl⟩,q _ H1 [(.ref c,.lst xs,G)] pp.same QtF (λt ht=>?_) pp.own (by rw[QiN];exact zl)⟩;rw[ZE.mp ht];exact⟨rp,pp.src⟩
  | _=>rw[hr]at e;cases e
noncomputable def Qjl(xs ys:List D):List D:=(xs.zip ys).map λq=> .tup [q.1,q.2]
theorem Qle:(Qjl xs ys).length=min xs.length ys.length:=by simp[Qjl]
theorem QwZ{xs ys:List D}{i:Nat}{d:D}(h:(Qjl xs ys)[i]? =some d):∃e f,xs[i]? =some e/\ys[i]? =some f/\d= .tup [e,f]:=by
 unfold Qjl at h;rw[Zs]at h;cases q:(xs.zip ys)[i]? with
 | none=>rw[q]at h;cases h
 | some e=>
  rw[q]at h;obtain⟨h1,h2⟩:=ZaD.mp q;exact⟨e.1,e.2,h1,h2,(Option.some.inj h).symm⟩
theorem QvB{K:Fgg}{c c':Addr}{xs ys:List D}{G G':LAd}:Walk K (Itz K c c') [(.ref c,.lst xs,G),(.ref c',.lst ys,G')] (Qjl xs ys) where
 stop:=λH h=>by
  obtain⟨l,vs,L,e,hl,rl,zl,el⟩:=(h _ (Zl)).lst_inv;obtain⟨l',vs',L',e',hl',rl',zl',el'⟩:=(h _ (Zc _ Zl)).lst_inv;cases e;cases e';refine⟨vs,vs',QZ hl,QZ hl',?_⟩;rw[Qle,← rl.length,← rl'.length];omega
 go:=λi H hi h=>by
  obtain⟨l,vs,L,e,hl,rl,zl,el⟩:=(h _ (Zl)).lst_inv;obtain⟨l',vs',L',e',hl',rl',zl',el'⟩:=(h _ (Zc _ Zl)).lst_inv;cases e;cases e';rw[Qle]at hi;have h1:i<vs.length:=by rw[← rl.length];omega
  have h2:i<vs'.length:=by rw[← rl'.length];omega
  exact⟨vs,vs',vs[i],vs'[i],QZ hl,QZ hl',by simp[h1],by simp[h2]⟩
 yld:=λi d H x H' e h y=>by
  obtain⟨l,vs,L,e1,hl,rl,zl,el⟩:=(h _ (Zl)).lst_inv;obtain⟨l',vs',L',e1',hl',rl',zl',el'⟩:=(h _ (Zc _ Zl)).lst_inv;cases e1;cases e1';obtain⟨d1,d2,ea,eb,rfl⟩:=QwZ e;obtain⟨pp,u,u',rfl,hp,rfl,y,y'⟩:=y;obtain⟨v,G1,h1,h2,h3⟩:=rl.nth ea;obtain⟨v',G2,h1',h2',h3'⟩:=rl'.nth eb;have:=y vs (QZ hl);rw[h1]at this;cases this;have:=y' vs' (QZ hl');rw[h1']at this;cases this;have s:=Qbz (o:= .tup [u,u']) hp;refine⟨s,G1++G2,Rp.Qht Qaa ?_,λz hz=>?_⟩
  ·simp only[Rps];exact⟨u,[u'],G1,G2,rfl,rfl,h2.same s,u',[],G2,[],rfl,by simp,h2'.same s,rfl,rfl⟩
  ·rcases ZF.mp hz with hz | hz
   ·refine⟨_,Zl,?_⟩;have:=h3 z hz;rcases el with rfl | rfl
    ·exact Zc _ this
    ·exact this
   ·refine⟨_,Zc _ Zl,?_⟩;have:=h3' z hz;rcases el' with rfl | rfl
    ·exact Zc _ this
    ·exact this
noncomputable def Qaq(fa fb:DE):DI:=λU=>(fa U).bind λr=>(fb U).bind λr'=>match r.d,r'.d with
 | .lst xs,.lst ys=>some ⟨Qjl xs ys,r.M++r'.M⟩
 | _,_=>none
theorem QAQ(hg:Gl X "zip")(hm:X.mg "zip" =none)(ha:SE X a fa)(hb:SE X b fb)(hs:starEach [a,b] X.env=[(false,eval a X.env),(false,eval b X.env)])(hs2:starEach [b] X.env=[(false,eval b X.env)]):
  SI X (.Tuple es tk tpos) (.Call (.Name "zip" p) [a,b] [] pos) (Qaq fa fb):=λH0 A0=>
 (QzY hg hm (Qap (ha H0 A0) (Qap (hb H0 A0) Qc1 hs2) (by rw[hs,hs2])) hs hs2).mono λσ H Rr=>exK λU hs F ir rel e q=>by
  refine Qg e λr e1 e=>?_;refine Qg e λr' e2 e=>?_;refine⟨U,hs,F,r,rel,e1,λv H1 G pp=>⟨U,hs,F,r',rel.ext pp.same,e2,λv' H2 G' pp'=>?_⟩⟩;have rp:=pp.rp.same pp'.same;have rp':=pp'.rp;cases hr:r.d with
  | lst xs=>
   cases hr':r'.d with
   | lst ys=>
    rw[hr,hr']at e;rw[hr]at rp;rw[hr']at rp';cases e;obtain⟨c,vs,L,rfl,hl,rl,zl,el⟩:=rp.lst_inv;obtain⟨c',vs',L',rfl,hl',rl',zl',el'⟩:=rp'.lst_inv;refine⟨c,c',rfl,⟨vs,QZ hl⟩,⟨vs',QZ hl'⟩,q _ H2 [(.ref c,.lst xs,G),(.ref c',.lst ys,G')] (pp.same.trans pp'.same) QvB (λt ht=>?_) (pp.own.append pp'.own) (by rw[Qle];omega)⟩;have sa:=pp.src.append pp'.src pp.same;rcases Zi.mp ht with rfl | ht
    ·exact⟨rp,λz hz=>sa z (Zf _ hz)⟩
    ·rw[ZE.mp ht];exact⟨rp',λz hz=>sa z (Ze _ hz)⟩
   | _=>rw[hr,hr']at e;cases e
  | _=>rw[hr]at e;cases e
end
end HS
namespace HS
open PySem L2
noncomputable def Qgv(xs ys zs:List D):List D:=(xs.zip (ys.zip zs)).map λq=> .tup [q.1,q.2.1,q.2.2]
theorem Qud{xs ys zs:List D}{i:Nat}{d:D}(h:(Qgv xs ys zs)[i]? =some d):∃e f g,xs[i]? =some e/\ys[i]? =some f/\zs[i]? =some g/\d= .tup [e,f,g]:=by
 unfold Qgv at h;rw[Zs]at h;cases q:(xs.zip (ys.zip zs))[i]? with
 | none=>rw[q]at h;cases h
 | some e=>
  rw[q]at h;obtain⟨h1,h2⟩:=ZaD.mp q;obtain⟨h3,h4⟩:=ZaD.mp h2;exact⟨e.1,e.2.1,e.2.2,h1,h3,h4,(Option.some.inj h).symm⟩
theorem Qjq(h1:xs.length=ys.length)(h2:ys.length=zs.length):(Qgv xs ys zs).length=xs.length:=by
 simp[Qgv];omega
theorem Qt6{K:Fgg}{c c' c'':Addr}{xs ys zs:List D}{G G' G'':LAd}(n1:xs.length=ys.length)(n2:ys.length=zs.length):Walk K (Qw3 K c c' c'') [(.ref c,.lst xs,G),(.ref c',.lst ys,G'),(.ref c'',.lst zs,G'')] (Qgv xs ys zs):=by
 have inv:∀H,Qlt K H [(.ref c,.lst xs,G),(.ref c',.lst ys,G'),(.ref c'',.lst zs,G'')]->(∃vs L,SqL K H c vs/\Rps K H xs vs L/\∀a∈L,a∈G)/\(∃vs L,SqL K H c' vs/\Rps K H ys vs L/\∀a∈L,a∈G')/\∃vs L,SqL K H c'' vs/\Rps K H zs vs L/\∀a∈L,a∈G'':=λH h=>by
  have one:∀{p:Addr}{ds:List D}{G:LAd},Rp K H (.lst ds) (.ref p) G->∃vs L,SqL K H p vs/\Rps K H ds vs L/\∀a∈L,a∈G:=λ{p ds G} r=>by
   obtain⟨l,vs,L,e,hl,rl,zl,el⟩:=r.lst_inv;cases e;refine⟨vs,L,QZ hl,rl,λa ha=>?_⟩;rcases el with rfl | rfl
   ·exact Zc _ ha
   ·exact ha
  exact⟨one (h _ Zl),one (h _ (Zc _ Zl)),one (h _ (Zc _ (Zc _ Zl)))⟩
 refine⟨λH h=>?_,λi H hi h=>?_,λi d H x H' e h y=>?_⟩
 ·obtain⟨⟨vs,L,hl,rl,el⟩,_⟩:=inv H h;exact⟨vs,hl,by rw[Qjq n1 n2,← rl.length];omega⟩
 ·obtain⟨⟨vs,L,hl,rl,el⟩,⟨vs',L',hl',rl',el'⟩,⟨vs'',L'',hl'',rl'',el''⟩⟩:=inv H h;rw[Qjq n1 n2]at hi;have h1:i<vs.length:=by rw[← rl.length];omega
  have h2:i<vs'.length:=by rw[← rl'.length];omega
  have h3:i<vs''.length:=by rw[← rl''.length];omega
  exact⟨vs,vs',vs'',vs[i],vs'[i],vs''[i],hl,hl',hl'',by simp[h1],by simp[h2],by simp[h3]⟩
 ·obtain⟨⟨vs,L,hl,rl,el⟩,⟨vs',L',hl',rl',el'⟩,⟨vs'',L'',hl'',rl'',el''⟩⟩:=inv H h;obtain⟨d1,d2,d3,ea,eb,ec,rfl⟩:=Qud e;obtain⟨pp,u,u',u'',rfl,hp,rfl,y,y',y''⟩:=y;obtain⟨v,G1,h1,h2,h3⟩:=rl.nth ea;obtain⟨v',G2,h1',h2',h3'⟩:=rl'.nth eb;obtain⟨v'',G3,h1'',h2'',h3''⟩:=rl''.nth ec;have q:=y vs hl;rw[h1]at q;cases q;have q:=y' vs' hl';rw[h1']at q;cases q;have q:=y'' vs'' hl'';rw[h1'']at q;cases q;have s:=Qbz (o:= .tup [u,u',u'']) hp;refine⟨s,G1++(G2++G3),Rp.Qht Qaa ?_,λz hz=>?_⟩
  ·simp only[Rps];exact⟨u,[u',u''],G1,G2++G3,rfl,rfl,h2.same s,u',[u''],G2,G3,rfl,rfl,h2'.same s,u'',[],G3,[],rfl,by simp,h2''.same s,rfl,rfl⟩
  ·rcases ZF.mp hz with hz | hz
   ·exact⟨_,Zl,el _ (h3 z hz)⟩
   ·rcases ZF.mp hz with hz | hz
    ·exact⟨_,Zc _ Zl,el' _ (h3' z hz)⟩
    ·exact⟨_,Zc _ (Zc _ Zl),el'' _ (h3'' z hz)⟩
noncomputable def Qhp(fa fb fc:DE):DI:=λU=>(fa U).bind λr=>(fb U).bind λr'=>(fc U).bind λr''=>match r.d,r'.d,r''.d with
 | .lst xs,.lst ys,.lst zs=>if xs.length=ys.length/\ys.length=zs.length then some ⟨Qgv xs ys zs,r.M++(r'.M++r''.M)⟩else none
 | _,_,_=>none
section
theorem QxG(hg:Gl X "zip")(hm:X.mg "zip" =none)(ha:SE X a fa)(hb:SE X b fb)(hc:SE X c fc)(hs:starEach [a,b,c] X.env=(false,eval a X.env)::starEach [b,c] X.env)(hs2:starEach [b,c] X.env=(false,eval b X.env)::starEach [c] X.env)(hs3:starEach [c] X.env=[(false,eval c X.env)]):
  SI X (.Tuple es tk tpos) (.Call (.Name "zip" p) [a,b,c] [] pos) (Qhp fa fb fc):=λH0 A0=>
 (Qzs hg hm (Qap (ha H0 A0) (Qap (hb H0 A0) (Qap (hc H0 A0) Qc1 hs3) hs2) hs) hs (by rw[hs2,hs3];rfl)).mono λσ H Rr=>exK λU hs F ir rel e q=>by
  refine Qg e λr e1 e=>?_;refine Qg e λr' e2 e=>?_;refine Qg e λr'' e3 e=>?_;refine⟨U,hs,F,r,rel,e1,λv H1 G pp=>⟨U,hs,F,r',rel.ext pp.same,e2,λv' H2 G' pp'=>⟨U,hs,F,r'',(rel.ext pp.same).ext pp'.same,e3,λv'' H3 G'' pp''=>?_⟩⟩⟩;have rp:=(pp.rp.same pp'.same).same pp''.same;have rp':=pp'.rp.same pp''.same;have rp'':=pp''.rp;cases hr:r.d with
  | lst xs=>
   cases hr':r'.d with
   | lst ys=>
    cases hr'':r''.d with
    | lst zs=>
     rw[hr,hr',hr'']at e;rw[hr]at rp;rw[hr']at rp';rw[hr'']at rp'';dsimp only at e;split at e
     ·rename_i hn;cases e;obtain⟨c1,vs,L,rfl,hl,rl,zl,el⟩:=rp.lst_inv;obtain⟨c2,vs',L',rfl,hl',rl',zl',el'⟩:=rp'.lst_inv;obtain⟨c3,vs'',L'',rfl,hl'',rl'',zl'',el''⟩:=rp''.lst_inv;refine⟨c1,c2,c3,rfl,⟨vs,QZ hl⟩,⟨vs',QZ hl'⟩,⟨vs'',QZ hl''⟩,q _ H3 [(.ref c1,.lst xs,G),(.ref c2,.lst ys,G'),(.ref c3,.lst zs,G'')] ((pp.same.trans pp'.same).trans pp''.same) (Qt6 hn.1 hn.2) (λt ht=>?_) (pp.own.append (pp'.own.append pp''.own)) (by rw[Qjq hn.1 hn.2];exact zl)⟩;have sb:=pp'.src.append pp''.src pp'.same;have sa:=pp.src.append sb pp.same;rcases Zi.mp ht with rfl | ht
      ·exact⟨rp,λz hz=>sa z (Zf _ hz)⟩
      ·rcases Zi.mp ht with rfl | ht
       ·exact⟨rp',λz hz=>sa z (Ze _ (Zf _ hz))⟩
       ·rw[ZE.mp ht];exact⟨rp'',λz hz=>sa z (Ze _ (Ze _ hz))⟩
     ·cases e
    | _=>rw[hr,hr',hr'']at e;cases e
   | _=>rw[hr,hr']at e;cases e
  | _=>rw[hr]at e;cases e
end
end HS
namespace HS
open PySem PySem.Spec L2
inductive Tg where
 | nm (i:Nat)
 | tp (is:List Nat)
noncomputable def Tg.slots:Tg->List Nat
 | .nm i=>[i]
 | .tp is=>is
noncomputable def Qd9:List Nat->List D->En->En
 | i::is,d::ds,U=>Qd9 is ds (U.set i (some (d,d.flat)))
 | _,_,U=>U
noncomputable def QbE:Tg->D->En->Option En
 | .nm i,d,U=>some (U.set i (some (d,d.flat)))
 | .tp is,.tup xs,U=>if xs.length=is.length then some (Qd9 is xs U)else none
 | .tp is,.lst xs,U=>if xs.length=is.length then some (Qd9 is xs U)else none
 | .tp _,_,_=>none
noncomputable def tG(K:Fgg)(H0:Hp)(A0:LAd)(t:Tg):TG:=λv σ H Q=>∃U hs F d G U',Rel K H0 A0 hs U F σ H/\Rp K H d v G/\Shr H0 A0 U F G/\QbE t d U=some U'∧
 ∀σ' F',Rel K H0 A0 hs U' F' σ' H->(∀j,j∉t.slots->σ'[j]? =σ[j]?)->(∀j a,a∈F' j->a∈F j∨a∈G)->Q σ' H
def SG(X:Cx)(tg:Expr)(t:Tg):Prop:=∀H0 A0,PG X tg (tG X.K H0 A0 t)
theorem _root_.L2.PG.mono{X:Cx}{tg:Expr}{t t':TG}(h:PG X tg t)(m:∀v σ H Q,t' v σ H Q->t v σ H Q):PG X tg t':=λpins s σ H v u Q I r q=>h pins s σ H v u Q I r (m v σ H Q q)
noncomputable def Ql0:List Nat->TGs
 | []=>QzH
 | i::is=>Qxd (Qgy i) (Ql0 is)
theorem Shr.set{H0:Hp}{A0:LAd}{U:En}{F:Nat->List Addr}{G G1:LAd}{i:Nat}{d:D}(h:Shr H0 A0 U F G)(hf:d.flat=true->G1=[]):Shr H0 A0 (U.set i (some (d,d.flat))) (λj=>if j=i then G1 else F j) G:=λa ha=>by
 refine⟨(h a ha).1,λj d' e=>?_⟩;by_cases hj:j=i
 ·subst hj;show ¬a∈(if j=j then G1 else F j);rw[if_pos rfl];have hl:j<U.length:=by
   by_cases hl:j<U.length
   ·exact hl
   ·rw[Zu (by simp;omega)]at e;cases e
  rw[Zn hl]at e;have e1:=Option.some.inj (Option.some.inj e);rw[hf (congrArg Prod.snd e1)];simp
 ·rw[Zd (Ne.symm hj)]at e;show ¬a∈(if j=i then G1 else F j);rw[if_neg hj];exact(h a ha).2 j d' e
theorem Qk7{K:Fgg}{H0:Hp}{A0:LAd}{hs:List (V×D×List Addr)}:∀(is:List Nat) (ds:List D) (vs:List V) (U:En) (F:Nat->List Addr) (σ:L2.St) (H:Hp) (G:LAd) (Q:L2.St->Hp->Prop),
  Rel K H0 A0 hs U F σ H->Rps K H ds vs G->Shr H0 A0 U F G->ds.length=is.length→
  (∀σ' F',Rel K H0 A0 hs (Qd9 is ds U) F' σ' H->(∀j,j∉is->σ'[j]? =σ[j]?)->(∀j a,a∈F' j->a∈F j∨a∈G)->Q σ' H)->Ql0 is vs σ H Q
 | [],ds,vs,U,F,σ,H,G,Q,rel,rp,sh,hl,q=>by
  have:ds=[]:=by simpa using hl
  subst this;simp only[Rps]at rp;exact⟨rp.1,q σ F rel (λ_ _=>rfl) λ_ _ h=> .inl h⟩
 | i::is,[],vs,U,F,σ,H,G,Q,rel,rp,sh,hl,q=>by simp at hl
 | i::is,d::ds,vs,U,F,σ,H,G,Q,rel,rp,sh,hl,q=>by
  simp only[Rps]at rp;obtain⟨v,ws,G1,G2,rfl,rfl,r1,r2⟩:=rp;refine⟨v,ws,rfl,?_⟩;have sh1:Shr H0 A0 U F G1:=λa ha=>sh a (Zf _ ha);have sh2:Shr H0 A0 U F G2:=λa ha=>sh a (Ze _ ha);refine Qk7 is ds ws _ _ _ H G2 Q (rel.Qmw r1 sh1) r2 (sh2.set r1.QcC) (by simpa using hl) λσ' F' rel' k m=>q σ' F' rel' (λj hj=>?_) λj a ha=>?_
  ·have h1:j≠i:=λz=>hj (by rw[z];exact Zl);rw[k j λz=>hj (Zc _ z),Zd (Ne.symm h1)]
  ·rcases m j a ha with z | z
   ·by_cases hj:j=i
    ·rw[if_pos hj]at z;exact .inr (Zf _ z)
    ·rw[if_neg hj]at z;exact .inl z
   ·exact .inr (Ze _ z)
section
variable {X:Cx}{tg:Expr}{pos:Pos}
theorem QyI{i:Nat}{x:Str}(h:PG X (.Name x pos) (Qgy i)):SG X (.Name x pos) (.nm i):=λH0 A0=>h.mono λv σ H Q Z=>by
 obtain⟨U,hs,F,d,G,U',rel,rp,sh,e,q⟩:=Z;cases e;refine q _ _ (rel.Qmw rp sh) (λj hj=>?_) λj a ha=>?_
 ·have:j≠i:=λz=>hj (by simp[Tg.slots,z]);rw[Zd (Ne.symm this)]
 ·by_cases hj:j=i
  ·rw[if_pos hj]at ha;exact .inr ha
  ·rw[if_neg hj]at ha;exact .inl ha
theorem Qyp{es:List Expr}{k:Nat}{t:TGs}{n:Nat}(hc:X.calm=true)(h:PGs X es t)
  (hn:(assignEach es X.env).length=n) (hst:(assignEach es X.env).findIdx? (·.1)=none):PG X (.Tuple es k pos) (λv σ H Q=>∃a xs,v= .ref a/\SqL X.K H a xs/\xs.length=n/\t xs σ H Q):=by
 intro pins s σ H v u Q I r hw;obtain⟨a,xs,e1,hq,hl,hw⟩:=hw;subst e1;cases r;obtain⟨its,rv,ht,hz⟩:=I.list hq;rw[PyProof.Rows.assign_Tuple];refine wpAny_bind (wpAny_standAt ?_);unfold unpack;rw[hn,hst,show n=its.toArray.size by simp[← hl,rv.length]];refine wpAny_bind (wpAny_holding (PySem.W.kun_itemsOf (I.ok.hd hc) ht.isList λh' hx=>?_));have I1:Inv X pins σ H {s with heap:=h'}:=I.kept (t':=s.toks) λb o e=>hx b o (ZM (Zt e)) e;exact h pins _ σ H xs _ Q I1 (by simpa using rv) hw
theorem QBr{es:List Expr}{k:Nat}{is:List Nat}(hc:X.calm=true)(h:PGs X es (Ql0 is))(hn:(assignEach es X.env).length=is.length)(hst:(assignEach es X.env).findIdx? (·.1)=none):SG X (.Tuple es k pos) (.tp is):=λH0 A0=>
 λpins s σ H v u Q I r Z=>by
  obtain⟨U,hs,F,d,G,U',rel,rp,sh,e,q⟩:=Z;cases d with
  | tup xs=>
   simp only[QbE]at e;split at e
   ·rename_i hl;cases e;obtain⟨a,vs,rfl,hq,rs⟩:=rp.Qbn;exact QBg hc h hn hst pins s σ H _ u Q I r ⟨a,vs,rfl,hq,by rw[← rs.length];exact hl,Qk7 is xs vs U F σ H G Q rel rs sh hl q⟩
   ·cases e
  | lst xs=>
   simp only[QbE]at e;split at e
   ·rename_i hl;cases e;obtain⟨a,vs,L,rfl,hq,rs,_,eG⟩:=rp.lst_inv;have sub:∀b∈L,b∈G:=λb hb=>by
     rcases eG with rfl | rfl
     ·exact Zc _ hb
     ·exact hb
    exact Qyp hc h hn hst pins s σ H _ u Q I r ⟨a,vs,rfl,QZ hq,by rw[← rs.length];exact hl,Qk7 is xs vs U F σ H L Q rel rs (λb hb=>sh b (sub b hb)) hl λσ' F' rel' k m=>q σ' F' rel' k λj b hb=>(m j b hb).imp id (sub b)⟩
   ·cases e
  | _=>simp only[QbE]at e;cases e
end
noncomputable def QfE(cap:List (Option Nat))(U:En):En:=cap.map λo=>o.bind λi=>match U[i]? with
 | some (some (d,_))=>some (d,d.flat)
 | _=>none
noncomputable def QsM(cap:List (Option Nat))(U:En):List Nat:=cap.filterMap λo=>o.bind λi=>match U[i]? with
 | some (some (d,b))=>if b && !d.flat then some i else none
 | _=>none
noncomputable def QgC(t:Tg)(ft:DT)(fe:DE)(Uc:En)(acc:List D×Bool)(d:D):Option (List D×Bool):=
 (QbE t d Uc).bind λU1=>(ft U1).bind λc=>if c=true then(fe U1).map λr=>(acc.1++[r.d],acc.2 && r.norm.fr)else some acc
noncomputable def QG(fi:DI)(t:Tg)(cap:List (Option Nat))(ft:DT)(fe:DE):DE:=λU=>(fi U).bind λir=>
 (ir.items.foldlM (QgC t ft fe (QfE cap U)) ([],true)).map λq=>if q.2=true then⟨.lst q.1,true,[]⟩else⟨.lst q.1,false,ir.M++QsM cap U⟩
def Qdi(U:En):Prop:=∀(j:Nat) d,U[j]? =some (some (d,true))->d.flat=true
theorem Qdi.set{U:En}(h:Qdi U)(i:Nat)(d:D):Qdi (U.set i (some (d,d.flat))):=λj d' e=>by
 by_cases hj:j=i
 ·subst hj;have hl:j<U.length:=by
   by_cases hl:j<U.length
   ·exact hl
   ·rw[Zu (by simp;omega)]at e;cases e
  rw[Zn hl]at e;have e1:=Option.some.inj (Option.some.inj e);have h1:d=d':=congrArg Prod.fst e1;have h2:d.flat=true:=congrArg Prod.snd e1;rw[← h1];exact h2
 ·rw[Zd (Ne.symm hj)]at e;exact h j d' e
theorem Qdi.Qd9:∀(is:List Nat) (ds:List D) {U:En},Qdi U->Qdi (Qd9 is ds U)
 | [],_,_,h=>h
 | _::_,[],_,h=>h
 | i::is,d::ds,_,h=>Qdi.Qd9 is ds (h.set i d)
theorem Qdi.bind{t:Tg}{d:D}{U U':En}(h:Qdi U)(e:QbE t d U=some U'):Qdi U':=by
 cases t with
 | nm i=>cases e;exact h.set i d
 | tp is=>
  cases d with
  | tup xs=>
   simp only[QbE]at e;split at e
   ·cases e;exact h.Qd9 is xs
   ·cases e
  | lst xs=>
   simp only[QbE]at e;split at e
   ·cases e;exact h.Qd9 is xs
   ·cases e
  | _=>simp only[QbE]at e;cases e
theorem Qk1(cap:List (Option Nat))(U:En):Qdi (QfE cap U):=λj d e=>by
 unfold QfE at e;rw[Zs]at e;cases q:cap[j]? with
 | none=>rw[q]at e;cases e
 | some o=>
  rw[q]at e;cases o with
  | none=>cases e
  | some i=>
   simp only[ZU,Za,Option.some.injEq]at e;split at e
   ·have e1:=Option.some.inj e;have h1:=congrArg Prod.fst e1;have h2:=congrArg Prod.snd e1;dsimp only at h1 h2;rw[← h1];exact h2
   ·cases e
theorem QnJ{cap:List (Option Nat)}{U:En}{j:Nat}{d:D}{b:Bool}(e:(QfE cap U)[j]? =some (some (d,b))):∃i b',cap[j]? =some (some i)/\U[i]? =some (some (d,b')):=by
 unfold QfE at e;rw[Zs]at e;cases q:cap[j]? with
 | none=>rw[q]at e;cases e
 | some o=>
  rw[q]at e;cases o with
  | none=>cases e
  | some i=>
   simp only[ZU,Za,Option.some.injEq]at e;split at e
   ·rename_i d' b' hi;have e1:=Option.some.inj e;have h1:d'=d:=congrArg Prod.fst e1;subst h1;exact⟨i,b',rfl,hi⟩
   ·cases e
def Qpp(X:Cx)(ifs:List Expr)(f:DT):Prop:=∀H0 A0,PTs X ifs (tVT X.K H0 A0 f)
noncomputable def QO:DT:=λ_=>some true
theorem QwK{X:Cx}:Qpp X [] QO:=λH0 A0 pins s σ H Q I=>exK λU hs F b rel e q=>by
 cases e;exact QxT pins s σ H Q I (q H (QS.refl _))
theorem Qw9{X:Cx}{c:Expr}{f:DT}(h:ST X c f):Qpp X [c] f:=λH0 A0=>QyU (h H0 A0)
structure QoD (X:Cx) (N':List Str) (scope:Scope) (cap:List (Option Nat)) (tgs:List Nat):Prop where
 len:cap.length=N'.length
 get:∀(j i:Nat),cap[j]? =some (some i)->∃x,N'[j]? =some x/\scope.names.lookup x=some .free/\X.N[i]? =some x/\(X.env.kindOf x=some .cell∨X.env.kindOf x=some .free)
 apart:∀(j i:Nat),cap[j]? =some (some i)->j∉tgs
theorem join_some{α:Type}{o:Option (Option α)}{v:α}(h:o.join=some v):o=some (some v):=by
 cases o with
 | none=>cases h
 | some p=>cases p with
  | none=>cases h
  | some x=>exact h▸rfl
theorem Qoa{X:Cx}{N':List Str}{scope:Scope}{fi:DI}{t:Tg}{cap:List (Option Nat)}{ft:DT}{fe:DE}{H0:Hp}{A0:LAd}{σ:L2.St}{H:Hp}{Q:VK}(hc:QoD X N' scope cap t.slots):
  tV X.K H0 A0 (QG fi t cap ft fe) σ H Q->QoG (tI X.K H0 A0 fi) (Qlx X N' scope) (tG X.K (λ_=>none) [] t) (tVT X.K (λ_=>none) [] ft) (tV X.K (λ_=>none) [] fe) σ H Q:=exK λU hs F r rel e q=>by
 refine Qg e λir e1 e=>?_;obtain⟨⟨xs,f⟩,ef,e⟩:=Zh.mp e;subst e;refine⟨U,hs,F,ir,rel,e1,λJ H1 ts s1 wk hts ow hz=>?_⟩;refine⟨cap.map λo=>o.bind λi=>σ[i]?.join,⟨by simp[hc.len],λj x v hN hv=>?_⟩,λDl hD=>?_⟩
 ·rw[Zs]at hv;cases qc:cap[j]? with
  | none=>rw[qc]at hv;cases hv
  | some o=>
   rw[qc]at hv;cases o with
   | none=>cases hv
   | some i=>
    simp only[ZU,Za,Option.some.injEq]at hv;obtain⟨y,h1,h2,h3,h4⟩:=hc.get j i qc;rw[hN]at h1;cases h1;exact⟨h2,i,h3,join_some hv,h4⟩
 generalize hσc:(cap.map λo=>o.bind λi=>σ[i]?.join)=σc;generalize hUc:QfE cap U=Uc at ef
 have hF0:∃Fc:Nat->List Addr,Fc=λj=>match cap[j]? with
  | some (some i)=>(match U[i]? with
   | some (some _)=>F i
   | _=>[])
  | _=>[]:=⟨_,rfl⟩
 obtain⟨Fc,hFc⟩:=hF0;have rel1:=rel.ext s1;have relC:∀H2,QS H1 H2->Rel X.K (λ_=>none) [] [] Uc Fc σc H2:=λH2 s2=>by
  refine⟨by rw[← hUc,← hσc];simp[QfE],λj d b e=>?_,λj d e=>?_,λj d b e a ha=> .inl rfl,λt ht=>(by simp at ht),λb o z=>(by cases z)⟩
  ·rw[← hUc]at e;obtain⟨i,b',h1,h2⟩:=QnJ e;obtain⟨v,h3,h4⟩:=(rel1.ext s2).val i d b' h2;refine⟨v,?_,?_⟩
   ·rw[← hσc,Zs,h1];simp only[ZU,Za,h3,Option.join_some]
   ·rw[hFc];simp only[h1,h2];exact h4
  ·have hf:d.flat=true:=Qk1 cap U j d (by rw[hUc];exact e);have:Fc j=[]:=by
    rw[← hUc]at e;obtain⟨i,b',h1,h2⟩:=QnJ e;obtain⟨v,h3,h4⟩:=rel1.val i d b' h2;rw[hFc];simp only[h1,h2];exact h4.QcC hf
   rw[this];exact⟨(QeK d hf).symm,Zbb,λa ha=>(by simp at ha),λ_ _ _ _ _ a ha=>(by simp at ha),λt ht=>(by simp at ht)⟩
 have shC:∀G,Shr (λ_=>none) [] Uc Fc G:=λG a ha=>⟨.inl rfl,λj d e hj=>by
  have h0:=(relC H1 (QS.refl _)).own j d e;have hf:d.flat=true:=Qk1 cap U j d (by rw[hUc];exact e);have:(Fc j).length=0:=by rw[h0.1,QeK d hf]
  rw[Zat this]at hj;simp at hj⟩
 have hSh:Qdi Uc:=by rw[← hUc];exact Qk1 cap U
 have heldOf:∀H2,QS H1 H2->Qlt X.K H2 ts:=λH2 s2 t ht=>(hts t ht).1.same s2;have oldOf:∀a,((∃t∈ts,a∈t.2.2)∨∃j,a∈Fc j)->(∃vs,H1 a=some (.lst vs))/\(H a=none∨∃(i:Nat) (d:D) (b:Bool),U[i]? =some (some (d,b))/\a∈F i/\(b=true->i∈ir.M++QsM cap U)):=λa ha=>by
  rcases ha with⟨t,ht,ha⟩ | ⟨j,ha⟩
  ·refine⟨(hts t ht).1.mem a ha,?_⟩;rcases(hts t ht).2 a ha with z | ⟨i,d,b,e,m,w⟩
   ·exact .inl z
   ·exact .inr ⟨i,d,b,e,m,λhb=>Zf _ (w hb)⟩
  ·have ha0:=ha;rw[hFc]at ha;dsimp only at ha;split at ha
   ·rename_i i hi;split at ha
    ·rename_i db hdb;obtain⟨d,b⟩:=db;obtain⟨v,h3,h4⟩:=rel1.val i d b hdb;refine⟨h4.mem a ha,.inr ⟨i,d,b,hdb,ha,λhb=>Ze _ ?_⟩⟩;unfold QsM;refine ZaX.mpr ⟨some i,Zax hi,?_⟩;simp only[Za,hdb];have hnf:d.flat=false:=by
      cases hf:d.flat with
      | false=>rfl
      | true=>rw[h4.QcC hf]at ha;simp at ha
     rw[hb,hnf];rfl
    ·simp at ha
   ·simp at ha
 have fresh5:∀H2,QS H1 H2->∀a,H2 a=none->H1 a=none:=λH2 s2 a h=>s2.free h
 refine⟨λi m acc H2=>m=ir.items.length-i/\i<=ir.items.length/\QS H1 H2/\H2 Dl=some (.lst acc)/\∃(ys:List D) (g:Bool) (G:LAd),(ir.items.drop i).foldlM (QgC t ft fe Uc) (ys,g)=some (xs,f)/\Rps X.K H2 ys acc G/\ys.length<=i∧
  (∀a∈G,a≠Dl/\(H1 a=none∨(∃t∈ts,a∈t.2.2)∨∃j,a∈Fc j))/\(g=true->G.length=nls ys/\∀a,G.count a<=nw H1 a),⟨ir.items.length,rfl,Zab _,Qbz hD,Qaa,[],true,[],by simpa using ef,by simp[Rps],Zj _,λa ha=>(by simp at ha),λ_=>⟨rfl,λa=>by simp⟩⟩,?_⟩
 rintro i m acc H2 ⟨rfl,hi,s2,eD,ys,g,G,hfold,rps,hlen,hG,hcnt⟩;by_cases hlt:i<ir.items.length
 ·refine .inr ⟨wk.go i H2 hlt (heldOf H2 s2),λx H3 hy=>?_⟩;obtain⟨s3,G0,rp0,hG0⟩:=wk.yld i ir.items[i] H2 x H3 (by simp[hlt]) (heldOf H2 s2) hy;rw[ZW hlt,ZbT]at hfold;refine Qg hfold λacc1 hstep hrest=>?_;unfold QgC at hstep;refine Qg hstep λU1 eb hstep=>?_;refine Qg hstep λc ec hstep=>?_;have sh1:Qdi U1:=hSh.bind eb;refine⟨Uc,[],Fc,ir.items[i],G0,U1,relC H3 (s2.trans s3),rp0,shC G0,eb,λσ2 F2 rel2 keep mem2=>⟨λj v hv=>?_,U1,[],F2,c,rel2,ec,λH5 s5=>?_⟩⟩
  ·have hj:j∉t.slots:=λhj=>by
    rw[← hσc,Zs]at hv;cases qc:cap[j]? with
    | none=>rw[qc]at hv;cases hv
    | some o=>
     cases o with
     | none=>rw[qc]at hv;cases hv
     | some k=>exact hc.apart j k qc hj
   rw[keep j hj];exact hv
  have s15:QS H1 H5:=(s2.trans s3).trans s5;have eD5:H5 Dl=some (.lst acc):=s5 _ _ (s3 _ _ eD);cases c with
  | false=>
   rw[if_neg Zah]at hstep;refine Qsj ?_;cases hstep;exact⟨_,⋯,rfl,hlt,s15,eD5,ys,g,G,hrest,rps.same (s3.trans s5),⋯,hG,hcnt⟩
  | true=>
   rw[if_pos rfl]at hstep;refine Qsp ?_;obtain⟨rr,er,hstep⟩:=Zh.mp hstep;subst hstep;refine⟨U1,[],F2,rr,rel2.ext s5,er,λy H6 Ge pe=>?_⟩;have eD6:H6 Dl=some (.lst acc):=pe.same _ _ eD5;have s16:=s15.trans pe.same;refine⟨eD6,?_,_,⋯,rfl,hlt,?_⟩
   ·rw[← rps.length];exact ZV hlen (Zp hlt hz)
   have hGe:∀a∈Ge,a≠Dl/\(H1 a=none∨(∃t∈ts,a∈t.2.2)∨∃j,a∈Fc j):=λa ha=>by
    rcases pe.src a ha with z | ⟨j,d,b,ej,hj,_⟩
    ·exact⟨λw=>(by rw[w,eD5]at z;cases z),.inl (s15.free z)⟩
    ·have h1:(∃t∈ts,a∈t.2.2)∨∃j,a∈Fc j:=by
      rcases mem2 j a hj with w | w
      ·exact .inr ⟨j,w⟩
      ·exact .inl (hG0 a w)
     obtain⟨⟨vs,w⟩,_⟩:=oldOf a h1;exact⟨λw'=>(by rw[w',hD]at w;cases w),.inr h1⟩
   have nD:Dl∉G:=λh=>(hG _ h).1 rfl;have nDe:Dl∉Ge:=λh=>(hGe _ h).1 rfl;have sU:QS H1 (L2.upd H6 Dl (.lst (acc++[y]))):=λb o hb=>by rw[QR (Qb8 hb hD)];exact s16 b o hb
   refine⟨sU,Qaa,ys++[rr.d],g && rr.norm.fr,G++Ge,hrest,?_,by rw[Zy,Zbv];omega,λa ha=>?_,λhg=>?_⟩
   ·refine Rps.append ((rps.same ((s3.trans s5).trans pe.same)).upd eD6 nD) ?_;simp only[Rps];exact⟨y,[],Ge,[],rfl,by simp,pe.rp.upd eD6 nDe,rfl,rfl⟩
   ·rcases ZF.mp ha with h | h
    ·exact hG a h
    ·exact hGe a h
   ·simp only[Zm]at hg;obtain⟨l1,c1⟩:=hcnt hg.1;have pn:=pe.norm;obtain⟨c2,l2⟩:=pn.cnt hg.2;rw[rr.Qc3]at l2;have nlapp:∀(as bs:List D),nls (as++bs)=nls as+nls bs:=λas bs=>by
     induction as with
     | nil=>simp[nls]
     | cons a as ih=>simp only[ZbS,nls,ih];omega
    refine⟨by rw[Zy,l1,l2,nlapp];simp[nls],λa=>?_⟩;have fl:((rr.norm.M.map F2).flatten).count a=0:=by
     rw[ZS];intro hm;obtain⟨l,hl,hal⟩:=Zbz.mp hm;obtain⟨j,hj,rfl⟩:=ZL.mp hl;obtain⟨d,ej⟩:=pn.own j hj;have hf:=sh1 j d ej;obtain⟨v,_,rv⟩:=rel2.val j d true ej;rw[rv.QcC hf]at hal;simp at hal
    have h1:=c1 a;have h2:=c2 a;rw[fl]at h2;rw[Zas];cases q5:H5 a with
    | some o=>rw[Qdh q5]at h2;omega
    | none=>
     rw[QbL q5]at h2;have h0:G.count a=0:=ZS.mpr λhm=>by
      obtain⟨vs,w⟩:=rps.mem a hm;rw[s5 _ _ (s3 _ _ w)]at q5;cases q5
     rw[QbL (s15.free q5)];omega
 ·have hn:i=ir.items.length:= ⋯
  subst hn;refine .inl ⟨wk.stop H2 (heldOf H2 s2),?_⟩;rw[ZbU]at hfold;have:(ys,g)=(xs,f):=Option.some.inj hfold;cases this;have rp:Rp X.K H2 (.lst xs) (.ref Dl) (Dl::G):=Rp.Qen eD rps (Zo hlen hz);have hHD:H Dl=none:=s1.free hD;split at q
  ·rename_i hg;have hg:f=true:=hg;obtain⟨l1,c1⟩:=hcnt hg;have hn:∀a∈G,H1 a=none:=λa ha=>by
    have:=c1 a;have h2:0<G.count a:=Zai.mpr ha;cases w:H1 a with
    | none=>rfl
    | some o=>rw[Qdh w]at this;omega
   refine q _ H2 (Dl::G) ⟨s1.trans s2,rp,λa ha=>?_,λ_=>⟨λa=>?_,by simp only[D.nl,ZR,l1]⟩,QbM.nil⟩
   ·rcases Zi.mp ha with rfl | h
    ·exact .inl hHD
    ·exact .inl (s1.free (hn a h))
   ·rw[ZaP];have h1:=c1 a;split
    ·rename_i w;have w:Dl=a:=by simpa using w
     subst w;have h0:G.count Dl=0:=ZS.mpr λh=>(hG _ h).1 rfl;rw[QbL hHD];omega
    ·cases w:H1 a with
     | none=>rw[QbL w]at h1;rw[QbL (s1.free w)];omega
     | some o=>rw[Qdh w]at h1;omega
  ·refine q _ H2 (Dl::G) ⟨s1.trans s2,rp,λa ha=>?_,λz=>(by cases z),?_⟩
   ·rcases Zi.mp ha with rfl | h
    ·exact .inl hHD
    ·rcases(hG a h).2 with z | z
     ·exact .inl (s1.free z)
     ·exact(oldOf a z).2
   ·refine ow.append λi hi=>?_;unfold QsM at hi;obtain⟨o,_,ho⟩:=ZaX.mp hi;cases o with
    | none=>cases ho
    | some k=>
     simp only[Za]at ho;split at ho
     ·rename_i d b hk;split at ho
      ·rename_i hb;cases ho;simp only[Zm]at hb;rw[hb.1]at hk;exact⟨d,hk⟩
      ·cases ho
     ·cases ho
section
variable {X:Cx}{tg iter elt:Expr}{ifs:List Expr}{scope:Scope}{N':List Str}{pos:Pos}{fi:DI}{t:Tg}{cap:List (Option Nat)}{ft:DT}{fe:DE}
theorem Qyy(hcalm:X.calm=true)(S:Qfa X N' scope)(hi:SI X tg iter fi)(hcap:QoD X N' scope cap t.slots)
  (hin:∀cl C fp s3 H3,SG (cxc X N' scope cl C fp s3 H3) tg t/\Qpp (cxc X N' scope cl C fp s3 H3) ifs ft/\SE (cxc X N' scope cl C fp s3 H3) elt fe) (hs:∀x,foldedSetIterable iter X.env x=pure x):
  SE X (.ListComp elt [⟨tg,iter,ifs,0⟩] scope pos) (QG fi t cap ft fe):=λH0 A0=>
 (QqU hcalm S (hi H0 A0) (λcl C fp s3 H3=>⟨(hin cl C fp s3 H3).1 _ _,(hin cl C fp s3 H3).2.1 _ _,(hin cl C fp s3 H3).2.2 _ _⟩) hs).mono λσ H Q h=>Qoa hcap h
end
inductive Out where
 | nx (U:En)
 | bk (U:En)
 | ct (U:En)
 | rt (d:D) (fr:Bool)
noncomputable abbrev DS:=En->Option Out
noncomputable def Fits(K:Fgg)(H0:Hp)(A0:LAd)(hs:List (V×D×List Addr))(E:Ends):Out->Prop
 | .nx U=>∀σ H F,Rel K H0 A0 hs U F σ H->E.nx σ H
 | .bk U=>∀σ H F,Rel K H0 A0 hs U F σ H->E.bk σ H
 | .ct U=>∀σ H F,Rel K H0 A0 hs U F σ H->E.ct σ H
 | .rt d fr=>∀v H G,Ret K H0 A0 d fr v H G->E.rt v H
noncomputable def tS(K:Fgg)(H0:Hp)(A0:LAd)(f:DS):TS:=λE σ H=>∃U hs F o,Rel K H0 A0 hs U F σ H/\f U=some o/\Fits K H0 A0 hs E o
def S1(X:Cx)(st:Stmt)(f:DS):Prop:=∀H0 A0,PS X st (tS X.K H0 A0 f)
def SS(X:Cx)(sts:List Stmt)(f:DS):Prop:=∀H0 A0,PSs X sts (tS X.K H0 A0 f)
theorem _root_.L2.PS.mono(h:PS X st t)(m:∀D σ H,t' D σ H->t D σ H):PS X st t':=λpins s σ H D I q=>h pins s σ H D I (m D σ H q)
theorem _root_.L2.PSs.mono(h:PSs X st t)(m:∀D σ H,t' D σ H->t D σ H):PSs X st t':=λpins s σ H D I q=>h pins s σ H D I (m D σ H q)
noncomputable def Qh:DS:=λU=>some (.nx U)
noncomputable def Qd(f g:DS):DS:=λU=>(f U).bind λo=>match o with
 | .nx U'=>g U'
 | .bk U'=>some (.bk U')
 | .ct U'=>some (.ct U')
 | .rt d fr=>some (.rt d fr)
noncomputable def QsX:DS:=λU=>some (.bk U)
noncomputable def QrW:DS:=λU=>some (.ct U)
noncomputable def Qo(i:Nat)(fa:DE):DS:=λU=>(fa U).bind λr=>some (.nx (asg i r U))
noncomputable def Qal(fa:DE):DE:=λU=>(fa U).map λr=>⟨r.d,false,r.M⟩
noncomputable def QC(fa:DE):DS:=λU=>(fa U).bind λr=>some (.rt r.d (r.norm.fr && decide r.norm.M.Nodup))
noncomputable def Qa8(fa:DE):DS:=λU=>(fa U).bind λ_=>some (.nx U)
noncomputable def sIf(g:DT)(f1 f2:DS):DS:=λU=>(g U).bind λb=>if b=true then f1 U else f2 U
noncomputable def Qdd(t:Tg)(fb:DS):List D->DS
 | [],U=>some (.nx U)
 | d::ds,U=>(QbE t d U).bind λU1=>(fb U1).bind λo=>match o with
  | .nx U2=>Qdd t fb ds U2
  | .ct U2=>Qdd t fb ds U2
  | .bk U2=>some (.nx U2)
  | .rt d fr=>some (.rt d fr)
noncomputable def QaW(fi:DI)(t:Tg)(fb:DS):DS:=λU=>(fi U).bind λir=>Qdd t fb ir.items (Qba ir.M U)
noncomputable def Qbo(g:DT)(fb:DS):Nat->DS
 | 0,_=>none
 | n+1,U=>(g U).bind λb=>if b=true then(fb U).bind λo=>match o with
  | .nx U2=>Qbo g fb n U2
  | .ct U2=>Qbo g fb n U2
  | .bk U2=>some (.nx U2)
  | .rt d fr=>some (.rt d fr)
  else some (.nx U)
section
theorem Quy:SS X [] Qh:=λH0 A0=>QyF.mono λE σ H=>exK λU hs F o rel e q=>by
 cases e;exact q σ H F rel
theorem Qrv(h1:S1 X st f)(h2:SS X sts g):SS X (st::sts) (Qd f g):=λH0 A0=>(Qce (h1 H0 A0) (h2 H0 A0)).mono λE σ H=>exK λU hs F o rel e q=>by
 refine Qg e λo1 e1 e=>?_;refine⟨U,hs,F,o1,rel,e1,?_⟩;cases o1 with
 | nx U'=>exact λσ' H' F' rel'=>⟨U',hs,F',o,rel',e,q⟩
 | bk U'=>cases e;exact q
 | ct U'=>cases e;exact q
 | rt d fr=>cases e;exact q
theorem QyB:S1 X (.Pass pos) Qh:=λH0 A0=>Qyu.mono λE σ H=>exK λU hs F o rel e q=>by
 cases e;exact q σ H F rel
theorem Qw1:S1 X (.Break pos) QsX:=λH0 A0=>QvS.mono λE σ H=>exK λU hs F o rel e q=>by
 cases e;exact q σ H F rel
theorem Qyc:S1 X (.Continue pos) QrW:=λH0 A0=>QqO.mono λE σ H=>exK λU hs F o rel e q=>by
 cases e;exact q σ H F rel
theorem Qu5(h:SE X e fa):SE X e (Qal fa):=λH0 A0=>(h H0 A0).mono λσ H Q=>exK λU hs F r rel e q=>by
 obtain⟨r',e1,rfl⟩:=Zh.mp e;exact⟨U,hs,F,r',rel,e1,λv H' G p=>q v H' G ⟨p.same,p.rp,p.src,λz=>(by cases z),p.own⟩⟩
theorem QlC(h:∀H0 A0,PS X st (QeO (tV X.K H0 A0 fa) (Qgy i))):S1 X st (Qo i fa):=λH0 A0=>(h H0 A0).mono λE σ H=>exK λU hs F o rel e q=>by
 refine Qg e λr e1 e=>?_;cases e;refine⟨U,hs,F,r,rel,e1,λv H' G p=>?_⟩;obtain⟨F',rel'⟩:=rel.asg (i:=i) p;exact q _ _ F' rel'
theorem Qzr(h:PS X st (Qss (tV X.K H0 A0 fa))):PS X st (tS X.K H0 A0 (Qa8 fa)):=h.mono λE σ H=>exK λU hs F o rel e q=>by
 refine Qg e λr e1 e=>?_;cases e;exact⟨U,hs,F,r,rel,e1,λv H' G p=>q σ H' F (rel.ext p.same)⟩
theorem Rel.ret(rel:Rel K H0 A0 hs U F σ H)(p:Qaf K U F H H' r v G):Ret K H0 A0 r.d (r.norm.fr && decide r.norm.M.Nodup) v H' G where
 same:=rel.same.trans p.same
 rp:=p.rp
 src:=λa ha=>by
  rcases p.src a ha with z | ⟨i,d,b,e,m,_⟩
  ·exact .inl (rel.same.free z)
  ·exact rel.src i d b e a m
 cnt:=λh=>by
  simp only[Zm,decide_eq_true_eq]at h;have p':=p.norm;obtain⟨h1,h2⟩:=p'.fresh rel h.1 h.2;have h3:=(p'.cnt h.1).2;rw[r.Qc3]at h3;exact⟨h1,h3,λa ha=>(h2 a ha).1⟩
theorem QBD(he:SE X e fa):S1 X (.Return (some e) pos) (QC fa):=λH0 A0=>(QuC (he H0 A0)).mono λE σ H=>exK λU hs F o rel e q=>by
 refine Qg e λr e1 e=>?_;cases e;exact⟨U,hs,F,r,rel,e1,λv H' G p=>q v H' G (rel.ret p)⟩
theorem QBZ(hc:ST X c gc)(ha:SS X a f)(hb:SS X b g):S1 X (.If c a b pos) (sIf gc f g):=λH0 A0=>(Qxz (hc H0 A0) (ha H0 A0) (hb H0 A0)).mono λE σ H=>exK λU hs F o rel e q=>by
 refine Qg e λc e1 e=>?_;refine⟨U,hs,F,c,rel,e1,λH1 s1=>?_⟩;cases c with
 | true=>exact Qsp ⟨U,hs,F,o,rel.ext s1,e,q⟩
 | false=>exact Qsj ⟨U,hs,F,o,rel.ext s1,e,q⟩
theorem QBF(hp:PassesOwn (model X.prog X.w) X.A X.env X.xe)(hc:X.calm=true)(hi:SI X tg iter fi)(hg:SG X tg t)(hb:SS X body f)(hs:∀x,foldedSetIterable iter X.env x=pure x):
  S1 X (.For tg iter body [] pos) (QaW fi t f):=λH0 A0=>(Qul hp hc (hi H0 A0) (hg H0 A0) (hb H0 A0) hs).mono λE σ H=>exK λU hs F o rel e q=>by
 refine Qg e λir e1 e=>?_;refine⟨U,hs,F,ir,rel,e1,λJ H1 ts s1 wk hts ow hz=>?_⟩;have rel1:Rel X.K H0 A0 (ts++hs) (Qba ir.M U) F σ H1:=((rel.ext s1).weak (Qbp ir.M U)).hold λt ht=>⟨(hts t ht).1,Shr.of rel (hts t ht).2⟩;refine⟨λi m σ' H'=>m=ir.items.length-i/\i<=ir.items.length/\∃Ui Fi,Rel X.K H0 A0 (ts++hs) Ui Fi σ' H'/\Qdd t f (ir.items.drop i) Ui=some o,⟨_,rfl,Zab _,_,F,rel1,by simpa using e⟩,?_⟩;rintro i m σ' H' ⟨rfl,hi',Ui,Fi,reli,ei⟩;have held:Qlt X.K H' ts:=λt ht=>(reli.held t (Zf _ ht)).1;by_cases hlt:i<ir.items.length
 ·rw[ZW hlt]at ei;unfold Qdd at ei;refine Qg ei λU1 eb ei=>?_;refine Qg ei λo1 eo ei=>?_;refine .inr ⟨wk.go i H' hlt held,λσ2 H2=>∃U2 F2,Rel X.K H0 A0 (ts++hs) U2 F2 σ2 H2/\Qdd t f (ir.items.drop (i+1)) U2=some o,λσ2 H2 ⟨U2,F2,rel2,e2⟩=>⟨_,⋯,rfl,hlt,U2,F2,rel2,e2⟩,λx H2 hy=>?_⟩;obtain⟨s2,G0,rp0,hG0⟩:=wk.yld i ir.items[i] H' x H2 (by simp[hlt]) held hy;have shr:Shr H0 A0 Ui Fi G0:=λa ha=>by
   obtain⟨t,ht,hat⟩:=hG0 a ha;exact⟨(reli.held t (Zf _ ht)).2 a hat,λj d ej hj=>(reli.own j d ej).2.2.2.2 t (Zf _ ht) a hj hat⟩
  refine⟨Ui,ts++hs,Fi,ir.items[i],G0,U1,reli.ext s2,rp0,shr,eb,λσ3 F3 rel3 _ _=>⟨U1,ts++hs,F3,o1,rel3,eo,?_⟩⟩;cases o1 with
  | nx U2=>exact λσ4 H4 F4 rel4=>⟨U2,F4,rel4,ei⟩
  | ct U2=>exact λσ4 H4 F4 rel4=>⟨U2,F4,rel4,ei⟩
  | bk U2=>cases ei;exact λσ4 H4 F4 rel4=>q σ4 H4 F4 rel4.QpM
  | rt d fr=>cases ei;exact q
 ·have hn:i=ir.items.length:= ⋯
  subst hn;rw[ZbU]at ei;cases ei;exact .inl ⟨wk.stop H' held,q σ' H' Fi reli.QpM⟩
theorem Qvo(hp:PassesOwn (model X.prog X.w) X.A X.env X.xe)(hc:ST X c gc)(hb:SS X body f):S1 X (.While c body [] pos) (Qbo gc f n):=λH0 A0=>(QvX hp (hc H0 A0) (hb H0 A0)).mono λE σ H=>exK λU hs F o rel e q=>by
 refine⟨λm σ' H'=>∃Ui Fi,Rel X.K H0 A0 hs Ui Fi σ' H'/\Qbo gc f m Ui=some o,⟨n,U,F,rel,e⟩,?_⟩;rintro m σ' H' ⟨Ui,Fi,reli,ei⟩;cases m with
 | zero=>cases ei
 | succ m=>
  unfold Qbo at ei;refine Qg ei λb eb ei=>?_;refine⟨Ui,hs,Fi,b,reli,eb,λH1 s1=>?_⟩;cases b with
  | false=>
   rw[if_neg Zah]at ei;cases ei;exact Qsj (q σ' H1 Fi (reli.ext s1))
  | true=>
   rw[if_pos rfl]at ei;refine Qg ei λo1 eo ei=>?_;refine Qsp ⟨λσ2 H2=>∃U2 F2,Rel X.K H0 A0 hs U2 F2 σ2 H2/\Qbo gc f m U2=some o,λσ2 H2 h=>⟨m,Zbd _,h⟩,Ui,hs,Fi,o1,reli.ext s1,eo,?_⟩;cases o1 with
   | nx U2=>exact λσ4 H4 F4 rel4=>⟨U2,F4,rel4,ei⟩
   | ct U2=>exact λσ4 H4 F4 rel4=>⟨U2,F4,rel4,ei⟩
   | bk U2=>cases ei;exact λσ4 H4 F4 rel4=>q σ4 H4 F4 rel4
   | rt d fr=>cases ei;exact q
theorem Rel.QDi(rel:Rel K H0 A0 hs U F σ H)(rp:Rp K H d v [])(hf:d.flat=true):
  ∃F',Rel K H0 A0 hs (U.set i (some (d,true))) F' (σ.set i (some v)) H:=by
 have:=rel.Qmw (i:=i) rp (λa ha=>by simp at ha);rw[hf]at this;exact⟨_,this⟩
end
section
variable {K:Fgg}{H H':Hp}
theorem Rps.split:∀{ds:List D}{vs:List V}{F:LAd}{j:Nat}{d:D},Rps K H ds vs F->ds[j]? =some d→
  ∃F1 G F2 v,F=F1++(G++F2)/\vs[j]? =some v/\Rps K H (ds.take j) (vs.take j) F1/\Rp K H d v G/\Rps K H (ds.drop (j+1)) (vs.drop (j+1)) F2
 | [],_,_,_,_,_,e=>by simp at e
 | d::ds,_,_,0,_,h,e=>by
  simp only[Rps]at h;obtain⟨v,ws,F1,F2,rfl,rfl,r,q⟩:=h;simp at e;subst e;exact⟨[],F1,F2,v,rfl,by simp,by simp[Rps],r,by simpa using q⟩
 | d::ds,_,_,j+1,_,h,e=>by
  simp only[Rps]at h;obtain⟨v,ws,F1,F2,rfl,rfl,r,q⟩:=h;obtain⟨G1,G,G2,v',h1,h2,h3,h4,h5⟩:=Rps.split q (by simpa using e);refine⟨F1++G1,G,G2,v',by rw[h1,Zba],by simpa using h2,?_,h4,by simpa using h5⟩;simp only[List.take_succ_cons,Rps];exact⟨v,_,F1,G1,rfl,rfl,r,h3⟩
theorem Rps.join{ds:List D}{vs:List V}{F1 G F2:LAd}{j:Nat}{d:D}{v:V}(h1:Rps K H (ds.take j) (vs.take j) F1)(hd:Rp K H d v G)(h2:Rps K H (ds.drop (j+1)) (vs.drop (j+1)) F2)(hj:j<ds.length)(hv:vs[j]? =some v):
  Rps K H (ds.set j d) vs (F1++(G++F2)):=by
 have e1:ds.set j d=ds.take j++d::ds.drop (j+1):=ZaN .. |>.trans (by rw[if_pos hj]);have hjv:j<vs.length:=(Zk.mp hv).1;have hve:vs[j]=v:=(Zk.mp hv).2;have e2:vs=vs.take j++v::vs.drop (j+1):=by
  rw[← hve,← ZW hjv,ZaZ]
 rw[e1,e2];refine h1.append ?_;simp only[Rps];refine⟨v,_,G,F2,rfl,rfl,hd,h2⟩
theorem Rps.Qxk{ds:List D}{vs:List V}{F1 G F2:LAd}{j:Nat}{d:D}{v:V}(h1:Rps K H (ds.take j) (vs.take j) F1)(hd:Rp K H d v G)(h2:Rps K H (ds.drop (j+1)) (vs.drop (j+1)) F2)(hj:j<ds.length)(hv:j<vs.length):
  Rps K H (ds.set j d) (vs.set j v) (F1++(G++F2)):=by
 have e1:ds.set j d=ds.take j++d::ds.drop (j+1):=ZaN .. |>.trans (by rw[if_pos hj]);have e2:vs.set j v=vs.take j++v::vs.drop (j+1):=ZaN .. |>.trans (by rw[if_pos hv]);rw[e1,e2];refine h1.append ?_;simp only[Rps];exact⟨v,_,G,F2,rfl,rfl,hd,h2⟩
noncomputable def Focus(K:Fgg)(H:Hp):List Int->D->V->List Addr->D->V->List Addr->Prop
 | [],d,v,F,dm,w,Gm=>dm=d/\w=v/\Gm=F/\Rp K H d v F
 | i::is,d,v,F,dm,w,Gm=>∃(ds:List D) (a:Addr) (vs:List V) (j:Nat) (F1 G F2:LAd) (d':D) (v':V),v= .ref a/\ixN ds.length i=some j∧
   ((d= .lst ds/\ds.length<=sizeLine/\((F=a::(F1++(G++F2))/\H a=some (.lst vs))∨(F=F1++(G++F2)/\Fix K H a vs)))∨(d= .tup ds/\F=F1++(G++F2)/\SqT K H a vs))∧
   Rps K H (ds.take j) (vs.take j) F1/\Rps K H (ds.drop (j+1)) (vs.drop (j+1)) F2/\ds[j]? =some d'/\vs[j]? =some v'/\ds.length=vs.length/\Focus K H is d' v' G dm w Gm
theorem Focus.same(s:QS H H'):∀{is:List Int}{d:D}{v:V}{F:LAd}{dm:D}{w:V}{Gm:LAd},Focus K H is d v F dm w Gm->Focus K H' is d v F dm w Gm
 | [],_,_,_,_,_,_,h=>⟨h.1,h.2.1,h.2.2.1,h.2.2.2.same s⟩
 | i::is,_,_,_,_,_,_,h=>by
  obtain⟨ds,a,vs,j,F1,G,F2,d',v',h1,h2,h3,h4,h5,h6,h7,h8,h9⟩:=h;refine⟨ds,a,vs,j,F1,G,F2,d',v',h1,h2,?_,h4.same s,h5.same s,h6,h7,h8,h9.same s⟩;rcases h3 with⟨e,z,q⟩ | ⟨e,eF,q⟩
  ·refine .inl ⟨e,z,?_⟩;rcases q with⟨eF,q⟩ | ⟨eF,q⟩
   ·exact .inl ⟨eF,s _ _ q⟩
   ·exact .inr ⟨eF,Qp6 s q⟩
  ·exact .inr ⟨e,eF,QoS s q⟩
theorem Focus.rp:∀{is:List Int}{d:D}{v:V}{F:LAd}{dm:D}{w:V}{Gm:LAd},Focus K H is d v F dm w Gm->Rp K H dm w Gm
 | [],_,_,_,_,_,_,h=>by
  obtain⟨rfl,rfl,rfl,r⟩:=h;exact r
 | i::is,_,_,_,_,_,_,h=>by
  obtain⟨ds,a,vs,j,F1,G,F2,d',v',h1,h2,h3,h4,h5,h6,h7,h8,h9⟩:=h;exact h9.rp
theorem Focus.Qs5:∀{is:List Int}{d:D}{v:V}{F:LAd}{dm:D}{w:V}{Gm:LAd},Focus K H is d v F dm w Gm->Rp K H d v F
 | [],_,_,_,_,_,_,h=>h.2.2.2
 | i::is,_,_,_,_,_,_,h=>by
  obtain⟨ds,a,vs,j,F1,G,F2,d',v',rfl,h2,h3,h4,h5,h6,h7,h8,h9⟩:=h;have hjl:j<ds.length:=(Zk.mp h6).1;have hdj:ds[j]=d':=(Zk.mp h6).2;have j1:=Rps.join h4 h9.Qs5 h5 hjl h7;rw[show ds.set j d'=ds by rw[← hdj];exact List.set_getElem_self hjl]at j1;rcases h3 with⟨rfl,hz,⟨rfl,q⟩ | ⟨rfl,q⟩⟩ | ⟨rfl,rfl,q⟩
  ·exact Rp.Qen q j1 hz
  ·simp only[Rp];exact⟨hz,a,vs,rfl,.inr ⟨q,j1⟩⟩
  ·simp only[Rp];exact⟨a,vs,rfl,q,j1⟩
theorem Focus.one(r:Rp K H d v F)(hd:d.items=some ds)(hi:atI ds i=some d'):
  ∃a vs v' G,v= .ref a/\((d= .lst ds/\SqL K H a vs)∨(d= .tup ds/\SqT K H a vs))/\atI vs i=some v'/\Focus K H [i] d v F d' v' G:=by
 unfold atI at hi;cases hj:ixN ds.length i with
 | none=>rw[hj]at hi;cases hi
 | some j=>
  rw[hj]at hi;have hdj:ds[j]? =some d':=hi;have fin:∀(vs:List V) (L:LAd),Rps K H ds vs L->∃v' G F1 F2,L=F1++(G++F2)/\vs[j]? =some v'/\atI vs i=some v'/\Rps K H (ds.take j) (vs.take j) F1/\Rp K H d' v' G/\Rps K H (ds.drop (j+1)) (vs.drop (j+1)) F2/\ds.length=vs.length:=λvs L rl=>by
   obtain⟨F1,G,F2,v',h1,h2,h3,h4,h5⟩:=rl.split hdj;refine⟨v',G,F1,F2,h1,h2,?_,h3,h4,h5,rl.length⟩;unfold atI;rw[← rl.length,hj];exact h2
  cases d with
  | lst xs=>
   cases hd;simp only[Rp]at r;obtain⟨hz,a,vs,rfl,⟨L,rfl,q,rl⟩ | ⟨q,rl⟩⟩:=r
   ·obtain⟨v',G,F1,F2,h1,h2,h3,h4,h5,h6,h7⟩:=fin vs L rl;exact⟨a,vs,v',G,rfl,.inl ⟨rfl,SqL.of q⟩,h3,ds,a,vs,j,F1,G,F2,d',v',rfl,hj,.inl ⟨rfl,hz,.inl ⟨by rw[h1],q⟩⟩,h4,h6,hdj,h2,h7,rfl,rfl,rfl,h5⟩
   ·obtain⟨v',G,F1,F2,h1,h2,h3,h4,h5,h6,h7⟩:=fin vs _ rl;exact⟨a,vs,v',G,rfl,.inl ⟨rfl,q.sq⟩,h3,ds,a,vs,j,F1,G,F2,d',v',rfl,hj,.inl ⟨rfl,hz,.inr ⟨h1,q⟩⟩,h4,h6,hdj,h2,h7,rfl,rfl,rfl,h5⟩
  | tup xs=>
   cases hd;obtain⟨a,vs,rfl,q,rl⟩:=r.Qbn;obtain⟨v',G,F1,F2,h1,h2,h3,h4,h5,h6,h7⟩:=fin vs _ rl;exact⟨a,vs,v',G,rfl,.inr ⟨rfl,q⟩,h3,ds,a,vs,j,F1,G,F2,d',v',rfl,hj,.inr ⟨rfl,h1,q⟩,h4,h6,hdj,h2,h7,rfl,rfl,rfl,h5⟩
  | _=>cases hd
theorem Focus.snoc:∀{is:List Int}{d:D}{v:V}{F:LAd}{dm:D}{w:V}{Gm:LAd}{i:Int}{d':D}{v':V}{G:LAd},Focus K H is d v F dm w Gm->Focus K H [i] dm w Gm d' v' G->Focus K H (is++[i]) d v F d' v' G
 | [],_,_,_,_,_,_,_,_,_,_,h,g=>by
  obtain⟨rfl,rfl,rfl,r⟩:=h;exact g
 | k::is,_,_,_,_,_,_,_,_,_,_,h,g=>by
  obtain⟨ds,a,vs,j,F1,G,F2,d',v',h1,h2,h3,h4,h5,h6,h7,h8,h9⟩:=h;exact⟨ds,a,vs,j,F1,G,F2,d',v',h1,h2,h3,h4,h5,h6,h7,h8,h9.snoc g⟩
noncomputable def QbY:D->List Int->Option D
 | d,[]=>some d
 | d,i::is=>(d.items).bind λds=>(atI ds i).bind λd'=>QbY d' is
theorem Qlz:∀{is:List Int}{d:D}{i:Int}{d':D},QbY d (is++[i])=some d'->∃dm ds,QbY d is=some dm/\dm.items=some ds/\atI ds i=some d'
 | [],d,i,d',h=>by
  refine Qg h λds h1 h=>?_;refine Qg h λd'' h2 h=>?_;cases h;exact⟨d,ds,rfl,h1,h2⟩
 | k::is,d,i,d',h=>by
  refine Qg h λds h1 h=>?_;refine Qg h λd'' h2 h=>?_;obtain⟨dm,es,h3,h4,h5⟩:=Qlz h;refine⟨dm,es,?_,h4,h5⟩;simp only[QbY,h1,h2,Za,h3]
noncomputable def QbN:List Int->D->D->D
 | [],_,new=>new
 | i::is,.lst ds,new=>match ixN ds.length i with
  | some j=> .lst (ds.set j (QbN is (ds.getD j .non) new))
  | none=> .lst ds
 | i::is,.tup ds,new=>match ixN ds.length i with
  | some j=> .tup (ds.set j (QbN is (ds.getD j .non) new))
  | none=> .tup ds
 | _::_,d,_=>d
theorem QjS:∀{ds:List D}{j:Nat}{d e:D},ds[j]? =some d->nls (ds.set j e)+d.nl=nls ds+e.nl
 | [],_,_,_,h=>by simp at h
 | x::ds,0,d,e,h=>by simp at h;subst h;simp only[List.set_cons_zero,nls];omega
 | x::ds,j+1,d,e,h=>by
  have:=QjS (e:=e) (by simpa using h);simp only[List.set_cons_succ,nls];omega
theorem Qej:∀(as bs:List D),nls (as++bs)=nls as+nls bs
 | [],bs=>by simp[nls]
 | a::as,bs=>by simp only[ZbS,nls,Qej as bs];omega
theorem Focus.mut:∀{is:List Int}{d:D}{v:V}{F:LAd}{Gm:LAd},Focus K H is d v F (.lst dsm) (.ref p) Gm->F.Nodup->F.length=d.nl→
  ∃vsm Gp,H p=some (.lst vsm)/\Gm=p::Gp/\Rps K H dsm vsm Gp/\Gp.length=nls dsm/\p∈F/\(∀a∈Gp,a∈F)/\p∉Gp∧
   (Rps K (upd H p (.lst vs')) ds' vs' G'->ds'.length<=sizeLine->G'.length=nls ds'→
    ∃F',Rp K (upd H p (.lst vs')) (QbN is d (.lst ds')) v F'/\F'.length=(QbN is d (.lst ds')).nl/\∀a,F'.count a+Gp.count a=F.count a+G'.count a)
 | [],d,v,F,Gm,h,nd,hl=>by
  obtain⟨rfl,rfl,rfl,r⟩:=h;simp only[Rp]at r;obtain⟨hz,a,vs,e,h⟩:=r;cases e;rcases h with⟨L,rfl,q,rl⟩ | ⟨q,rl⟩
  ·obtain⟨n1,n2⟩:=ZaC.mp nd;have hl':L.length=nls dsm:=by simp only[D.nl,ZR]at hl;omega
   refine⟨vs,L,q,rfl,rl,hl',Zl,λa ha=>Zc _ ha,n1,λr' hz' hl2=>⟨p::G',Rp.Qen Qaa r' hz',?_,λa=>?_⟩⟩
   ·simp only[QbN,D.nl,ZR,hl2]
   ·rw[ZaP,ZaP];omega
  ·have:=rl.QaO;simp only[D.nl]at hl;omega
 | i::is,d,v,F,Gm,h,nd,hl=>by
  obtain⟨ds,a,vs,j,F1,G,F2,d',v',rfl,hj,h3,h4,h5,h6,h7,h8,h9⟩:=h;have hjl:j<ds.length:=(Zk.mp h6).1;have gd:ds.getD j .non=d':=by rw[ZaA,h6];rfl
  have l1:=h4.QaO;have l2:=h5.QaO;have l3:=h9.Qs5.QaO;have nlsplit:nls (ds.take j)+(d'.nl+nls (ds.drop (j+1)))=nls ds:=by
   have e1:ds=ds.take j++d'::ds.drop (j+1):=by
    have:ds[j]=d':=(Zk.mp h6).2;rw[← this,← ZW hjl,ZaZ]
   have e2:=congrArg nls e1;rw[Qej]at e2;simp only[nls]at e2;exact e2.symm
  have core:(F1++(G++F2)).Nodup->(F1++(G++F2)).length=nls ds->_:=λnd' hl'=>by
   simp only[Zy]at hl';have hG:G.length=d'.nl:= ⋯
   have ndG:G.Nodup:=(Zbq.mp (Zbq.mp nd').2.1).1;exact(h9.mut (vs':=vs') (ds':=ds') (G':=G') ndG hG)
  have apart:(F1++(G++F2)).Nodup->p∈G->p∉F1/\p∉F2:=λnd' hp=>by
   have n1:=Zbq.mp nd';have n2:=Zbq.mp n1.2.1;exact⟨λh=>n1.2.2 p h p (Zf _ hp) rfl,λh=>n2.2.2 p hp p h rfl⟩
  have cnt:∀(G'' Gp:LAd),(∀a,G''.count a+Gp.count a=G.count a+G'.count a)->∀a,(F1++(G''++F2)).count a+Gp.count a=(F1++(G++F2)).count a+G'.count a:=λG'' Gp hc a=>by
   have:=hc a;simp only[Zas];omega
  rcases h3 with⟨rfl,hz,⟨rfl,q⟩ | ⟨rfl,q⟩⟩ | ⟨rfl,rfl,q⟩
  ·
   obtain⟨n1,n2⟩:=ZaC.mp nd;have hl':(F1++(G++F2)).length=nls ds:=by simp only[D.nl,ZR]at hl;omega
   obtain⟨vsm,Gp,e1,e2,e3,e4,e5,e6,e7,e8⟩:=core n2 hl';have ap:=apart n2 e5;have hap:a≠p:=λz=>n1 (by rw[z];exact Ze _ (Zf _ e5));refine⟨vsm,Gp,e1,e2,e3,e4,Zc _ (Ze _ (Zf _ e5)),λb hb=>Zc _ (Ze _ (Zf _ (e6 b hb))),e7,λr' hz' hl2=>?_⟩;obtain⟨G'',f1,f2,f3⟩:=e8 r' hz' hl2;have j1:=Rps.join (h4.upd e1 ap.1) f1 (h5.upd e1 ap.2) hjl h7;refine⟨a::(F1++(G''++F2)),?_,?_,λb=>?_⟩
   ·simp only[QbN,hj,gd];exact Rp.Qen (by rw[QR hap];exact q) j1 (by rw[ZY];exact hz)
   ·have:=QjS (e:=QbN is d' (.lst ds')) h6;simp only[QbN,hj,gd,D.nl,ZR,Zy,f2]at hl' ⊢;omega
   ·have:=cnt G'' Gp f3 b;rw[ZaP,ZaP];omega
  ·have:(F1++(G++F2)).length<=nls ds:=by simp only[Zy];omega
   simp only[D.nl]at hl;omega
  ·
   have hl':(F1++(G++F2)).length=nls ds:=by simpa only[D.nl]using hl
   obtain⟨vsm,Gp,e1,e2,e3,e4,e5,e6,e7,e8⟩:=core nd hl';have ap:=apart nd e5;refine⟨vsm,Gp,e1,e2,e3,e4,Ze _ (Zf _ e5),λb hb=>Ze _ (Zf _ (e6 b hb)),e7,λr' hz' hl2=>?_⟩;obtain⟨G'',f1,f2,f3⟩:=e8 r' hz' hl2;have j1:=Rps.join (h4.upd e1 ap.1) f1 (h5.upd e1 ap.2) hjl h7;refine⟨F1++(G''++F2),?_,?_,cnt G'' Gp f3⟩
   ·simp only[QbN,hj,gd,Rp];exact⟨a,vs,rfl,QrF e1 q,j1⟩
   ·have:=QjS (e:=QbN is d' (.lst ds')) h6;simp only[QbN,hj,gd,D.nl,Zy,f2]at hl' ⊢;omega
end
section
theorem Rel.mut(rel:Rel K H0 A0 hs U F σ H)(p:Qaf K U F H H1 r vn Gn)(hf:r.fr=true)(nd:r.M.Nodup)(s12:QS H1 H2)(hx:U[x]? =some (some (d,true)))(hxM:x∉r.M)(hv0:σ[x]? =some (some v0))
  {dnew:D}{q:Addr}{F':LAd}{vsm vs':List V}(e1:H2 q=some (.lst vsm)) (e5:q∈F x) (f1:Rp K (upd H2 q (.lst vs')) dnew v0 F') (f2:F'.length=dnew.nl) (cF:∀a,F'.count a<=(F x).count a+Gn.count a):
  ∃F',Rel K H0 A0 hs ((kill r.M U).set x (some (dnew,true))) F' σ (upd H2 q (.lst vs')):=by
 obtain⟨ol,on,o0,oap,oh⟩:=rel.own x d hx;obtain⟨gn,gs⟩:=p.fresh rel hf nd;have rel2:=(rel.ext p.same).ext s12;have relk:=rel2.weak (Qc8 r.M U);have apn:∀a∈Gn,a∉F x:=λa ha hax=>by
  rcases(gs a ha).2 with z | ⟨k,d',hk,ek,hak⟩
  ·obtain⟨vs,w⟩:=rel.mem hx hax;rw[z]at w;cases w
  ·have:k≠x:=λz=>hxM (z▸hk);exact oap k d' true this ek a hax hak
 have memF:∀a∈F',a∈F x∨a∈Gn:=λa ha=>by
  have h1:=cF a;have h2:0<F'.count a:=Zai.mpr ha;by_cases h:a∈F x
  ·exact .inl h
  ·rw[ZS.mpr h]at h1;exact .inr (Zai.mp ⋯)
 have apart:∀(j:Nat) d' b,j≠x->(kill r.M U)[j]? =some (some (d',b))->∀a∈F',a∉F j:=λj d' b hj e a ha haj=>by
  obtain⟨b',e',_⟩:=(Qc8 r.M U).2 j d' b e;rcases memF a ha with h | h
  ·exact oap j d' b' hj e' a h haj
  ·rcases(gs a h).2 with z | ⟨k,d'',hk,ek,hak⟩
   ·obtain⟨vs,w⟩:=rel.mem e' haj;rw[z]at w;cases w
   ·have hjk:j≠k:=λz=>by subst z;exact Qjx r.M U j d' b hk e
    exact(rel.own k d'' ek).2.2.2.1 j d' b' hjk e' a hak haj
 have apartH:∀t∈hs,∀a∈F',a∉t.2.2:=λt ht a ha hat=>by
  rcases memF a ha with h | h
  ·exact oh t ht a h hat
  ·rcases(gs a h).2 with z | ⟨k,d'',hk,ek,hak⟩
   ·obtain⟨vs,w⟩:=(rel.held t ht).1.mem a hat
    rw[z]at w;cases w
   ·exact(rel.own k d'' ek).2.2.2.2 t ht a hak hat
 have nqj:∀(j:Nat) d' b,j≠x->U[j]? =some (some (d',b))->q∉F j:=λj d' b hj e h=>oap j d' b hj e q e5 h;have nF':F'.Nodup:=Zap.mpr λa=>by
  have h1:=cF a;have h2:=Zap.mp on a;have h3:=Zap.mp gn a;by_cases h:a∈Gn
  ·rw[ZS.mpr (apn a h)]at h1;omega
  ·rw[ZS.mpr h]at h1;omega
 have lt:∀{j:Nat}{z:Option (D×Bool)}{y:D×Bool},((kill r.M U).set j z)[j]? =some (some y)->j<(kill r.M U).length:=λ{j z y} e=>by
  by_cases hl:j<(kill r.M U).length
  ·exact hl
  ·rw[Zu (by simp;omega)]at e;cases e
 refine⟨λj=>if j=x then F' else F j,by simp[relk.len],λj d' b e=>?_,λj d' e=>?_,λj d' b e a ha=>?_,λt ht=>⟨(relk.held t ht).1.upd e1 λh=>oh t ht q e5 h,(relk.held t ht).2⟩,λb o hb=>?_⟩
 ·by_cases hj:j=x
  ·subst hj;have hl:=lt e;rw[Zn hl]at e;cases e;exact⟨v0,hv0,by rw[if_pos rfl];exact f1⟩
  ·rw[Zd (Ne.symm hj)]at e;obtain⟨w,h1,h2⟩:=relk.val j d' b e;obtain⟨b',e',_⟩:=(Qc8 r.M U).2 j d' b e;exact⟨w,h1,by rw[if_neg hj];exact h2.upd e1 (nqj j d' b' hj e')⟩
 ·by_cases hj:j=x
  ·subst hj;have hl:=lt e;rw[Zn hl]at e;cases e;rw[if_pos rfl];refine⟨f2,nF',λa ha=>?_,λk d'' b hk ek a ha=>?_,apartH⟩
   ·rcases memF a ha with h | h
    ·exact o0 a h
    ·exact(gs a h).1
   ·rw[Zd (Ne.symm hk)]at ek;rw[if_neg hk];exact apart k d'' b hk ek a ha
  ·rw[Zd (Ne.symm hj)]at e;obtain⟨h1,h2,h3,h4,h5⟩:=relk.own j d' e;rw[if_neg hj];refine⟨h1,h2,h3,λk d'' b hk ek a ha=>?_,h5⟩;by_cases hki:k=x
   ·subst hki;rw[if_pos rfl];exact λhG=>apart j d' true hj e a hG ha
   ·rw[Zd (Ne.symm hki)]at ek;rw[if_neg hki];exact h4 k d'' b hk ek a ha
 ·by_cases hj:j=x
  ·subst hj;rw[if_pos rfl]at ha;rcases memF a ha with h | h
   ·exact .inl (o0 a h)
   ·exact .inl (gs a h).1
  ·rw[Zd (Ne.symm hj)]at e;rw[if_neg hj]at ha;exact relk.src j d' b e a ha
 ·have hbq:b≠q:=λz=>by rw[z,o0 q e5]at hb;cases hb
  rw[QR hbq];exact relk.same b o hb
end
noncomputable abbrev DP:=En->Option (List Int)
noncomputable def QaQ:DP:=λ_=>some []
noncomputable def QdC(p:DP)(fb:DE):DP:=λU=>(p U).bind λis=>(fb U).bind λr=>match r.d with
 | .int i=>some (is++[i])
 | _=>none
noncomputable def tP(K:Fgg)(H0:Hp)(A0:LAd)(x:Nat)(pf:DP):TE:=λσ H Q=>∃U hs F d b is dm,Rel K H0 A0 hs U F σ H/\U[x]? =some (some (d,b))/\pf U=some is/\QbY d is=some dm∧
 ∀v0 v H' Gm,QS H H'->σ[x]? =some (some v0)->Focus K H' is d v0 (F x) dm v Gm->Q v H'
def SPa(X:Cx)(e:Expr)(x:Nat)(pf:DP):Prop:=∀H0 A0,PE X e (tP X.K H0 A0 x pf)
section
theorem QfS(h:PE X (.Name y pos) (QgO x)):SPa X (.Name y pos) x QaQ:=λH0 A0=>h.mono λσ H Q Z=>by
 obtain⟨U,hs,F,d,b,is,dm,rel,hx,hp,hd,q⟩:=Z;cases hp;cases hd;obtain⟨v,h1,h2⟩:=rel.val x d b hx;exact⟨v,h1,q v v H (F x) (QS.refl _) h1 ⟨rfl,rfl,rfl,h2⟩⟩
theorem QhC(ha:SPa X a x pf)(hb:SE X b fb)(hs:QhD b):SPa X (.Subscript a b pos) x (QdC pf fb):=λH0 A0=>
 (Qsd (QrD.or QuF) (ha H0 A0) (hb H0 A0) hs).mono λσ H Q Z=>by
  obtain⟨U,hs,F,d,b',is,dm,rel,hx,hp,hd,q⟩:=Z;refine Qg hp λis' e1 hp=>?_;refine Qg hp λr e2 hp=>?_;cases hr:r.d with
  | int i=>
   rw[hr]at hp;cases hp;obtain⟨dn,ds,g1,g2,g3⟩:=Qlz hd;refine⟨U,hs,F,d,b',is',dn,rel,hx,e1,g1,λv0 w H1 Gm s1 hv fo=>⟨U,hs,F,r,rel.ext s1,e2,λu H2 G p2=>?_⟩⟩;have rp:=p2.rp;rw[hr]at rp;rw[rp.int_inv];have fo2:=fo.same p2.same;obtain⟨c,vs,v',G',rfl,hc,h3,h4⟩:=Focus.one fo2.rp g2 g3;have fin:=q v0 v' H2 G' (s1.trans p2.same) hv (fo2.snoc h4);rcases hc with⟨_,hc⟩ | ⟨_,hc⟩
   ·exact .inl ⟨c,vs,i,v',rfl,rfl,hc,h3,fin⟩
   ·exact .inr ⟨c,vs,i,v',rfl,rfl,hc,h3,fin⟩
  | _=>rw[hr]at hp;cases hp
noncomputable def QcQ(x:Nat)(pf:DP)(fi fa:DE):DS:=λU=>(fa U).bind λr0=>match U[x]? with
 | some (some (d,true))=>(pf U).bind λis=>(fi U).bind λri=>match ri.d,QbY d is with
  | .int k,some (.lst ds)=>(ixN ds.length k).bind λj=>if r0.norm.fr && decide r0.norm.M.Nodup && !r0.norm.M.contains x then some (.nx ((kill r0.norm.M U).set x (some (QbN is d (.lst (ds.set j r0.d)),true))))else
   if is.isEmpty && !r0.norm.M.contains x then some (.nx ((Qba r0.norm.M U).set x (some (.lst (ds.set j r0.d),false))))else
   none
  | _,_=>none
 | _=>none
theorem set_mk(hq:H2 q=some (.lst vsm))(rs:Rps K H2 dsm vsm Gp)(hl:Gp.length=nls dsm)(nq:q∉Gp)(nqn:q∉Gn)(hn:Rp K H2 dn vn Gn)(hnl:Gn.length=dn.nl)(hj:j<dsm.length):
  ∃G',Rps K (upd H2 q (.lst (vsm.set j vn))) (dsm.set j dn) (vsm.set j vn) G'/\G'.length=nls (dsm.set j dn)/\∀a,G'.count a<=Gp.count a+Gn.count a:=by
 obtain⟨F1,G,F2,v,e1,e2,h1,h2,h3⟩:=rs.split (j:=j) (d:=dsm[j]) (by simp[hj]);subst e1;have hjv:j<vsm.length:=by rw[← rs.length];exact hj
 have n1:q∉F1:=λh=>nq (Zf _ h);have n2:q∉F2:=λh=>nq (Ze _ (Ze _ h));refine⟨F1++(Gn++F2),Rps.Qxk (h1.upd hq n1) (hn.upd hq nqn) (h3.upd hq n2) hj hjv,?_,λa=>?_⟩
 ·have:=QjS (ds:=dsm) (j:=j) (d:=dsm[j]) (e:=dn) (by simp[hj]);have l1:=h1.QaO;have l2:=h2.QaO;have l3:=h3.QaO;have e1:nls (dsm.take j)+((dsm[j]).nl+nls (dsm.drop (j+1)))=nls dsm:=by
   have e2:=congrArg nls (ZaZ j dsm);rw[Qej,ZW hj]at e2;simpa only[nls]using e2
  simp only[Zy]at hl ⊢;omega
 ·simp only[Zas];omega
theorem Qaf.QgK(p:Qaf K U F H H1 r v G)(s:QS H1 H2):Qaf K U F H H2 r v G:=⟨p.same.trans s,p.rp.same s,p.src,p.cnt,p.own⟩
theorem Qnx(hq:H2 q=some (.lst vsm))(rs:Rps K H2 dsm vsm Gp)(nq:q∉Gp)(nqn:q∉Gn)(hn:Rp K H2 dn vn Gn)(hj:j<dsm.length):
  ∃G',Rps K (upd H2 q (.lst (vsm.set j vn))) (dsm.set j dn) (vsm.set j vn) G'/\∀a∈G',a∈Gp∨a∈Gn:=by
 obtain⟨F1,G,F2,v,e1,e2,h1,h2,h3⟩:=rs.split (j:=j) (d:=dsm[j]) (by simp[hj]);subst e1;have hjv:j<vsm.length:=by rw[← rs.length];exact hj
 have n1:q∉F1:=λh=>nq (Zf _ h);have n2:q∉F2:=λh=>nq (Ze _ (Ze _ h));refine⟨F1++(Gn++F2),Rps.Qxk (h1.upd hq n1) (hn.upd hq nqn) (h3.upd hq n2) hj hjv,λa ha=>?_⟩;rcases ZF.mp ha with h | h
 ·exact .inl (Zf _ h)
 ·rcases ZF.mp h with h | h
  ·exact .inr h
  ·exact .inl (Ze _ (Ze _ h))
theorem Qkm:∀(M:List Nat) (U:En) (x:Nat),x∉M->(Qba M U)[x]? =U[x]?
 | [],U,x,_=>rfl
 | i::M,U,x,h=>by
  have hi:i≠x:=λe=>h (e▸Zl);unfold Qba;rw[Qkm M _ x λe=>h (Zc _ e)];split
  ·rw[Zd hi]
  ·rfl
theorem Rel.QDC(rel:Rel K H0 A0 hs U F σ H)(hx:U[x]? =some (some (d,true)))(sh:Shr H0 A0 U F Gn)(hv0:σ[x]? =some (some v0))
  {dnew:D}{q:Addr}{G':LAd}{vsm vs':List V}(e1:H q=some (.lst vsm)) (e5:q∈F x) (f1:Rp K (upd H q (.lst vs')) dnew v0 G') (mem:∀a∈G',a∈F x∨a∈Gn):
  ∃F',Rel K H0 A0 hs (U.set x (some (dnew,false))) F' σ (upd H q (.lst vs')):=by
 obtain⟨ol,on,o0,oap,oh⟩:=rel.own x d hx;have lt:∀{j:Nat}{z:Option (D×Bool)}{y:D×Bool},(U.set j z)[j]? =some (some y)->j<U.length:=λ{j z y} e=>by
  by_cases hl:j<U.length
  ·exact hl
  ·rw[Zu (by simp;omega)]at e;cases e
 refine⟨λj=>if j=x then G' else F j,by simp[rel.len],λj d' b e=>?_,λj d' e=>?_,λj d' b e a ha=>?_,λt ht=>⟨(rel.held t ht).1.upd e1 λh=>oh t ht q e5 h,(rel.held t ht).2⟩,λb o hb=>?_⟩
 ·by_cases hj:j=x
  ·subst hj;have hl:=lt e;rw[Zn hl]at e;cases e;exact⟨v0,hv0,by rw[if_pos rfl];exact f1⟩
  ·rw[Zd (Ne.symm hj)]at e;obtain⟨w,h1,h2⟩:=rel.val j d' b e;exact⟨w,h1,by rw[if_neg hj];exact h2.upd e1 λh=>oap j d' b hj e q e5 h⟩
 ·by_cases hj:j=x
  ·subst hj;have hl:=lt e;rw[Zn hl]at e;cases e
  ·rw[Zd (Ne.symm hj)]at e;obtain⟨h1,h2,h3,h4,h5⟩:=rel.own j d' e;rw[if_neg hj];refine⟨h1,h2,h3,λk d'' b hk ek a ha=>?_,h5⟩;by_cases hki:k=x
   ·subst hki;rw[if_pos rfl];intro hG;rcases mem a hG with h | h
    ·exact h4 k d true (Ne.symm hj) hx a ha h
    ·exact(sh a h).2 j d' e ha
   ·rw[Zd (Ne.symm hki)]at ek;rw[if_neg hki];exact h4 k d'' b hk ek a ha
 ·by_cases hj:j=x
  ·subst hj;rw[if_pos rfl]at ha;rcases mem a ha with h | h
   ·exact .inl (o0 a h)
   ·exact(sh a h).1
  ·rw[Zd (Ne.symm hj)]at e;rw[if_neg hj]at ha;exact rel.src j d' b e a ha
 ·have hbq:b≠q:=λz=>by rw[z,o0 q e5]at hb;cases hb
  rw[QR hbq];exact rel.same b o hb
theorem QAG(hv:SE X e fa)(ho:SPa X a x pf)(hi:SE X i fi)
  (h:∀te to ti,PE X e te->PE X a to->PE X i ti->PS X (.Assign [.Subscript a i pos'] e pos) (QeO te (L2.QaL to ti QgI))):S1 X (.Assign [.Subscript a i pos'] e pos) (QcQ x pf fi fa):=λH0 A0=>
 (h _ _ _ (hv H0 A0) (ho H0 A0) (hi H0 A0)).mono λE σ H=>exK λU hs F o rel e q=>by
  refine Qg e λr0 e1 e=>?_;split at e
  ·rename_i d hx;refine Qg e λis e2 e=>?_;refine Qg e λri e3 e=>?_;split at e
   ·rename_i k ds hk hp;refine Qg e λj e4 e=>?_;split at e
    ·rename_i hc;cases e;simp only[Zm,decide_eq_true_eq,ZaH]at hc;obtain⟨⟨c1,c2⟩,c3⟩:=hc;have c3:x∉r0.norm.M:=λh=>by rw[Zbw.mpr h]at c3;cases c3
     refine⟨U,hs,F,r0,rel,e1,λvn H1 Gn p=>⟨U,hs,F,d,true,is,.lst ds,rel.ext p.same,hx,e2,hp,λv0 w H2 Gm s2 hv0 fo=>⟨U,hs,F,ri,(rel.ext p.same).ext s2,e3,λu H3 Gi pi=>?_⟩⟩⟩;have p':=(p.norm.QgK s2).QgK pi.same;have fo3:=fo.same pi.same;have rpi:=pi.rp;rw[hk]at rpi;rw[rpi.int_inv];obtain⟨l,ws,L,rfl,_⟩:=fo3.rp.lst_inv;obtain⟨ol,on,_,oap,_⟩:=rel.own x d hx;have hjl:=(Qcq e4).2.1;obtain⟨gn,gs⟩:=p'.fresh rel c1 c2;have rn:=p'.rp;rw[r0.Qc3]at rn;have hnl:=(p'.cnt c1).2;rw[r0.Qc3]at hnl;obtain⟨vsm,_,f1,_⟩:=fo3.mut (vs':=[]) (ds':=[]) (G':=[]) on ol;obtain⟨_,_,_,_,_,_,zl,_⟩:=fo3.rp.lst_inv;have key:∃F',Rp X.K (upd H3 l (.lst (vsm.set j vn))) (QbN is d (.lst (ds.set j r0.d))) v0 F'/\F'.length=(QbN is d (.lst (ds.set j r0.d))).nl/\l∈F x/\ds.length=vsm.length/\∀a,F'.count a<=(F x).count a+Gn.count a:=by
      have own5:∀G',_:=λG'=>fo3.mut (vs':=vsm.set j vn) (ds':=ds.set j r0.d) (G':=G') on ol;obtain⟨vs1,Gp,g1,g2,g3,g4,g5,g6,g7,_⟩:=own5 [];rw[f1]at g1;cases g1;have hq:l∉Gn:=λh=>by
       rcases(gs l h).2 with z | ⟨k',d',hk',ek,hak⟩
       ·obtain⟨vs,w⟩:=rel.mem hx g5;rw[z]at w;cases w
       ·exact oap k' d' true (λz=>c3 (z▸hk')) ek l g5 hak
      obtain⟨G',m1,m2,m3⟩:=set_mk f1 g3 g4 g7 hq rn hnl hjl;obtain⟨vs2,Gp2,k1,k2,k3,k4,k5,k6,k7,k8⟩:=own5 G';have eG:Gp2=Gp:=by rw[g2]at k2;exact(List.cons.inj k2).2.symm
      subst eG;obtain⟨F',h1,h2,h3⟩:=k8 m1 (by rw[ZY];exact zl) m2;exact⟨F',h1,h2,g5,g3.length,λa=>by have:=h3 a;have:=m3 a;omega⟩
     obtain⟨F',k1,k2,k3,k4,k5⟩:=key;refine⟨l,vsm,k,j,rfl,rfl,f1,by rw[← k4];exact e4,?_⟩;obtain⟨F'',rel'⟩:=rel.mut p' c1 c2 (QS.refl _) hx c3 hv0 f1 k3 k1 k2 k5;exact q _ _ F'' rel'
    ·
     split at e
     ·rename_i hc;cases e;simp only[Zm,ZaH,List.isEmpty_iff]at hc;obtain⟨rfl,c3⟩:=hc;have c3:x∉r0.norm.M:=λh=>by rw[Zbw.mpr h]at c3;cases c3
      refine⟨U,hs,F,r0,rel,e1,λvn H1 Gn p=>⟨U,hs,F,d,true,[],.lst ds,rel.ext p.same,hx,e2,hp,λv0 w H2 Gm s2 hv0 fo=>⟨U,hs,F,ri,(rel.ext p.same).ext s2,e3,λu H3 Gi pi=>?_⟩⟩⟩;have p':=(p.norm.QgK s2).QgK pi.same;have fo3:=fo.same pi.same;have rpi:=pi.rp;rw[hk]at rpi;rw[rpi.int_inv];obtain⟨l,ws,L,rfl,_⟩:=fo3.rp.lst_inv;obtain⟨ol,on,_,oap,_⟩:=rel.own x d hx;have hjl:=(Qcq e4).2.1;have rn:=p'.rp;rw[r0.Qc3]at rn;obtain⟨vsm,Gp,f1,g2,g3,g4,g5,g6,g7,_⟩:=fo3.mut (vs':=[]) (ds':=[]) (G':=[]) on ol;obtain⟨_,_,_,_,_,_,zl,_⟩:=fo3.rp.lst_inv;have sh:=Shr.of rel p'.src;have relD:=(rel.ext p'.same).weak (Qbp r0.norm.M U);have hxD:(Qba r0.norm.M U)[x]? =some (some (d,true)):=by rw[Qkm _ _ _ c3];exact hx
      have hq:l∉Gn:=λh=>(sh l h).2 x d hxD g5;obtain⟨G',m1,m3⟩:=Qnx f1 g3 g7 hq rn hjl;have e0:v0= .ref l:=(fo3.2.1).symm;subst e0;refine⟨l,vsm,k,j,rfl,rfl,f1,by rw[← g3.length];exact e4,?_⟩;obtain⟨F'',rel'⟩:=relD.QDC (dnew:= .lst (ds.set j r0.d)) (G':=l::G') (vs':=vsm.set j vn) hxD sh hv0 f1 g5 (Rp.Qen Qaa m1 (by rw[ZY];exact zl)) λa ha=>by
       rcases Zi.mp ha with h | h
       ·exact .inl (h▸g5)
       ·rcases m3 a h with h | h
        ·exact .inl (g6 a h)
        ·exact .inr h
      exact q _ _ F'' rel'
     ·
      cases e
   ·cases e
  ·cases e
end
section
variable {K:Fgg}{H0 H H1 H2 H3:Hp}{A0:LAd}{hs:List (V×D×List Addr)}{U:En}{F:Nat->List Addr}{σ:L2.St}
theorem Rel.write(rel:Rel K H0 A0 hs U F σ H)(p:Qaf K U F H H3 r vn Gn)(hf:r.fr=true)(nd:r.M.Nodup)(hx:U[x]? =some (some (d,true)))(hxM:x∉r.M)(hv0:σ[x]? =some (some v0))
  {is:List Int}{ds:List D}{Gm:LAd}(fo:Focus K H3 is d v0 (F x) (.lst ds) w Gm):
  ∃l vsm Gp,w= .ref l/\H3 l=some (.lst vsm)/\Rps K H3 ds vsm Gp/\Gp.length=nls ds/\l∉Gp/\l∉Gn/\ds.length<=sizeLine∧
   ∀ds' vs' G',Rps K (upd H3 l (.lst vs')) ds' vs' G'->ds'.length<=sizeLine->G'.length=nls ds'->(∀a,G'.count a<=Gp.count a+Gn.count a)→
    ∃F',Rel K H0 A0 hs ((kill r.M U).set x (some (QbN is d (.lst ds'),true))) F' σ (upd H3 l (.lst vs')):=by
 obtain⟨l,ws,L,rfl,_,_,zl,_⟩:=fo.rp.lst_inv;obtain⟨ol,on,_,oap,_⟩:=rel.own x d hx;obtain⟨gn,gs⟩:=p.fresh rel hf nd;obtain⟨vsm,Gp,g1,g2,g3,g4,g5,g6,g7,_⟩:=fo.mut (vs':=[]) (ds':=[]) (G':=[]) on ol;have hq:l∉Gn:=λh=>by
  rcases(gs l h).2 with z | ⟨k',d',hk',ek,hak⟩
  ·obtain⟨vs,w⟩:=rel.mem hx g5;rw[z]at w;cases w
  ·exact oap k' d' true (λz=>hxM (z▸hk')) ek l g5 hak
 refine⟨l,vsm,Gp,rfl,g1,g3,g4,g7,hq,zl,λds' vs' G' m1 m2 m3 m4=>?_⟩;obtain⟨vs2,Gp2,k1,k2,k3,k4,k5,k6,k7,k8⟩:=fo.mut (vs':=vs') (ds':=ds') (G':=G') on ol;have eG:Gp2=Gp:=by rw[g2]at k2;exact(List.cons.inj k2).2.symm
 subst eG;obtain⟨F',h1,h2,h3⟩:=k8 m1 m2 m3;exact rel.mut p hf nd (QS.refl _) hx hxM hv0 g1 g5 h1 h2 λa=>by have:=h3 a;have:=m4 a;omega
end
section
variable {X:Cx}{a b e:Expr}{fa fb:DE}{pf:DP}{x:Nat}{pos apos:Pos}
noncomputable def QoE(r:R)(x:Nat):Bool:=r.norm.fr && decide r.norm.M.Nodup && !r.norm.M.contains x
theorem Qtm(h:QoE r x=true):r.norm.fr=true/\r.norm.M.Nodup/\x∉r.norm.M:=by
 unfold QoE at h;simp only[Zm,decide_eq_true_eq,ZaH]at h;exact⟨h.1.1,h.1.2,λz=>by rw[Zbw.mpr z]at h;cases h.2⟩
noncomputable def QkH(x:Nat)(pf:DP)(fa:DE):DS:=λU=>match U[x]? with
 | some (some (d,true))=>(pf U).bind λis=>(fa U).bind λr0=>match QbY d is with
  | some (.lst ds)=>if QoE r0 x && decide (ds.length<sizeLine)then some (.nx ((kill r0.norm.M U).set x (some (QbN is d (.lst (ds++[r0.d])),true))))else none
  | _=>none
 | _=>none
theorem QvW{H0:Hp}{A0:LAd}{E:Ends}{σ:L2.St}{H:Hp}:tS X.K H0 A0 (QkH x pf fa) E σ H->Qss (tBM X.K "list" Qru (tP X.K H0 A0 x pf) (Qh2 (tV X.K H0 A0 fa) Qpl)) E σ H:=exK λU hs F o rel e q=>by
 unfold QkH at e;split at e
 ·rename_i d hx;refine Qg e λis e2 e=>?_;refine Qg e λr0 e1 e=>?_;split at e
  ·rename_i ds hp;split at e
   ·rename_i hc;simp only[Zm,decide_eq_true_eq]at hc;obtain⟨c1,c2,c3⟩:=Qtm hc.1;cases e;refine⟨U,hs,F,d,true,is,.lst ds,rel,hx,e2,hp,λv0 w H2 Gm s2 hv0 fo=>?_⟩;have ty:tyV X.K "list" w H2:=by
     obtain⟨l,ws,L,rfl,hl,_⟩:=fo.rp.lst_inv;exact .inl ⟨rfl,ws,QZ hl⟩
    refine⟨ty,U,hs,F,r0,rel.ext s2,e1,λvn H3 Gn p=>?_⟩;have p':=p.norm;obtain⟨l,vsm,Gp,rfl,g1,g2,g3,g4,g5,g6,g7⟩:=(rel.ext s2).write p' c1 c2 hx c3 hv0 (fo.same p.same);refine⟨l,vsm,vn,rfl,rfl,g1,by rw[← g2.length];exact hc.2,?_⟩;have rn:=p'.rp;rw[r0.Qc3]at rn;have hnl:=(p'.cnt c1).2;rw[r0.Qc3]at hnl;have rw1:Rps X.K (upd H3 l (.lst (vsm++[vn]))) [r0.d] [vn] Gn:=by
     simp only[Rps];exact⟨vn,[],Gn,[],rfl,by simp,rn.upd g1 g5,rfl,rfl⟩
    obtain⟨F',rel'⟩:=g7 (ds++[r0.d]) (vsm++[vn]) (Gp++Gn) ((g2.upd g1 g4).append rw1) (by rw[Zy,Zbv];omega) (by rw[Zy,Qej,g3,hnl];simp[nls]) (λa=>by rw[Zas];omega);exact q _ _ F' rel'
   ·cases e
  ·cases e
 ·cases e
open PyProof.Rows in
theorem QtJ:QBt X (Qz5 X.K):=by
 intro pins s σ H o i ov iv Q I ro ri h;obtain⟨p,xs,k,v,rfl,rfl,hq,ha,q⟩:=h;cases ro;obtain⟨t,rfl⟩:=ri;obtain⟨its,r,pl,hz⟩:=I.list hq;obtain⟨j,h1,h2,h3,h4,h5⟩:=QmZ ha;obtain⟨w,ew,rw'⟩:=r.get h2;have hl:=r.length;have hn:=QhA;by_cases h0:0<=k
 ·refine wpAny_getItem_list pl.isList h0 ⋯ (x:=w) ?_ ⟨v,H,I,rw',q⟩;have:k.toNat=j:=by
   rw[seqIndex_of h0 h5]at h1;exact Option.some.inj h1
  rw[this];simpa using ew
 ·refine wpAny_getItem_list_neg pl.isList ⋯ (by rw[Zw]<;>omega) ⋯ (x:=w) ?_ ⟨v,H,I,rw',q⟩;have hj:(k+(its.toArray.size:Int)).toNat=j:=by
   rw[seqIndex_neg ⋯ h4]at h1;rw[Zw,← hl];exact Option.some.inj h1
  rw[hj];simpa using ew
noncomputable def Qeg(g:D->D->Option D)(x:Nat)(pf:DP)(fi fa:DE):DS:=λU=>match U[x]? with
 | some (some (d,true))=>(pf U).bind λis=>(fi U).bind λri=>match ri.d,QbY d is with
  | .int k,some (.lst ds)=>(ixN ds.length k).bind λj=>(ds[j]?).bind λold=>(fa U).bind λr=>(g old r.d).map λnew=> .nx (U.set x (some (QbN is d (.lst (ds.set j new)),true)))
  | _,_=>none
 | _=>none
theorem Qys(ho:OpR X (inplaceOp op) r)(hg:QcS X.K g r)(hv:SE X e fa)(hp:SPa X a x pf)(hi:SE X i fi)
  (ha:∀ov iv new,augStore i ov iv new=(do holding [new,ov,iv] (setItem ov iv new);release [new,ov,iv] [];pure .next)):S1 X (.AugAssign (.Subscript a i pos') op e pos) (Qeg g x pf fi fa):=λH0 A0=>
 (Qzm (hp H0 A0) (hi H0 A0) QtJ (hv H0 A0) (λpins s σ H x y v u Q I rx ry q=>QC7 ho I rx ry q) set_list ha).mono λE σ H=>exK λU hs F o rel e q=>by
  unfold Qeg at e;split at e
  ·rename_i d hx;refine Qg e λis e2 e=>?_;refine Qg e λri e3 e=>?_;split at e
   ·rename_i k ds hk hp';refine Qg e λj e4 e=>?_;refine Qg e λold e5 e=>?_;refine Qg e λrv e6 e=>?_;obtain⟨new,e7,e⟩:=Zh.mp e;subst e;have hjl:=(Qcq e4).2.1;refine⟨U,hs,F,d,true,is,.lst ds,rel,hx,e2,hp',λv0 w H2 Gm s2 hv0 fo=>⟨U,hs,F,ri,rel.ext s2,e3,λu H3 Gi pi=>?_⟩⟩;have fo3:=fo.same pi.same;have rpi:=pi.rp;rw[hk]at rpi;rw[rpi.int_inv];have at3:atI ds k=some old:=by unfold atI;rw[e4];exact e5
    obtain⟨l,vs,v',Go,rfl,hc,h3,h4⟩:=Focus.one fo3.rp rfl at3;have hc:SqL X.K H3 l vs:=by
     rcases hc with⟨_,hc⟩ | ⟨hc,_⟩
     ·exact hc
     ·cases hc
    refine⟨l,vs,k,v',rfl,rfl,hc,h3,U,hs,F,rv,(rel.ext s2).ext pi.same,e6,λy H4 G4 p4=>?_⟩;have fo4:=fo3.same p4.same;have ro:=h4.rp.same p4.same;refine(hg _ _ _ e7).2 H4 v' y Go G4 _ ro p4.rp λz hz=>?_;have rel4:=((rel.ext s2).ext pi.same).ext p4.same;have pz:Qaf X.K U F H4 H4 ⟨new,true,[]⟩ z []:= .flat (QS.refl _) (hz H4) (hg _ _ _ e7).1;obtain⟨l',vsm,Gp,el,g1,g2,g3,g4,g5,g6,g7⟩:=rel4.write pz rfl Zbb hx (by simp) hv0 fo4;cases el;refine⟨l,vsm,k,j,rfl,rfl,g1,by rw[← g2.length];exact e4,?_⟩;obtain⟨G',m1,m2,m3⟩:=set_mk g1 g2 g3 g4 g5 (hz H4) (QeK new (hg _ _ _ e7).1).symm hjl;obtain⟨F',rel'⟩:=g7 _ _ G' m1 (by rw[ZY];exact g6) m2 m3;exact q _ _ F' rel'
   ·cases e
  ·cases e
end
end HS
namespace HS
open PySem PySem.Spec L2 PyProof.Rows
noncomputable def D.Qxx:D->Option Int
 | .int i=>some i
 | _=>none
noncomputable def Qd5:List D->Option (List Int)
 | []=>some []
 | d::ds=>(d.Qxx).bind λi=>(Qd5 ds).map λr=>i::r
theorem Qc6:∀{ds:List D}{ns:List Int},Qd5 ds=some ns->ds=ns.map .int
 | [],_,h=>by cases h;rfl
 | d::ds,ns,h=>by
  unfold Qd5 at h;refine Qg h λi h1 h=>?_;obtain⟨r,h2,rfl⟩:=Zh.mp h;cases d with
  | int j=>cases h1;rw[Qc6 h2];rfl
  | _=>cases h1
theorem Qid:∀(ns:List Int),Qd5 (ns.map D.int)=some ns
 | []=>rfl
 | n::ns=>by simp[Qd5,Qid ns,D.Qxx]
theorem Rps.ints{K:Fgg}{H:Hp}:∀{ns:List Int}{vs:List V}{F:LAd},Rps K H (ns.map .int) vs F->vs=ns.map .int
 | [],_,_,h=>by simp only[List.map_nil,Rps]at h;rw[h.1];rfl
 | n::ns,_,_,h=>by
  simp only[ZH,Rps]at h;obtain⟨v,ws,F1,F2,rfl,rfl,r,q⟩:=h;rw[r.int_inv,Rps.ints q];rfl
theorem Qb4(h:QM (ns.map V.int) us):IntsAre us ns:=intsAre_of h
section
variable {X:Cx}{a b e:Expr}{es:List Expr}{fa fb:DE}{fs:DA}{pos p2:Pos}
theorem QAr(he:PE X e te)(hk:PE X k tk):PE X (.Subscript e (.Slice none none (some k) p2) pos)
  (λσ H Q=>te σ H λx H1=>tk σ H1 λy H2=>∃a xs,x= .ref a/\y= .int (-1)/\SqL X.K H2 a xs/\∀p,H2 p=none->Q (.ref p) (upd H2 p (.lst xs.reverse))):=by
 intro pins s σ H Q I h;refine PyProof.Rows.Subscript_ (thn (he pins s σ H _ I h) λv s1=>exJ λx H1 I1 r1 q1=>?_);refine wpAny_Slice ?_;rw[evalPart_none];refine wpAny_pure (wpAny_pure ?_);rw[evalPart_some];refine thn (hk pins s1 σ H1 _ I1 q1) λvk s3=>exJ λy H3 I3 r3 q3=>?_;obtain⟨c,xs,rfl,rfl,hq,q⟩:=q3;cases r1;obtain⟨t,rfl⟩:=r3;have I4:Inv X pins σ H3 {s3 with heap:=s3.heap.push {cls:= .type "slice",data:= .fields #[.none,.none,.int (-1) t]}}:=I3.kept (t':=s3.toks) λb ob q=>Zb _ q;obtain⟨its,r,ht,hz⟩:=I4.list hq;have hlen:=r.length;refine tail_any ht.isList.typeIs slot_list_getitem.lookup ?_ (by with_unfolding_all rfl);refine wpAny_getItem_list_slice ht.isList (Heap.IsSliceOf.new ..) .none .none (.int (-1) t) (by simp) ?_ (by rw[Zw]<;>omega);rw[PySem.W.krv_pick];refine⟨.ref _,_,I4.laid (t':=s3.toks) (λb ob q=>Zb _ q) (Zj _) ?_,rfl,q _ (I4.hok.fresh (Zj _))⟩;exact⟨by rw[ZbH];exact hz,its.reverse,0,r.reverse,Zz _ rfl⟩
theorem Rps.rev{K:Fgg}{H:Hp}:∀{ds:List D}{vs:List V}{F:LAd},Rps K H ds vs F->∃G,Rps K H ds.reverse vs.reverse G/\∀a∈G,a∈F
 | [],_,_,h=>by simp only[Rps]at h;rw[h.1,h.2];exact⟨[],by simp[Rps],λ_ h=>h⟩
 | d::ds,_,_,h=>by
  simp only[Rps]at h;obtain⟨v,ws,F1,F2,rfl,rfl,r,q⟩:=h;obtain⟨G,h1,h2⟩:=Rps.rev q;refine⟨G++F1,?_,λa ha=>?_⟩
  ·rw[Zbo,Zbo];refine h1.append ?_;simp only[Rps];exact⟨v,[],F1,[],rfl,by simp,r,rfl,rfl⟩
  ·rcases ZF.mp ha with z | z
   ·exact Ze _ (h2 a z)
   ·exact Zf _ z
noncomputable def Qpe(fa fk:DE):DE:=λU=>(fa U).bind λra=>(fk U).bind λrk=>match ra.d,rk.d with
 | .lst xs,.int (-1)=>some (Qbv xs.reverse ra.M)
 | _,_=>none
theorem QBi{k:Expr}{fk:DE}(ha:SE X a fa)(hk:SE X k fk):SE X (.Subscript a (.Slice none none (some k) p2) pos) (Qpe fa fk):=λH0 A0=>
 (QAr (ha H0 A0) (hk H0 A0)).mono λσ H Q=>exK λU hs F r' rel e q=>by
  refine Qg e λra e1 e=>?_;refine Qg e λrk e2 e=>?_;refine two rel e1 e2 λx y H1 H2 G1 G2 p1 p2=>?_;split at e
  ·rename_i xs hra hrk;cases e;have rp:=p1.rp.same p2.same;have rk':=p2.rp;rw[hra]at rp;rw[hrk]at rk';obtain⟨c,vs,L,rfl,hc,rl,zl,el⟩:=rp.lst_inv;refine⟨c,vs,rfl,rk'.int_inv,QZ hc,λp hp=>?_⟩;obtain⟨G,h1,h2⟩:=rl.rev;refine q _ _ (p::G) (Qaf.Qbv (p1.same.trans p2.same) hp h1 (by rw[ZbH];exact zl) (λz hz=>p1.src z ?_) p1.own);rcases el with rfl | rfl
   ·exact Zc _ (h2 z hz)
   ·exact h2 z hz
  ·cases e
noncomputable def Qr7(K:Fgg)(C:List Int->Int->Prop):List V->Hp->VK->Prop:=λxs H Q=>∃(p:Addr) (ns:List Int),xs=[.ref p]/\(SqL K H p (ns.map V.int)∨SqT K H p (ns.map V.int))/\ns≠[]/\∀M,C ns M->Q (.int M) H
def Ql1(ns:List Int)(M:Int):Prop:=M∈ns/\∀a∈ns,M<=a
def isMax(ns:List Int)(M:Int):Prop:=M∈ns/\∀a∈ns,a<=M
theorem Qdj(hi:IntsAre us ns):∃xs:Array (Int×Tok),us.toArray=intItems xs/\ns=xs.toList.map (·.1):=by
 obtain⟨xs,e⟩:=hi.allInts.items;exact⟨xs,e,by rw[← hi.numsOf,← nums_intItems,← e]⟩
theorem Qqa(hh:A.handled=none)(hl:s.heap.IsTuple l (intItems xs))(hne:0<xs.size)
  (h:∀v h' tk,(intItems xs)[argBest (λi j=>decide (numAt xs i<numAt xs j)) (xs.size-1)]? =some v->(∀b o,s.heap.get? b=some o->h'.get? b=some o)->Q v {s with heap:=h',toks:=tk}):
  wpAny (model prog w) A (call (.builtin "min") [.ref l]) Q E s:=by
 have hlt:l<s.heap.objs.size:=by obtain⟨_,e,_⟩:=hl;exact Zt e
 refine call_min_walk (wpAny_pyIter_tuple hl ?_);refine⟨_,[_,l],[_],_,_,_,_,rfl,Walks.tuple (A:=A.in1) hh _ l (ZM hlt) (intItems xs),⟨⟨_,Zz _ rfl,rfl,rfl⟩,hl.push _⟩,λb hb=>?_,by simpa[intItems]using hne,CmpOf.ints_lt (numAt xs) (λ_ _=>intItems_at),λv h' tk hP hk=>?_⟩
 ·show b<(s.heap.push _).objs.size;rw[Zao];rcases Zi.mp hb with rfl | hb
  ·exact Zbd _
  ·rcases Zi.mp hb with rfl | hb
   ·exact ZaR hlt
   ·cases hb
 ·refine h v h' tk (by simpa[intItems]using hP) λb o e=>?_;refine hk b o (λhm=>?_) (Zb _ e);rcases Zi.mp hm with e1 | hm
  ·exact absurd (e1▸Zt e) (ZX _)
  ·cases hm
theorem Qtb(hc:X.calm=true):QcT X (.builtin "min") (Qr7 X.K Ql1):=by
 intro pins s σ H xs us Q I r h;obtain⟨p,ns,rfl,hq,hne,q⟩:=h;obtain⟨u,rfl,rx⟩:=vals1 r;cases rx;rcases hq with hq | hq
 ·obtain⟨its,r',pl,hz⟩:=I.list hq;obtain⟨ys,e,hns⟩:=Qdj (Qb4 r');have hl:=pl.isList;rw[e]at hl;have hsz:0<ys.size:=by
   rcases ZaL ys.size with z | z
   ·exact absurd (by rw[hns,Zbg];exact Zat (by simpa using z)) hne
   ·exact z
  refine min_intList (I.ok.hd hc) hl hsz λv h' tk hv hk=>?_;obtain⟨t,rfl⟩:=intItems_at hv;obtain⟨h1,h2⟩:=argBest_lt (numAt ys) (ys.size-1);refine⟨.int _,H,I.kept hk,⟨t,rfl⟩,q _ ⟨?_,λa ha=>?_⟩⟩
  ·rw[hns,numAt_eq];exact getD_mem (by rw[Zq,Zag];omega)
  ·rw[hns]at ha;obtain⟨j,hj,rfl⟩:=mem_getD ha;rw[Zq,Zag]at hj;rw[← numAt_eq];exact h2 j ⋯
 ·obtain⟨its,r',pl,hz⟩:=I.tuple hq;obtain⟨ys,e,hns⟩:=Qdj (Qb4 r');have hl:=pl;rw[e]at hl;have hsz:0<ys.size:=by
   rcases ZaL ys.size with z | z
   ·exact absurd (by rw[hns,Zbg];exact Zat (by simpa using z)) hne
   ·exact z
  refine Qqa (I.ok.hd hc) hl hsz λv h' tk hv hk=>?_;obtain⟨t,rfl⟩:=intItems_at hv;obtain⟨h1,h2⟩:=argBest_lt (numAt ys) (ys.size-1);refine⟨.int _,H,I.kept hk,⟨t,rfl⟩,q _ ⟨?_,λa ha=>?_⟩⟩
  ·rw[hns,numAt_eq];exact getD_mem (by rw[Zq,Zag];omega)
  ·rw[hns]at ha;obtain⟨j,hj,rfl⟩:=mem_getD ha;rw[Zq,Zag]at hj;rw[← numAt_eq];exact h2 j ⋯
theorem Qp0(hh:A.handled=none)(hl:s.heap.IsTuple l (intItems xs))(hne:0<xs.size)
  (h:∀v h' tk,(intItems xs)[argBest (λi j=>decide (numAt xs i>numAt xs j)) (xs.size-1)]? =some v->(∀b o,s.heap.get? b=some o->h'.get? b=some o)->Q v {s with heap:=h',toks:=tk}):
  wpAny (model prog w) A (call (.builtin "max") [.ref l]) Q E s:=by
 have hlt:l<s.heap.objs.size:=by obtain⟨_,e,_⟩:=hl;exact Zt e
 refine call_max_walk (wpAny_pyIter_tuple hl ?_);refine⟨_,[_,l],[_],_,_,_,_,rfl,Walks.tuple (A:=A.in1) hh _ l (ZM hlt) (intItems xs),⟨⟨_,Zz _ rfl,rfl,rfl⟩,hl.push _⟩,λb hb=>?_,by simpa[intItems]using hne,CmpOf.ints_gt (numAt xs) (λ_ _=>intItems_at),λv h' tk hP hk=>?_⟩
 ·show b<(s.heap.push _).objs.size;rw[Zao];rcases Zi.mp hb with rfl | hb
  ·exact Zbd _
  ·rcases Zi.mp hb with rfl | hb
   ·exact ZaR hlt
   ·cases hb
 ·refine h v h' tk (by simpa[intItems]using hP) λb o e=>?_;refine hk b o (λhm=>?_) (Zb _ e);rcases Zi.mp hm with e1 | hm
  ·exact absurd (e1▸Zt e) (ZX _)
  ·cases hm
theorem QtQ(hc:X.calm=true):QcT X (.builtin "max") (Qr7 X.K isMax):=by
 intro pins s σ H xs us Q I r h;obtain⟨p,ns,rfl,hq,hne,q⟩:=h;obtain⟨u,rfl,rx⟩:=vals1 r;cases rx;rcases hq with hq | hq
 ·obtain⟨its,r',pl,hz⟩:=I.list hq;obtain⟨ys,e,hns⟩:=Qdj (Qb4 r');have hl:=pl.isList;rw[e]at hl;have hsz:0<ys.size:=by
   rcases ZaL ys.size with z | z
   ·exact absurd (by rw[hns,Zbg];exact Zat (by simpa using z)) hne
   ·exact z
  refine max_intList (I.ok.hd hc) hl hsz λv h' tk hv hk=>?_;obtain⟨t,rfl⟩:=intItems_at hv;obtain⟨h1,h2⟩:=argBest_gt (numAt ys) (ys.size-1);refine⟨.int _,H,I.kept hk,⟨t,rfl⟩,q _ ⟨?_,λa ha=>?_⟩⟩
  ·rw[hns,numAt_eq];exact getD_mem (by rw[Zq,Zag];omega)
  ·rw[hns]at ha;obtain⟨j,hj,rfl⟩:=mem_getD ha;rw[Zq,Zag]at hj;rw[← numAt_eq];exact h2 j ⋯
 ·obtain⟨its,r',pl,hz⟩:=I.tuple hq;obtain⟨ys,e,hns⟩:=Qdj (Qb4 r');have hl:=pl;rw[e]at hl;have hsz:0<ys.size:=by
   rcases ZaL ys.size with z | z
   ·exact absurd (by rw[hns,Zbg];exact Zat (by simpa using z)) hne
   ·exact z
  refine Qp0 (I.ok.hd hc) hl hsz λv h' tk hv hk=>?_;obtain⟨t,rfl⟩:=intItems_at hv;obtain⟨h1,h2⟩:=argBest_gt (numAt ys) (ys.size-1);refine⟨.int _,H,I.kept hk,⟨t,rfl⟩,q _ ⟨?_,λa ha=>?_⟩⟩
  ·rw[hns,numAt_eq];exact getD_mem (by rw[Zq,Zag];omega)
  ·rw[hns]at ha;obtain⟨j,hj,rfl⟩:=mem_getD ha;rw[Zq,Zag]at hj;rw[← numAt_eq];exact h2 j ⋯
theorem Qph(hh:A.handled=none)(hl:s.heap.IsTuple l (intItems xs))
  (h:∀h' tk t',(∀b o,s.heap.get? b=some o->h'.get? b=some o)->Q (.int (preSum (numAt xs) xs.size) t') {s with heap:=h',toks:=tk}):
  wpAny (model prog w) A (call (.builtin "sum") [.ref l]) Q E s:=by
 have hlt:l<s.heap.objs.size:=by obtain⟨_,e,_⟩:=hl;exact Zt e
 refine call_sum_walkG (wpAny_pyIter_tuple hl ?_);refine⟨_,[_,l],[_],_,_,_,numAt xs,rfl,Walks.tuple (A:=A.in1) hh _ l (ZM hlt) (intItems xs),⟨⟨_,Zz _ rfl,rfl,rfl⟩,hl.push _⟩,λb hb=>?_,(λ_ _=>intItems_at),λh' tk t' hk=>?_⟩
 ·show b<(s.heap.push _).objs.size;rw[Zao];rcases Zi.mp hb with rfl | hb
  ·exact Zbd _
  ·rcases Zi.mp hb with rfl | hb
   ·exact ZaR hlt
   ·cases hb
 ·have:=h h' tk t' λb o e=>by
   refine hk b o (λhm=>?_) (Zb _ e);rcases Zi.mp hm with e1 | hm
   ·exact absurd (e1▸Zt e) (ZX _)
   ·cases hm
  simpa[intItems]using this
noncomputable def QzM(K:Fgg):List V->Hp->VK->Prop:=λxs H Q=>∃(p:Addr) (ns:List Int),xs=[.ref p]/\(SqL K H p (ns.map V.int)∨SqT K H p (ns.map V.int))/\Q (.int ns.sum) H
theorem Qtg(hc:X.calm=true):QcT X (.builtin "sum") (QzM X.K):=by
 intro pins s σ H xs us Q I r h;obtain⟨p,ns,rfl,hq,q⟩:=h;obtain⟨u,rfl,rx⟩:=vals1 r;cases rx;rcases hq with hq | hq
 ·obtain⟨its,r',pl,hz⟩:=I.list hq;obtain⟨ys,e,hns⟩:=Qdj (Qb4 r');have hl:=pl.isList;rw[e]at hl;refine sum_intListG (I.ok.hd hc) hl λh' tk t' hk=>?_;refine⟨.int ns.sum,H,I.kept hk,⟨t',?_⟩,q⟩;rw[preSum_eq,Zbr (by simp),hns]
 ·obtain⟨its,r',pl,hz⟩:=I.tuple hq;obtain⟨ys,e,hns⟩:=Qdj (Qb4 r');have hl:=pl;rw[e]at hl;refine Qph (I.ok.hd hc) hl λh' tk t' hk=>?_;refine⟨.int ns.sum,H,I.kept hk,⟨t',?_⟩,q⟩;rw[preSum_eq,Zbr (by simp),hns]
noncomputable def Qk8:List Int->Option Int
 | []=>none
 | [n]=>some n
 | n::r=>(Qk8 r).map λm=>if m<n then m else n
noncomputable def QkI:List Int->Option Int
 | []=>none
 | [n]=>some n
 | n::r=>(QkI r).map λm=>if n<m then m else n
theorem Qkc:∀{ns:List Int}{m:Int},Qk8 ns=some m->Ql1 ns m
 | [],_,h=>by cases h
 | [n],_,h=>by cases h;exact⟨by simp,λa ha=>by simp at ha;omega⟩
 | n::k::r,m,h=>by
  simp only[Qk8]at h;obtain⟨m',h1,rfl⟩:=Zh.mp h;obtain⟨h2,h3⟩:=Qkc h1;constructor
  ·split
   ·exact Zc _ h2
   ·exact Zl
  ·intro a ha;rcases Zi.mp ha with rfl | ha
   ·split<;>omega
   ·have:=h3 a ha;split<;>omega
theorem Qj0:∀{ns:List Int}{m:Int},QkI ns=some m->isMax ns m
 | [],_,h=>by cases h
 | [n],_,h=>by cases h;exact⟨by simp,λa ha=>by simp at ha;omega⟩
 | n::k::r,m,h=>by
  simp only[QkI]at h;obtain⟨m',h1,rfl⟩:=Zh.mp h;obtain⟨h2,h3⟩:=Qj0 h1;constructor
  ·split
   ·exact Zc _ h2
   ·exact Zl
  ·intro a ha;rcases Zi.mp ha with rfl | ha
   ·split<;>omega
   ·have:=h3 a ha;split<;>omega
theorem QnM{ns:List Int}{a b:Int}(h:Ql1 ns a)(g:Ql1 ns b):a=b:=by have:=h.2 b g.1;have:=g.2 a h.1;omega
theorem QnE{ns:List Int}{a b:Int}(h:isMax ns a)(g:isMax ns b):a=b:=by have:=h.2 b g.1;have:=g.2 a h.1;omega
noncomputable def QcB:List D->Option D
 | [.lst xs]=>(Qd5 xs).bind λns=>(Qk8 ns).map .int
 | [.tup xs]=>(Qd5 xs).bind λns=>(Qk8 ns).map .int
 | _=>none
noncomputable def QgF:List D->Option D
 | [.lst xs]=>(Qd5 xs).bind λns=>(QkI ns).map .int
 | [.tup xs]=>(Qd5 xs).bind λns=>(QkI ns).map .int
 | _=>none
noncomputable def QjH:List D->Option D
 | [.lst xs]=>(Qd5 xs).map λns=> .int ns.sum
 | [.tup xs]=>(Qd5 xs).map λns=> .int ns.sum
 | _=>none
theorem Qzu{K:Fgg}:Qe6 K QcB (Qr7 K Ql1):=λds d e=>by
 unfold QcB at e;split at e
 ·refine Qg e λns h1 e=>?_;obtain⟨m,h2,rfl⟩:=Zh.mp e;refine⟨rfl,λH vs F Q r q=>?_⟩;obtain⟨v,rfl,rp⟩:=r.one;obtain⟨l,ws,L,rfl,hl,rl,zl,el⟩:=rp.lst_inv;rw[Qc6 h1]at rl;rw[rl.ints]at hl;exact⟨l,ns,rfl,.inl (QZ hl),λz=>(by rw[z]at h2;cases h2),λM hM=>by rw[QnM hM (Qkc h2)];exact q _ λ_=> .int_mk⟩
 ·refine Qg e λns h1 e=>?_;obtain⟨m,h2,rfl⟩:=Zh.mp e;refine⟨rfl,λH vs F Q r q=>?_⟩;obtain⟨v,rfl,rp⟩:=r.one;obtain⟨l,ws,rfl,hl,rl⟩:=rp.Qbn;rw[Qc6 h1]at rl;rw[rl.ints]at hl;exact⟨l,ns,rfl,.inr hl,λz=>(by rw[z]at h2;cases h2),λM hM=>by rw[QnM hM (Qkc h2)];exact q _ λ_=> .int_mk⟩
 ·cases e
theorem Qzc{K:Fgg}:Qe6 K QgF (Qr7 K isMax):=λds d e=>by
 unfold QgF at e;split at e
 ·refine Qg e λns h1 e=>?_;obtain⟨m,h2,rfl⟩:=Zh.mp e;refine⟨rfl,λH vs F Q r q=>?_⟩;obtain⟨v,rfl,rp⟩:=r.one;obtain⟨l,ws,L,rfl,hl,rl,zl,el⟩:=rp.lst_inv;rw[Qc6 h1]at rl;rw[rl.ints]at hl;exact⟨l,ns,rfl,.inl (QZ hl),λz=>(by rw[z]at h2;cases h2),λM hM=>by rw[QnE hM (Qj0 h2)];exact q _ λ_=> .int_mk⟩
 ·refine Qg e λns h1 e=>?_;obtain⟨m,h2,rfl⟩:=Zh.mp e;refine⟨rfl,λH vs F Q r q=>?_⟩;obtain⟨v,rfl,rp⟩:=r.one;obtain⟨l,ws,rfl,hl,rl⟩:=rp.Qbn;rw[Qc6 h1]at rl;rw[rl.ints]at hl;exact⟨l,ns,rfl,.inr hl,λz=>(by rw[z]at h2;cases h2),λM hM=>by rw[QnE hM (Qj0 h2)];exact q _ λ_=> .int_mk⟩
 ·cases e
theorem QyM{K:Fgg}:Qe6 K QjH (QzM K):=λds d e=>by
 unfold QjH at e;split at e
 ·obtain⟨ns,h1,rfl⟩:=Zh.mp e;refine⟨rfl,λH vs F Q r q=>?_⟩;obtain⟨v,rfl,rp⟩:=r.one;obtain⟨l,ws,L,rfl,hl,rl,zl,el⟩:=rp.lst_inv;rw[Qc6 h1]at rl;rw[rl.ints]at hl;exact⟨l,ns,rfl,.inl (QZ hl),q _ λ_=> .int_mk⟩
 ·obtain⟨ns,h1,rfl⟩:=Zh.mp e;refine⟨rfl,λH vs F Q r q=>?_⟩;obtain⟨v,rfl,rp⟩:=r.one;obtain⟨l,ws,rfl,hl,rl⟩:=rp.Qbn;rw[Qc6 h1]at rl;rw[rl.ints]at hl;exact⟨l,ns,rfl,.inr hl,q _ λ_=> .int_mk⟩
 ·cases e
end
section
variable {X:Cx}{a b c e tg:Expr}{es:List Expr}{fa fb fc:DE}{fs:DA}{pos p2:Pos}
noncomputable def Itd(hi:Int)(n:Nat):It:=⟨λi _=>i<n,λi H x H'=>H'=H/\x= .int (hi-i),λi _=>n<=i⟩
theorem QqQ{P:Program}{w:World}{K:Fgg}{tg:Expr}(it:Addr)(lo:Int)(n:Nat):Turn P w K tg (Itd lo n) [it] it (λi h=>IsRangeIter h it (lo+(i:Nat)*(-1)) ((n:Int)-(i:Nat)) (-1)) where
 mem:=by simp
 obj:=λi h st b hb=>by
  have e:b=it:=by simpa using hb
  subst e;exact⟨_,st,λv z=>by
   have z':Data.fields _=Data.cell v:=z;cases z'⟩
 keep:=λi h h' st k=>k it (by simp) _ st
 item:=by
  intro X hP hw hK hc i pins s σ H E I hf st hg;subst hP hw hK;obtain⟨f0,f1,f2,f3,f4,f5⟩:=hf it (by simp);have W:=Walks.range (prog:=X.prog) (w:=X.w) (I.ok.hd hc) it lo (-1) n;refine W.item i s _ _ hg st λv h' tk hv st' kk=>?_;obtain⟨t,rfl⟩:=hv;have I1:Inv X pins σ H {s with heap:=h',toks:=tk}:=I.turned (λb o hb e=>kk b o (by simpa using hb) e) f0 f1 f3 f4 f5;refine⟨_,rfl,QoA st' rfl rfl (by decide) ⟨.int (lo-i),H,I1,⟨t,?_⟩,⟨rfl,rfl⟩,st',λb hb=>(hf b hb).1⟩⟩;rw[show lo+(i:Int)* -1=lo-i by omega]
 done:=by
  intro X hP hw hK hc i pins s σ H E I hf st hg;subst hP hw hK;obtain⟨f0,f1,f2,f3,f4,f5⟩:=hf it (by simp);exact wpAny_pyNext_range_end (I.ok.hd hc) st (by have:n<=i:=hg;omega) λh' eb=>⟨rfl,I.turned (t':=s.toks) (λb o hb e=>eb b o hb e) f0 f1 f3 f4 f5⟩
 self:=λ_ _ _ _ _ st h=>wpAny_pyIter_rangeiter st h
theorem Qn3(lo hi:Int):Builtin.Range.rangeSize lo hi (-1)=if lo>hi then lo-hi else 0:=by
 unfold Builtin.Range.rangeSize;rw[if_neg (by decide)];split
 ·rw[show(- -1:Int)=1 by decide,Int.ediv_one];omega
 ·rfl
theorem small_down{lo hi:Int}(h1: -(2^62)<=lo)(h2:lo<2^62)(h3: -(2^62)<=hi)(h4:hi<2^62):Builtin.Range.small lo hi (-1)=true:=by
 unfold Builtin.Range.small;rw[Qn3];simp only[Builtin.Range.rangeFitsLong,Zm,Zce,decide_eq_true_eq,beq_iff_eq,show ¬((-1:Int)>0) by decide,if_false];split<;>omega
theorem QuO{pins:List (Addr×Obj)}{σ:L2.St}{H:Hp}{s:Shared}{R:It->Hp->Prop}{E:Value->Shared->Prop}{lo hi:Int}{t u v:Tok}{tk:Nat}(I:Inv X pins σ H s)(h1: -(2^62)<=lo)(h2:lo<2^62)(h3: -(2^62)<=hi)(h4:hi<2^62)
  (q:R (Itd lo (lo-hi).toNat) H):wpAny (model X.prog X.w) X.A (pyIter (.ref s.heap.objs.size)) (PIE X pins σ tg R) E {s with heap:=s.heap.push {cls:= .type "range",data:= .fields #[.int lo t,.int hi u,.int (-1) v]},toks:=tk}:=by
 refine wpAny_pyIter_range (IsRange.new ..) (small_down h1 h2 h3 h4) ?_;have I1:Inv X pins σ H {s with heap:=s.heap.push {cls:= .type "range",data:= .fields #[.int lo t,.int hi u,.int (-1) v]},toks:=tk}:=I.kept λb o e=>Zb _ e
 refine⟨(s.heap.push {cls:= .type "range",data:= .fields #[.int lo t,.int hi u,.int (-1) v]}).objs.size,[(s.heap.push {cls:= .type "range",data:= .fields #[.int lo t,.int hi u,.int (-1) v]}).objs.size],_,_,H,rfl,
  I1.kept (t':=tk) λb o e=>Zb _ e,QqQ _ lo (lo-hi).toNat,?_,λb hb=>?_,q⟩
 ·have e1:lo+((0:Nat):Int)*(-1)=lo:=by simp
  have e2:(((lo-hi).toNat:Nat):Int)-((0:Nat):Int)=Builtin.Range.rangeSize lo hi (-1):=by rw[Qn3];split<;>omega
  show IsRangeIter _ _ (lo+((0:Nat):Int)*(-1)) ((((lo-hi).toNat:Nat):Int)-((0:Nat):Int)) (-1);rw[e1,e2];exact Zz _ rfl
 ·have e:b=(s.heap.push {cls:= .type "range",data:= .fields #[.int lo t,.int hi u,.int (-1) v]}).objs.size:=by simpa using hb
  subst e;exact I1.QkU (Zj _) (I1.hok.fresh (Zj _))
noncomputable def QCd(ta:TA):TI:=λσ H R=>ta σ H λvs H1=>∃i j:Int,vs=[.int i,.int j,.int (-1)]/\(-(2^62)<=i/\i<2^62/\ -(2^62)<=j/\j<2^62)/\R (Itd i (i-j).toNat) H1
theorem QuS(hg:Gl X "range")(hm:X.mg "range" =none)(ha:PA X [a,b,c] ta)(hs:starEach [a,b,c] X.env=(false,eval a X.env)::starEach [b,c] X.env)(hs2:(backTo pos (starEach [b,c] X.env)).any (·.1)=false):
  PI X tg (.Call (.Name "range" p) [a,b,c] [] pos) (QCd ta):=by
 intro pins s σ H R I h;refine Call_ (Qdx I hg hm boot_range (Zad (thn (ha pos pins s σ H _ I h) λus s1 ⟨vs,H1,I1,r1,q1⟩=>?_) hs hs2));obtain⟨i,j,e,⟨q1,q2,q3,q4⟩,q⟩:=q1;subst e;cases r1 with
 | cons r rr=>
  cases rr with
  | cons r' rr=>
   cases rr with
   | cons r'' rr=>
    cases rr;obtain⟨t,rfl⟩:=r;obtain⟨t',rfl⟩:=r';obtain⟨t'',rfl⟩:=r'';exact call_range_3 (by decide) (QuO I1 q1 q2 q3 q4 q) (.inl (ZbO (by decide+kernel)))
noncomputable def Qnh(hi:Int)(n:Nat):List D:=(List.range n).map λ(k:Nat)=> .int (hi-(k:Int))
theorem QwA{lo:Int}{n i:Nat}{d:D}(h:(Qnh lo n)[i]? =some d):i<n/\d= .int (lo-i):=by
 unfold Qnh at h;rw[Zs]at h;by_cases hi:i<n
 ·rw[ZK hi]at h;cases h;exact⟨hi,rfl⟩
 ·rw[Zu (by simp;omega)]at h;cases h
noncomputable def QfF(fa fb fc:DE):DI:=λU=>(fa U).bind λr=>(fb U).bind λr'=>(fc U).bind λr''=>match r.d,r'.d,r''.d with
 | .int i,.int j,.int (-1)=>if i-j<=16777216/\ -(2^62)<=i/\i<2^62/\ -(2^62)<=j/\j<2^62 then some ⟨Qnh i (i-j).toNat,[]⟩else none
 | _,_,_=>none
theorem QkY{lo:Int}{n:Nat}:(Qnh lo n).length=n:=by simp[Qnh]
theorem QqP{K:Fgg}{lo:Int}{n:Nat}:Walk K (Itd lo n) [] (Qnh lo n) where
 stop:=λH _=>by rw[QkY];exact Zj _
 go:=λi H hi _=>by rw[QkY]at hi;exact hi
 yld:=λi d H x H' e _ y=>by
  obtain⟨h1,rfl⟩:=QwA e;obtain⟨rfl,rfl⟩:=y;exact⟨QS.refl _,[],.int_mk,λz hz=>by simp at hz⟩
theorem QtI(hg:Gl X "range")(hm:X.mg "range" =none)(ha:SE X a fa)(hb:SE X b fb)(hc:SE X c fc)(h1:starEach [a,b,c] X.env=(false,eval a X.env)::starEach [b,c] X.env)(h2:starEach [b,c] X.env=(false,eval b X.env)::starEach [c] X.env)(h3:starEach [c] X.env=(false,eval c X.env)::starEach [] X.env):
  SI X tg (.Call (.Name "range" p) [a,b,c] [] pos) (QfF fa fb fc):=λH0 A0=>
 (QuS hg hm (Qap (ha H0 A0) (Qap (hb H0 A0) (Qap (hc H0 A0) Qc1 h3) h2) h1) h1 (by rw[h2,h3];rfl)).mono λσ H Rr=>exK λU hs F ir rel e q=>by
  refine Qg e λr e1 e=>?_;refine Qg e λr' e2 e=>?_;refine Qg e λr'' e3 e=>?_;refine⟨U,hs,F,r,rel,e1,λv H1 G pp=>⟨U,hs,F,r',rel.ext pp.same,e2,λv' H2 G' pp'=>⟨U,hs,F,r'',(rel.ext pp.same).ext pp'.same,e3,λv'' H3 G'' pp''=>?_⟩⟩⟩;split at e
  ·rename_i i j hr hr' hr'';split at e
   ·rename_i hz;cases e;have rp:=(pp.rp.same pp'.same).same pp''.same;have rp':=pp'.rp.same pp''.same;have rp'':=pp''.rp;rw[hr]at rp;rw[hr']at rp';rw[hr'']at rp'';rw[rp.int_inv,rp'.int_inv,rp''.int_inv];refine⟨i,j,rfl,hz.2,q _ H3 [] ((pp.same.trans pp'.same).trans pp''.same) QqP (λt ht=>by simp at ht) QbM.nil ?_⟩;rw[QkY,Qmv];omega
   ·cases e
  ·cases e
theorem QyH:MtR X "int.bit_length" (λx vs H Q=>∃i,x= .int i/\vs=[]/\Q (.int (Builtin.Int.intBits i)) H):=by
 intro pins s σ H x vs v us Q I rx rv h;obtain⟨i,rfl,rfl,q⟩:=h;obtain⟨t,rfl⟩:=rx;have hus:=rv.zero;subst hus;exact call_int_bit_length ⟨.int _,H,I.tok _,⟨_,rfl⟩,q⟩
noncomputable def Qot(fa:DE):DE:=λU=>(fa U).bind λr=>match r.d with
 | .int i=>some ⟨.int (Builtin.Int.intBits i),true,[]⟩
 | _=>none
theorem QyN(ha:SE X a fa)(hb:attributeBase a "bit_length" X.env (eval a X.env)=eval a X.env)(hl:(apos.endLine == cpos.line)=true):SE X (.Call (.Attribute a "bit_length" apos) [] [] cpos) (Qot fa):=λH0 A0=>
 (Qz2 PySem.F.plainAttrs_int PySem.F.slot_int_bit_length PySem.F.type_int_bit_length QyH (ha H0 A0) hb hl).mono λσ H Q=>exK λU hs F r' rel e q=>by
  refine Qg e λra e1 e=>?_;refine⟨U,hs,F,ra,rel,e1,λv H1 G p1=>?_⟩;cases hd:ra.d with
  | int i=>
   rw[hd]at e;cases e;have rp:=p1.rp;rw[hd]at rp;rw[rp.int_inv];exact⟨rfl,i,rfl,rfl,q _ _ [] (.flat p1.same .int_mk)⟩
  | _=>rw[hd]at e;cases e
noncomputable def QsH(fs:DA):DE:=λU=>(fs U).bind λr=>match r.ds with
 | [.lst xs]=>if Qam xs=true then some ⟨.tup xs,true,[]⟩else none
 | _=>none
theorem QxO(hg:Gl X "tuple")(hm:X.mg "tuple" =none)(ha:SA X (e::es) fs)(he:starEach (e::es) X.env=(false,eval e X.env)::starEach es X.env)(hpl:(backTo pos (starEach es X.env)).any (·.1)=false):
  SE X (.Call (.Name "tuple" p) (e::es) [] pos) (QsH fs):=λH0 A0=>
 (Qjk Qor hg hm ZbV (ha H0 A0) (by decide) (by decide) he hpl).mono λσ H Q=>exK λU hs F r' rel e q=>by
  refine Qg e λra e1 e=>?_;refine⟨U,hs,F,ra,rel,e1,λvs H1 G p1=>?_⟩;split at e
  ·rename_i xs hds;split at e
   ·rename_i hf;cases e;have rp:=p1.rp;rw[hds]at rp;obtain⟨v,rfl,rq⟩:=rp.one;obtain⟨l,ws,L,rfl,hl,rl,zl,el⟩:=rq.lst_inv;have:=rl.QcC hf;subst this;refine⟨l,ws,rfl,.inl ⟨QZ hl,λc hc=>q _ _ [] (.flat (p1.same.trans (Qbz hc)) (Rp.Qht Qaa (rl.same (Qbz hc))) (by simp only[D.flat];exact hf))⟩⟩
   ·cases e
  ·cases e
end
end HS
namespace HS
open PySem PySem.Spec PyProof.Rows L2
section
variable {X:Cx}{a b c:Expr}{fa fb fc:DE}{pos:Pos}
end
end HS
namespace HS
open PySem PySem.Spec L2
structure FnR where
 n:Nat
 dfl:List D
 den:Den
structure Th where
 N:List Str
 sc:List (Str×NameKind)
 Γ:List (Str×FnR)
 cs:List (Str×Int)
 tr:Stmt->Option DS:=λ_=>none
noncomputable def posOf(x:Str):List Str->Option Nat
 | []=>none
 | y::ys=>if x=y then some 0 else(posOf x ys).map (· +1)
theorem Qgs:∀{x:Str}{ys:List Str}{i:Nat},posOf x ys=some i->ys[i]? =some x
 | x,[],i,h=>by cases h
 | x,y::ys,i,h=>by
  unfold posOf at h;split at h
  ·rename_i e;cases h;subst e;rfl
  ·obtain⟨j,hj,rfl⟩:=Zh.mp h;simpa using Qgs hj
noncomputable def look{α:Type}(x:Str):List (Str×α)->Option α
 | []=>none
 | (y,a)::r=>if x=y then some a else look x r
theorem Qb1{α:Type}:∀{x:Str}{l:List (Str×α)},look x l=l.lookup x
 | x,[]=>rfl
 | x,(y,a)::r=>by
  unfold look;rw[Zv];by_cases h:x=y
  ·subst h;simp
  ·rw[if_neg h,Qb1];have:(x == y)=false:=by simpa using h
   rw[this]
noncomputable def Qxh:NameKind->Bool
 | .local =>true | .cell=>true | .free=>true | _=>false
noncomputable def Qxj:NameKind->Bool
 | .local =>true | .cell=>true | _=>false
noncomputable def QC0:NameKind->Bool
 | .globalImplicit=>true | _=>false
noncomputable def isFree:NameKind->Bool
 | .free=>true | _=>false
noncomputable def odd(x:Str):Bool:=decide (x= "__debug__") || decide (x= "__classdict__") || decide (x= "__name__")
noncomputable def Th.slot(Y:Th)(x:Str):Option Nat:=if((look x Y.sc).map Qxh).getD false && !odd x then posOf x Y.N else none
noncomputable def Th.QbU(Y:Th)(x:Str):Option Nat:=if((look x Y.sc).map Qxj).getD false && !odd x then posOf x Y.N else none
noncomputable def Th.gl(Y:Th)(x:Str):Bool:=((look x Y.sc).map QC0).getD false && !odd x
def Qyd(X:Cx)(x:Str)(r:FnR):Prop:=∃k f fd ps,QcF X.prog X.w X.K X.mg X.base CX0 k f fd ps (spV X.K r.n r.den)/\Qbx k X.A/\X.mg x=some (.ref f)/\PySem.W.keepIn X.K (.ref f)=true∧
 ∀m,m<=r.dfl.length->∃ds dvs,Binds X.K fd ps ds/\QM dvs ds/\∀H,Rps X.K H (r.dfl.drop (r.dfl.length-m)) dvs []
noncomputable def Qqn:List Str:=["range","enumerate","zip","len","list","min","max","sum","abs","isinstance","int","bool","tuple","str","divmod","sorted","any","all"]
structure CtxB (X:Cx) (Y:Th):Prop where
 N:X.N=Y.N
 nd:Y.N.Nodup
 lc:∀x,look x Y.sc=some .local ->X.env.scope.names.lookup x=some .local
 ce:∀x,look x Y.sc=some .cell->X.env.scope.names.lookup x=some .cell/\X.fn x=true
 fe:∀x,look x Y.sc=some .free->X.env.scope.names.lookup x=some .cell∨X.env.scope.names.lookup x=some .free
 gl:∀x,look x Y.sc=some .globalImplicit->X.env.scope.names.lookup x=some .globalImplicit
 units:X.A.units+64<cLine
 mg:∀x∈Qqn,X.mg x=none
 cs:∀x i,look x Y.cs=some i->∃t,X.mg x=some (.int i t)
structure Q7 (X:Cx) (Y:Th):Prop extends CtxB X Y where
 calm:X.calm=true
 pass:PassesOwn (model X.prog X.w) X.A X.env X.xe
 fns:∀x r,look x Y.Γ=some r->Qyd X x r
 tr:∀st f,Y.tr st=some f->S1 X st f
section
theorem Qrl(h:odd x=false):(x == ("__debug__" :Str))=false/\(x == ("__classdict__" :Str))=false/\x≠ "__name__" :=by
 unfold odd at h;simp only[Bool.or_eq_false_iff,decide_eq_false_iff_not]at h;exact⟨by simpa using h.1.1,by simpa using h.1.2,h.2⟩
theorem Qaw(ok:CtxB X Y)(h:Y.slot x=some i):PE X (.Name x pos) (QgO i):=by
 unfold Th.slot at h;split at h
 ·rename_i hc;simp only[Zm,ZaH]at hc;obtain⟨h1,h2,_⟩:=Qrl hc.2;refine QBb (by rw[ok.N];exact Qgs h) ?_ h1 h2;cases q:look x Y.sc with
  | none=>rw[q]at hc;cases hc.1
  | some k=>
   rw[q]at hc;cases k with
   | «local» =>exact .inl (ok.lc x q)
   | cell=>exact .inr (.inl (ok.ce x q).1)
   | free=>exact .inr (ok.fe x q)
   | _=>cases hc.1
 ·cases h
theorem QcI(ok:CtxB X Y)(h:Y.QbU x=some i):X.N[i]? =some x/\Loc X.env.scope x/\(X.fn x=true∨X.env.scope.names.lookup x=some .local):=by
 unfold Th.QbU at h;split at h
 ·rename_i hc;simp only[Zm,ZaH]at hc;refine⟨by rw[ok.N];exact Qgs h,?_⟩;cases q:look x Y.sc with
  | none=>rw[q]at hc;cases hc.1
  | some k=>
   rw[q]at hc;cases k with
   | «local» =>exact⟨.inl (ok.lc x q),.inr (ok.lc x q)⟩
   | cell=>exact⟨.inr (ok.ce x q).1,.inl (ok.ce x q).2⟩
   | _=>cases hc.1
 ·cases h
theorem Qer(ok:CtxB X Y)(h:Y.gl x=true):Gl X x/\(x == ("__debug__" :Str))=false/\x≠ "__name__" :=by
 unfold Th.gl at h;simp only[Zm,ZaH]at h;obtain⟨h1,h2,h3⟩:=Qrl h.2;refine⟨?_,h1,h3⟩;cases q:look x Y.sc with
 | none=>rw[q]at h;cases h.1
 | some k=>
  rw[q]at h;cases k with
  | globalImplicit=>exact ok.gl x q
  | _=>cases h.1
end
noncomputable def isTup:Expr->Bool
 | .Tuple .. =>true
 | _=>false
noncomputable def QbR:Expr->Option Str
 | .Name x _=>some x
 | _=>none
noncomputable def QkX(Y:Th):Expr->Option Tg
 | .Name x _=>(Y.QbU x).map .nm
 | .Tuple es _ _=>((es.mapM QbR).bind λxs=>xs.mapM Y.QbU).map .tp
 | _=>none
noncomputable def Qsq:CmpOp->Option (D->D->Option D)
 | .Eq=>some gEq | .NotEq=>some gNe | .Lt=>some gLt | .LtE=>some gLe | .Gt=>some gGt | .GtE=>some gGe
 | .Is=>none | .IsNot=>none
 | .In=>none | .NotIn=>none
noncomputable def Qwh(x:Str):Option String:=
 if x= "int" then some "int" else if x= "bool" then some "bool" else if x= "list" then some "list" else if x= "tuple" then some "tuple" else if x= "str" then some "str" else none
noncomputable def inner(Y:Th)(scope:Scope):Th:={N:=(scope.names.filter λy=>Qxh y.2).map (·.1),sc:=scope.names,Γ:=Y.Γ,cs:=Y.cs}
noncomputable def QjI(Y:Th)(scope:Scope):List (Option Nat):=(inner Y scope).N.map λx=>if((look x scope.names).map isFree).getD false then posOf x Y.N else none
noncomputable def QlV(Y:Th)(scope:Scope)(t:Tg):Bool:=(scope.kind == .function) && decide (inner Y scope).N.Nodup &&
 (scope.names.all λy=>match y.2 with
  | .cell=>decide (look y.1 scope.names=some .cell)
  | .local =>decide (look y.1 scope.names=some .local)
  | .free=>match look y.1 Y.sc with
   | some .cell=>true
   | some .free=>true
   | _=>false
  | _=>true) &&
 t.slots.all λj=>match (QjI Y scope)[j]? with
  | some (some _)=>false
  | _=>true
noncomputable def QBN:List Expr->Bool
 | []=>true | [_]=>true | _=>false
noncomputable def bf1(x:Str)(fa:DE):Option DE:=
 if x= "len" then some (dBf Qa3 (Qa fa Qc))else
 if x= "list" then some (dList (Qa fa Qc))else
 if x= "abs" then some (dBf Qi6 (Qa fa Qc))else
 if x= "min" then some (dBf QcB (Qa fa Qc))else
 if x= "max" then some (dBf QgF (Qa fa Qc))else
 if x= "sum" then some (dBf QjH (Qa fa Qc))else
 if x= "tuple" then some (QsH (Qa fa Qc))else
 none
noncomputable def bf2(x:Str)(fa fb:DE):Option DE:=
 if x= "min" then some (dBf QlF (Qa fa (Qa fb Qc)))else
 if x= "max" then some (dBf Qmo (Qa fa (Qa fb Qc)))else
 none
mutual
noncomputable def Qs(n:Nat)(Y:Th)(e:Expr):Option DE:=match n with
 | 0=>none
 | n+1=>match e with
  | .Name x _=>match Y.slot x with
   | some i=>some (Ql i)
   | none=>if Y.gl x then(look x Y.cs).map λi=>dC (.int i)else none
  | .Constant (.int i) _ _=>some (dC (.int i))
  | .Constant (.bool b) _ _=>some (dC (.bl b))
  | .Constant .none _ _=>some (dC .non)
  | .Constant (.str x) _ _=>some (dC (.str x))
  | .BinOp a op b _=>(Qs n Y a).bind λfa=>(Qs n Y b).bind λfb=>match op with
   | .Add=>some (QL fa fb)
   | .Mult=>some (QY fa fb)
   | .Sub=>some (dOp QaL fa fb)
   | .FloorDiv=>some (dOp Qbb fa fb)
   | .Mod=>some (dOp Q3 fa fb)
   | .Pow=>some (dOp QmW fa fb)
   | .RShift=>some (dOp QoQ fa fb)
   | _=>none
  | .UnaryOp .USub a _=>(Qs n Y a).map Qii
  | .UnaryOp .Not a _=>(Qs n Y a).map QmX
  | .BoolOp .And [a] _=>Qs n Y a
  | .BoolOp .And (a::b::r) p=>(Qs n Y a).bind λfa=>(Qs n Y (.BoolOp .And (b::r) p)).map λfb=>QcY fa fb
  | .BoolOp .Or [a] _=>Qs n Y a
  | .BoolOp .Or (a::b::r) p=>(Qs n Y a).bind λfa=>(Qs n Y (.BoolOp .Or (b::r) p)).map λfb=>dOr fa fb
  | .Compare a [op] [b] _=>(Qs n Y a).bind λfa=>(Qs n Y b).bind λfb=>(Qsq op).map λg=>dOp g fa fb
  | .IfExp c a b _=>(Qbg n Y c).bind λg=>(Qs n Y a).bind λfa=>(Qs n Y b).map λfb=>dIf g fa fb
  | .Tuple es _ _=>(QbV n Y es).map Qar
  | .List es _=>(QbV n Y es).map QX
  | .Subscript a (.Slice lo hi none _) _=>(Qs n Y a).bind λfa=>(QlL n Y lo).bind λfl=>(QlL n Y hi).map λfh=>Qdp fa fl fh
  | .Subscript a (.Slice none none (some k) _) _=>(Qs n Y a).bind λfa=>(Qs n Y k).map λfk=>Qpe fa fk
  | .Subscript a b _=>(Qs n Y a).bind λfa=>(Qs n Y b).map λfb=>Qm fa fb
  | .Call (.Name x _) args [] _=>if Y.gl x then(match look x Y.Γ with
    | some r=>if r.n<=args.length+r.dfl.length/\args.length<=r.n then(QbV n Y args).map λfs=>Qf r.n r.den (r.dfl.drop (r.dfl.length-(r.n-args.length))) fs else none
    | none=>Qow n Y x args)else none
  | .Call (.Attribute (.Name x p) m apos) [] [] cpos=>if m= "bit_length" /\(apos.endLine == cpos.line)=true then(Qs n Y (.Name x p)).map Qot else none
  | .ListComp elt [⟨tg,iter,ifs,0⟩] scope _=>(QkX (inner Y scope) tg).bind λt=>if QlV Y scope t && QBN ifs then
    (Qh4 n Y tg iter).bind λfi=>(Qhw n (inner Y scope) ifs).bind λft=>(Qs n (inner Y scope) elt).map λfe=>QG fi t (QjI Y scope) ft fe else none
  | _=>none
noncomputable def Qow(n:Nat)(Y:Th)(x:Str)(args:List Expr):Option DE:=match n with
 | 0=>none
 | n+1=>match args with
  | [a]=>(Qs n Y a).bind λfa=>bf1 x fa
  | [a,b]=>if x= "isinstance" then(Qs n Y a).bind λfa=>match b with
    | .Name y _=>if Y.gl y then(Qwh y).map λT=>QwC T fa else none
    | _=>none
   else(Qs n Y a).bind λfa=>(Qs n Y b).bind λfb=>bf2 x fa fb
  | _=>none
noncomputable def Qbg(n:Nat)(Y:Th)(e:Expr):Option DT:=match n with
 | 0=>none
 | n+1=>match e with
  | .UnaryOp .Not a _=>(Qbg n Y a).map Qdo
  | .BoolOp .And [a] _=>Qbg n Y a
  | .BoolOp .And (a::b::r) p=>(Qbg n Y a).bind λfa=>(Qbg n Y (.BoolOp .And (b::r) p)).map λfb=>Qih fa fb
  | .BoolOp .Or [a] _=>Qbg n Y a
  | .BoolOp .Or (a::b::r) p=>(Qbg n Y a).bind λfa=>(Qbg n Y (.BoolOp .Or (b::r) p)).map λfb=>bOr fa fb
  | .Compare a [op] [b] _=>(Qs n Y a).bind λfa=>(Qs n Y b).bind λfb=>(Qsq op).map λg=>QF (dOp g fa fb)
  | .BoolOp _ _ _=>none
  | .IfExp _ _ _ _=>none
  | .Compare _ _ _ _=>none
  | e=>(Qs n Y e).map QF
noncomputable def Qhw(n:Nat)(Y:Th)(es:List Expr):Option DT:=match n with
 | 0=>none
 | n+1=>match es with
  | []=>some QO
  | [c]=>Qbg n Y c
  | _=>none
noncomputable def QbV(n:Nat)(Y:Th)(es:List Expr):Option DA:=match n with
 | 0=>none
 | n+1=>match es with
  | []=>some Qc
  | e::es=>(Qs n Y e).bind λfa=>(QbV n Y es).map λfs=>Qa fa fs
noncomputable def QlL(n:Nat)(Y:Th)(e:Option Expr):Option DO:=match n with
 | 0=>none
 | n+1=>match e with
  | none=>some Qch
  | some e=>(Qs n Y e).map Qcf
noncomputable def Qh4(n:Nat)(Y:Th)(tg e:Expr):Option DI:=match n with
 | 0=>none
 | n+1=>match e with
  | .Call (.Name x _) args [] _=>if Y.gl x && (look x Y.Γ).isNone then(match args with
    | [a]=>if x= "range" then(Qs n Y a).map Qa7 else
     if x= "enumerate" then(if isTup tg then(Qs n Y a).map Qb9 else none)else
     (Qs n Y e).map QW
    | [a,b,c]=>
     if x= "range" then(Qs n Y a).bind λfa=>(Qs n Y b).bind λfb=>(Qs n Y c).map λfc=>QfF fa fb fc else
     if x= "zip" then(if isTup tg then(Qs n Y a).bind λfa=>(Qs n Y b).bind λfb=>(Qs n Y c).map λfc=>Qhp fa fb fc else none)else
     (Qs n Y e).map QW
    | [a,b]=>
     if x= "range" then(Qs n Y a).bind λfa=>(Qs n Y b).map λfb=>Qd2 fa fb else
     if x= "zip" then(if isTup tg then(Qs n Y a).bind λfa=>(Qs n Y b).map λfb=>Qaq fa fb else none)else
     (Qs n Y e).map QW
    | _=>(Qs n Y e).map QW)else(Qs n Y e).map QW
  | e=>(Qs n Y e).map QW
end
theorem Qbh{α β γ:Type}{x:Option α}{y:α->Option β}{k:α->β->γ}{r:γ}(e:(x.bind λa=>(y a).map λb=>k a b)=some r):∃a b,x=some a/\y a=some b/\k a b=r:=by
 refine Qg e λa h1 e=>?_;obtain⟨b,h2,e⟩:=Zh.mp e;exact⟨a,b,h1,h2,e⟩
theorem bindR{α β γ:Type}{x:Option α}{y:α->Option β}{k:α->β->γ}{r:γ}{M:γ->Prop}(e:(x.bind λa=>(y a).map λb=>k a b)=some r)(g:∀a b,x=some a->y a=some b->M (k a b)):M r:=by
 obtain⟨a,b,h1,h2,rfl⟩:=Qbh e;exact g a b h1 h2
theorem QaR(h:Qs n Y e=some f)(es:List Expr)(env:Env):starEach (e::es) env=(false,eval e env)::starEach es env:=by
 cases n with
 | zero=>exact nn h
 | succ n=>cases e<;>first | rfl | (exact nn h)
theorem Qq7:∀{n:Nat}{Y:Th}{es:List Expr}{f:DA},QbV n Y es=some f->∀(pos:Pos) (env:Env),(backTo pos (starEach es env)).any (·.1)=false
 | 0,_,_,_,h,_,_=>by simp[QbV]at h
 | n+1,_,[],_,h,_,_=>rfl
 | n+1,_,e::es,_,h,pos,env=>by
  simp only[QbV]at h;obtain⟨fa,fs,h1,h2,_⟩:=Qbh h;rw[QaR h1];have:=Qq7 h2 pos env;simpa[backTo]using this
theorem QmH(h:Qs n Y b=some f):QhD b:=by
 cases n with
 | zero=>exact nn h
 | succ n=>cases b<;>first | (intro o i;rfl) | (exact nn h)
theorem QAu(h:Qs n Y e=some f)(env:Env):∀x,foldedSetIterable e env x=pure x:=by
 cases n with
 | zero=>exact nn h
 | succ n=>cases e<;>first | (intro x;rfl) | (exact nn h)
theorem Quu(h:Qs n Y e=some f)(op:CmpOp):behindInMarks op e=false:=by
 cases n with
 | zero=>exact nn h
 | succ n=>cases e<;>first | rfl | (exact nn h)
theorem Qew{env:Env}:∀{names:List (Str×NameKind)}{x:Str},names.lookup x=some .cell→
  (names.map λ(n,k)=>if(k == NameKind.free && env.scope.kind == .function && env.kindOf n == some .cell)then(n,NameKind.cell)else(n,k)).lookup x=some .cell
 | [],_,h=>by simp at h
 | (n,k)::r,x,h=>by
  have ih:= @Qew env r x;rw[ZH];cases hx:x == n with
  | true=>
   simp only[Zv,hx]at h;cases h;dsimp only;split<;>simp[Zv,hx]
  | false=>
   simp only[Zv,hx]at h;dsimp only;split<;>(simp only[Zv,hx];exact ih h)
theorem Qpk{X:Cx}{Y:Th}{scope:Scope}{t:Tg}(ok:Q7 X Y)(h:QlV Y scope t=true):Qfa X (inner Y scope).N scope/\QoD X (inner Y scope).N scope (QjI Y scope) t.slots/\∀cl C fp s3 H3,Q7 (cxc X (inner Y scope).N scope cl C fp s3 H3) (inner Y scope):=by
 unfold QlV at h;simp only[Zm,decide_eq_true_eq]at h;obtain⟨⟨⟨h1,h2⟩,h3⟩,h4⟩:=h;have hk:scope.kind= .function:=by simpa using h1
 have each:∀y∈scope.names,(y.2= .cell->scope.names.lookup y.1=some .cell)/\(y.2= .local ->scope.names.lookup y.1=some .local)/\(y.2= .free->X.env.kindOf y.1=some .cell∨X.env.kindOf y.1=some .free):=λy hy=>by
  have:=ZaK.mp h3 y hy;obtain⟨y,k⟩:=y;cases k with
  | cell=>exact⟨λ_=>(by rw[← Qb1];simpa using this),λz=>(by cases z),λz=>(by cases z)⟩
  | «local» =>exact⟨λz=>(by cases z),λ_=>by rw[← Qb1];simpa using this,λz=>by cases z⟩
  | free=>
   refine⟨λz=>(by cases z),λz=>(by cases z),λ_=>?_⟩;dsimp only at this;split at this
   ·rename_i q;exact .inl (ok.ce _ q).1
   ·rename_i q;exact ok.fe _ q
   ·cases this
  | _=>exact⟨λz=>(by cases z),λz=>(by cases z),λz=>(by cases z)⟩
 have S:Qfa X (inner Y scope).N scope:=⟨hk,λy hy=>(each y hy).1,λy hy=>(each y hy).2.1,λy hy=>(each y hy).2.2⟩;refine⟨S,⟨by unfold QjI;simp,λj i e=>?_,λj i e hj=>?_⟩,λcl C fp s3 H3=>⟨⟨rfl,h2,λx e=>?_,λx e=>?_,λx e=>?_,λx e=>?_,ok.units,ok.mg,ok.cs⟩,ok.calm,PassesOwn.never,ok.fns,λ_ _ e=>nomatch e⟩⟩
 ·unfold QjI at e;rw[Zs]at e;cases q:(inner Y scope).N[j]? with
  | none=>rw[q]at e;cases e
  | some x=>
   rw[q]at e;simp only[ZU,Option.some.injEq]at e;split at e
   ·rename_i hf;cases hl:look x scope.names with
    | none=>rw[hl]at hf;cases hf
    | some k=>
     rw[hl]at hf;cases k with
     | free=>
      rw[Qb1]at hl;exact⟨x,rfl,hl,by rw[ok.N];exact Qgs e,(each (x,.free) (Zal hl)).2.2 rfl⟩
     | _=>cases hf
   ·cases e
 ·have:=ZaK.mp h4 j hj;rw[e]at this;cases this
 ·have e':scope.names.lookup x=some .local :=by rw[← Qb1];exact e
  exact lookup_relabel_local e'
 ·have e':scope.names.lookup x=some .cell:=by rw[← Qb1];exact e
  exact⟨Qew e',decide_eq_true e'⟩
 ·have e':scope.names.lookup x=some .free:=by rw[← Qb1];exact e
  exact QcR e'
 ·have e':scope.names.lookup x=some .globalImplicit:=by rw[← Qb1];exact e
  show(relabel scope X.env).names.lookup x=some .globalImplicit;unfold relabel
  have gen:∀{names:List (Str×NameKind)},names.lookup x=some .globalImplicit→
    (names.map λ(n,k)=>if(k == NameKind.free && X.env.scope.kind == .function && X.env.kindOf n == some .cell)then(n,NameKind.cell)else(n,k)).lookup x=some .globalImplicit:=by
   intro names
   induction names with
   | nil=>intro z;simp at z
   | cons y r ih=>
    intro z;obtain⟨n,k⟩:=y;rw[ZH];cases hx:x == n with
    | true=>
     simp only[Zv,hx]at z;cases z;simp[Zv,hx]
    | false=>
     simp only[Zv,hx]at z;dsimp only;split<;>(simp only[Zv,hx];exact ih z)
  exact gen e'
theorem Qoz(ok:Q7 X Y)(h:QkX Y tg=some t):SG X tg t:=by
 have hN:X.N.Nodup:=by rw[ok.N];exact ok.nd
 cases tg with
 | Name x pos=>
  change Option.map _ _=_ at h;refine mapR h λi hi=>?_;obtain⟨h1,h2,h3⟩:=QcI ok.toCtxB hi;exact QyI (QqT hN h1 h2 h3)
 | Tuple es k pos=>
  change Option.map _ _=_ at h;refine mapR h λis hi=>?_;refine Qg hi λxs h1 h2=>?_;have key:∀(es:List Expr) (xs:List Str) (is:List Nat),es.mapM QbR=some xs->xs.mapM Y.QbU=some is->PGs X es (Ql0 is)/\(assignEach es X.env).length=is.length/\(assignEach es X.env).findIdx? (·.1)=none:=by
   intro es
   induction es with
   | nil=>
    intro xs is h1 h2;cases h1;cases h2;exact⟨QxJ,rfl,rfl⟩
   | cons e es ih=>
    intro xs is h1 h2;rw[List.mapM_cons]at h1;refine Qg h1 λx hx h1=>?_;refine Qg h1 λys hy h1=>?_;cases h1;rw[List.mapM_cons]at h2;refine Qg h2 λi hi h2=>?_;refine Qg h2 λjs hj h2=>?_;cases h2;obtain⟨a1,a2,a3⟩:=ih ys js hy hj;cases e with
    | Name y p=>
     cases hx;obtain⟨g1,g2,g3⟩:=QcI ok.toCtxB hi;refine⟨Qu8 (QqT hN g1 g2 g3) a1 rfl,?_,?_⟩
     ·show(assignEach es X.env).length+1=_;rw[a2];rfl
     ·show List.findIdx? (·.1) ((false,assign (.Name x p) X.env)::assignEach es X.env)=none;rw[List.findIdx?_cons];simp only[a3];rfl
    | _=>cases hx
  obtain⟨a1,a2,a3⟩:=key es xs is h1 h2;exact QBr ok.calm a1 a2 a3
 | _=>exact nn h
theorem QsF{f:Int->Int->Bool}:∀a b d,gI (λi j=>some (.bl (f i j))) a b=some d->∃k,d= .bl k:=λa b d h=>by
 obtain⟨i,j,_,_,e⟩:=QtM h;cases e;exact⟨_,rfl⟩
theorem Qty(ok:Q7 X Y)(h:Qsq op=some g):∃r,OpR X (compareOp op) r/\QcS X.K g r/\∀a b d,g a b=some d->∃k,d= .bl k:=by
 cases op<;>cases h
 ·exact⟨_,Qs9 ok.units,Qxn,λa b d h=>by unfold gEq at h;split at h<;>cases h;exact⟨_,rfl⟩⟩
 ·exact⟨_,Qub ok.units,Qxt,λa b d h=>by unfold gNe at h;split at h<;>cases h;exact⟨_,rfl⟩⟩
 ·exact⟨_,QCx,QBR,QsF⟩
 ·exact⟨_,QBY,QCc,QsF⟩
 ·exact⟨_,QCE,QB3,QsF⟩
 ·exact⟨_,QCt,QCb,QsF⟩
structure QlI (n:Nat):Prop where
 E:∀X Y e f,Q7 X Y->Qs n Y e=some f->SE X e f
 B:∀X Y x args f p pos,Q7 X Y->Y.gl x=true->Qow n Y x args=some f->SE X (.Call (.Name x p) args [] pos) f
 T:∀X Y e f,Q7 X Y->Qbg n Y e=some f->ST X e f
 Ts:∀X Y e f,Q7 X Y->Qhw n Y e=some f->Qpp X e f
 A:∀X Y e f,Q7 X Y->QbV n Y e=some f->SA X e f
 O:∀X Y e f,Q7 X Y->QlL n Y e=some f->SO X e f
 I:∀X Y tg e f,Q7 X Y->Qh4 n Y tg e=some f->SI X tg e f/\∀x,foldedSetIterable e X.env x=pure x
theorem callArgs{X:Cx}{n:Nat}{Y:Th}{es:List Expr}{fs:DA}(h:QbV n Y es=some fs){e:Expr}{es':List Expr}(he:es=e::es')(pos:Pos):starEach (e::es') X.env=(false,eval e X.env)::starEach es' X.env/\(backTo pos (starEach es' X.env)).any (·.1)=false:=by
 subst he;cases n with
 | zero=>simp[QbV]at h
 | succ n=>
  simp only[QbV]at h;obtain⟨fa,fs',h1,h2,_⟩:=Qbh h;exact⟨QaR h1 es' X.env,Qq7 h2 pos X.env⟩
theorem QB7(ih:QlI n):∀X Y e f,Q7 X Y->Qs (n+1) Y e=some f->SE X e f:=by
  intro X Y e f ok h;cases e with
  | Name x pos=>
    (conv at h=>lhs;whnf)
    cases q:Y.slot x with
    | some i=>rw[q]at h;cases h;exact Qdz (Qaw ok.toCtxB q)
    | none=>
      rw[q]at h;dsimp only at h;split at h
      · rename_i hg
        refine mapR h λi hi=>?_;obtain⟨g1,g2,g3⟩:=Qer ok.toCtxB hg;obtain⟨t,hm⟩:=ok.cs x i hi;exact Qlu (v:= .int i) (QxH g1 hm ⟨t,rfl⟩ g2) (λ_ _=> .int_mk) rfl
      · cases h
  | Constant c k pos=>
    cases c with
    | int i=>(conv at h=>lhs;whnf);cases h;exact Qlu QAH (λ_ _=> .int_mk) rfl
    | bool b=>(conv at h=>lhs;whnf);cases h;exact Qlu Qxm (λ_ _=> .Qec) rfl
    | none=>(conv at h=>lhs;whnf);cases h;exact Qlu QAD (λ_ _=> .Qp1) rfl
    | str x=>(conv at h=>lhs;whnf);cases h;exact Qlu QtZ (λ_ _=> .str_mk) rfl
    | _=>exact nn h
  | BinOp a op b pos=>
    (conv at h=>lhs;whnf)
    refine Qg h λfa h1 h=>?_;refine Qg h λfb h2 h=>?_;have ha:=ih.E X Y a fa ok h1;have hb:=ih.E X Y b fb ok h2;cases op with
    | Add=>cases h;exact QAk ha hb
    | Mult=>cases h;exact QzL ha hb
    | Sub=>cases h;exact QlZ QAf Qt2 ha hb
    | FloorDiv=>cases h;exact QlZ QxR QzV ha hb
    | Mod=>cases h;exact QlZ Qy1 QAv ha hb
    | Pow=>cases h;exact QlZ Qyz Qz9 ha hb
    | RShift=>cases h;exact QlZ QAN QAW ha hb
    | _=>cases h
  | UnaryOp op a pos=>
    cases op with
    | USub=>
      (conv at h=>lhs;whnf)
      refine mapR h λfa h1=>?_;exact Qz6 (ih.E X Y a fa ok h1)
    | Not=>
      (conv at h=>lhs;whnf)
      refine mapR h λfa h1=>?_;exact Qtf (ih.E X Y a fa ok h1)
    | _=>exact nn h
  | BoolOp op es pos=>
    cases op with
    | And=>
      match es,h with
      | [],h=>exact nn h
      | [a],h=>(conv at h=>lhs;whnf);exact QpF (ih.E X Y a f ok h)
      | a::b::r,h=>
        (conv at h=>lhs;whnf)
        refine bindR h λfa fb h1 h2=>?_;exact QuL (ih.E X Y a fa ok h1) (ih.E X Y _ fb ok h2)
    | Or=>
      match es,h with
      | [],h=>exact nn h
      | [a],h=>(conv at h=>lhs;whnf);exact QpF (ih.E X Y a f ok h)
      | a::b::r,h=>
        (conv at h=>lhs;whnf)
        refine bindR h λfa fb h1 h2=>?_;exact QCg (ih.E X Y a fa ok h1) (ih.E X Y _ fb ok h2)
  | Compare a ops bs pos=>
    match ops,bs,h with
    | [op],[b],h=>
      (conv at h=>lhs;whnf)
      refine Qg h λfa h1 h=>?_;refine bindR h λfb g h2 h3=>?_;obtain⟨r,o1,o2,_⟩:=Qty ok h3;exact Qp9 o1 o2 (ih.E X Y a fa ok h1) (ih.E X Y b fb ok h2) (Quu h2 op)
    | [],_,h=>exact nn h
    | [_],[],h=>exact nn h
    | [_],_::_::_,h=>exact nn h
    | _::_::_,_,h=>exact nn h
  | IfExp c a b pos=>
    (conv at h=>lhs;whnf)
    refine Qg h λg h1 h=>?_;refine bindR h λfa fb h2 h3=>?_;exact QCk (ih.T X Y c g ok h1) (ih.E X Y a fa ok h2) (ih.E X Y b fb ok h3)
  | Tuple es k pos=>
    (conv at h=>lhs;whnf)
    refine mapR h λfs h1=>?_;exact QAX (ih.A X Y es fs ok h1)
  | List es pos=>
    (conv at h=>lhs;whnf)
    refine mapR h λfs h1=>?_;exact QzS (ih.A X Y es fs ok h1)
  | Subscript a b pos=>
    by_cases hb:∃lo hi p2,b= .Slice lo hi none p2
    · obtain⟨lo,hi,p2,rfl⟩:=hb
      (conv at h=>lhs;whnf)
      refine Qg h λfa h1 h=>?_;refine bindR h λfl fh h2 h3=>?_;exact QBh (ih.E X Y a fa ok h1) (ih.O X Y lo fl ok h2) (ih.O X Y hi fh ok h3)
    · by_cases hk:∃k p2,b= .Slice none none (some k) p2
      · obtain⟨k,p2,rfl⟩:=hk
        (conv at h=>lhs;whnf)
        refine bindR h λfa fk h1 h2=>?_;exact QBi (ih.E X Y a fa ok h1) (ih.E X Y k fk ok h2)
      · have h':((Qs n Y a).bind λfa=>(Qs n Y b).map λfb=>Qm fa fb)=some f:=by
          cases b<;>first
            | (exact h)
            | (rename_i lo hi st p2;cases lo<;>cases hi<;>cases st<;>first | (exact absurd ⟨_,_,_,rfl⟩ hb) | (exact absurd ⟨_,_,rfl⟩ hk) | (exact h))
        refine bindR h' λfa fb h1 h2=>?_;exact QzC (ih.E X Y a fa ok h1) (ih.E X Y b fb ok h2) (QmH h2)
  | Call fn args kws pos=>
    cases fn with
    | Name x p=>
     cases kws with
     | cons k ks=>exact nn h
     | nil=>
      have h:(if Y.gl x then(match look x Y.Γ with | some r=>if r.n<=args.length+r.dfl.length/\args.length<=r.n then(QbV n Y args).map λfs=>Qf r.n r.den (r.dfl.drop (r.dfl.length-(r.n-args.length))) fs else none | none=>Qow n Y x args)else none)=some f:=h;split at h
      · rename_i hg
        obtain⟨g1,g2,g3⟩:=Qer ok.toCtxB hg;split at h
        · rename_i r hr
          split at h
          · rename_i hn
            refine mapR h λfs h1=>?_;obtain⟨k,fa,fd,ps,F1,F2,F3,F4,F5⟩:=ok.fns x r hr;obtain⟨ds,dvs,b1,b2,b3⟩:=F5 (r.n-args.length) ⋯;cases args with
            | nil=>
              cases n with
              | zero=>simp[QbV]at h1
              | succ n=>
                simp only[QbV]at h1;cases h1;exact QwJ F1 F2 g1 F3 F4 b1 b2 b3 g2
            | cons e es=>
              obtain⟨s1,s2⟩:=callArgs (X:=X) h1 rfl pos;exact Qyw F1 F2 g1 F3 F4 b1 b2 b3 (ih.A X Y _ fs ok h1) g2 s1 s2
          · cases h
        · exact ih.B X Y x args f p pos ok hg h
      · cases h
    | Attribute o m apos=>
      cases o with
      | Name x p=>
        cases args with
        | nil=>
          cases kws with
          | nil=>
            have h:(if m= "bit_length" /\(apos.endLine == pos.line)=true then(Qs n Y (.Name x p)).map Qot else none)=some f:=h;split at h
            · rename_i hc
              refine mapR h λfa h1=>?_;obtain⟨rfl,hl⟩:=hc;exact QyN (ih.E X Y _ fa ok h1) rfl hl
            · cases h
          | cons _ _=>exact nn h
        | cons _ _=>exact nn h
      | _=>exact nn h
    | _=>exact nn h
  | ListComp elt gens scope pos=>
    match gens,h with
    | [⟨tg,iter,ifs,k⟩],h=>
      by_cases hk:k=0
      · subst hk
        (conv at h=>lhs;whnf)
        refine Qg h λt ht h=>?_;split at h
        · rename_i hc
          simp only[Zm]at hc;refine Qg h λfi h1 h=>?_;refine bindR h λft fe h2 h3=>?_;obtain⟨S,cap,inn⟩:=Qpk ok hc.1;obtain⟨i1,i2⟩:=ih.I X Y tg iter fi ok h1;exact Qyy ok.calm S i1 cap (λcl C fp s3 H3=>⟨Qoz (inn cl C fp s3 H3) ht,ih.Ts _ _ ifs ft (inn cl C fp s3 H3) h2,ih.E _ _ elt fe (inn cl C fp s3 H3) h3⟩) i2
        · cases h
      · exfalso
        cases k with
        | ofNat k=>
          cases k with
          | zero=>exact hk rfl
          | succ k=>exact nn h
        | negSucc k=>exact nn h
    | [],h=>exact nn h
    | ⟨_,_,_,.ofNat 0⟩::_::_,h=>exact nn h
    | ⟨_,_,_,.ofNat (k+1)⟩::_::_,h=>exact nn h
    | ⟨_,_,_,.negSucc k⟩::_::_,h=>exact nn h
  | _=>exact nn h
theorem QAe(ok:Q7 X Y)(g1:Gl X x)(sa:SA X [a] (Qa fa Qc))(st:starEach [a] X.env=(false,eval a X.env)::starEach [] X.env)(h:bf1 x fa=some f):SE X (.Call (.Name x p) [a] [] pos) f:=by
 unfold bf1 at h;by_cases e:x= "len"
 ·rw[if_pos e]at h;cases h;subst e;have hm:=ok.mg "len" (by decide+kernel);exact Qie QpS QA5 g1 hm PySem.boot_len sa (by decide) (by decide) st rfl
 rw[if_neg e]at h;clear e;by_cases e:x= "list"
 ·rw[if_pos e]at h;cases h;subst e;have hm:=ok.mg "list" (by decide+kernel);exact QxS g1 hm sa st rfl
 rw[if_neg e]at h;clear e;by_cases e:x= "abs"
 ·rw[if_pos e]at h;cases h;subst e;have hm:=ok.mg "abs" (by decide+kernel);exact Qie Qva QAc g1 hm PyProof.Rows.boot_abs sa (by decide) (by decide) st rfl
 rw[if_neg e]at h;clear e;by_cases e:x= "min"
 ·rw[if_pos e]at h;cases h;subst e;have hm:=ok.mg "min" (by decide+kernel);exact Qie (Qtb ok.calm) Qzu g1 hm PyProof.Rows.boot_min sa (by decide) (by decide) st rfl
 rw[if_neg e]at h;clear e;by_cases e:x= "max"
 ·rw[if_pos e]at h;cases h;subst e;have hm:=ok.mg "max" (by decide+kernel);exact Qie (QtQ ok.calm) Qzc g1 hm PyProof.Rows.boot_max sa (by decide) (by decide) st rfl
 rw[if_neg e]at h;clear e;by_cases e:x= "sum"
 ·rw[if_pos e]at h;cases h;subst e;have hm:=ok.mg "sum" (by decide+kernel);exact Qie (Qtg ok.calm) QyM g1 hm PyProof.Rows.boot_sum sa (by decide) (by decide) st rfl
 rw[if_neg e]at h;clear e;by_cases e:x= "tuple"
 ·rw[if_pos e]at h;cases h;subst e;have hm:=ok.mg "tuple" (by decide+kernel);exact QxO g1 hm sa st rfl
 rw[if_neg e]at h;clear e;cases h
theorem QAd(ok:Q7 X Y)(g1:Gl X x)(sa:SA X [a,b] (Qa fa (Qa fb Qc)))(st:starEach [a,b] X.env=(false,eval a X.env)::starEach [b] X.env)(pl:(backTo pos (starEach [b] X.env)).any (·.1)=false)(h:bf2 x fa fb=some f):SE X (.Call (.Name x p) [a,b] [] pos) f:=by
 unfold bf2 at h;by_cases e:x= "min"
 ·rw[if_pos e]at h;cases h;subst e;have hm:=ok.mg "min" (by decide+kernel);exact Qie (QuJ ok.calm) Qyv g1 hm PyProof.Rows.boot_min sa (by decide) (by decide) st pl
 rw[if_neg e]at h;clear e;by_cases e:x= "max"
 ·rw[if_pos e]at h;cases h;subst e;have hm:=ok.mg "max" (by decide+kernel);exact Qie (QtS ok.calm) QyW g1 hm PyProof.Rows.boot_max sa (by decide) (by decide) st pl
 rw[if_neg e]at h;clear e;cases h
theorem QCr(ih:QlI n):∀X Y x args f p pos,Q7 X Y->Y.gl x=true->Qow (n+1) Y x args=some f->SE X (.Call (.Name x p) args [] pos) f:=by
 intro X Y x args f p pos ok hg h;obtain⟨g1,g2,g3⟩:=Qer ok.toCtxB hg
 match args,h with
 | [],h=>exact nn h
 | [a],h=>
  change((Qs n Y a).bind λfa=>bf1 x fa)=some f at h;refine Qg h λfa h1 h=>?_;have ha:=ih.E X Y a fa ok h1;have st:=QaR h1 [] X.env;exact QAe ok g1 (QhE ha QlS st) st h
 | [a,b],h=>
  change(if x= "isinstance" then(Qs n Y a).bind λfa=>(match b with | .Name y _=>if Y.gl y then(Qwh y).map λT=>QwC T fa else none | _=>none)else(Qs n Y a).bind λfa=>(Qs n Y b).bind λfb=>bf2 x fa fb)=some f at h;split at h
  ·rename_i e;refine Qg h λfa h1 h=>?_;have ha:=ih.E X Y a fa ok h1;split at h
   ·rename_i y p2;split at h
    ·rename_i hy;refine mapR h λT hT=>?_;obtain⟨y1,y2,y3⟩:=Qer ok.toCtxB hy;clear h;subst e;refine QAt g1 (ok.mg _ (by decide+kernel)) ha ?_ (QaR h1 _ X.env);unfold Qwh at hT;split at hT
     ·rename_i e;cases hT;subst e;exact Qhn y1 (ok.mg _ (by decide+kernel)) PyProof.Rows.boot_int rfl
     ·split at hT
      ·rename_i e;cases hT;subst e;exact Qhn y1 (ok.mg _ (by decide+kernel)) PyProof.Rows.boot_bool rfl
      ·split at hT
       ·rename_i e;cases hT;subst e;exact Qhn y1 (ok.mg _ (by decide+kernel)) Zbp rfl
       ·split at hT
        ·rename_i e;cases hT;subst e;exact Qhn y1 (ok.mg _ (by decide+kernel)) ZbV rfl
        ·split at hT
         ·rename_i e;cases hT;subst e;exact Qhn y1 (ok.mg _ (by decide+kernel)) PyProof.Rows.boot_str rfl
         ·cases hT
    ·cases h
   ·cases h
  ·refine Qg h λfa h1 h=>?_;refine Qg h λfb h2 h=>?_;have ha:=ih.E X Y a fa ok h1;have hb:=ih.E X Y b fb ok h2;have sb:SA X [b] (Qa fb Qc):=QhE hb QlS (QaR h2 [] X.env);have sa:SA X [a,b] (Qa fa (Qa fb Qc)):=QhE ha sb (QaR h1 [b] X.env);have pl:(backTo pos (starEach [b] X.env)).any (·.1)=false:=by rw[QaR h2 [] X.env];rfl
   exact QAd ok g1 sa (QaR h1 [b] X.env) pl h
 | _::_::_::_,h=>exact nn h
theorem QCB{n:Nat}(ih:QlI n):∀X Y e f,Q7 X Y->Qbg (n+1) Y e=some f->ST X e f:=by
 intro X Y e f ok h;have dflt:(Qs n Y e).map QF=some f->(∀whole,isTrue e X.env whole=(do let v ← whole;standAt e.pos;holding [v] (truthy v)))->ST X e f:=λh he=>by
  refine mapR h λfa h1=>?_;exact QA9 (ih.E X Y e fa ok h1) he
 cases e with
 | UnaryOp op a pos=>
  cases op with
  | Not=>
   change(Qbg n Y a).map Qdo=some f at h;refine mapR h λfa h1=>?_;exact QAy (ih.T X Y a fa ok h1)
  | _=>exact dflt h λ_=>rfl
 | BoolOp op es pos=>
  cases op with
  | And=>
   match es,h with
   | [],h=>exact nn h
   | [a],h=>exact(QxP (ih.T X Y a f ok h)).st
   | a::b::r,h=>
    change((Qbg n Y a).bind λfa=>(Qbg n Y (.BoolOp .And (b::r) pos)).map λfb=>Qih fa fb)=some f at h;refine bindR h λfa fb h1 h2=>?_;have hb:=ih.T X Y _ fb ok h2;exact(QAm (ih.T X Y a fa ok h1) (λH0 A0 wh pins s σ H Q I q=>by have:=hb H0 A0 pins s σ H Q I q;exact this)).st
  | Or=>
   match es,h with
   | [],h=>exact nn h
   | [a],h=>exact(QzK (ih.T X Y a f ok h)).st
   | a::b::r,h=>
    change((Qbg n Y a).bind λfa=>(Qbg n Y (.BoolOp .Or (b::r) pos)).map λfb=>bOr fa fb)=some f at h;refine bindR h λfa fb h1 h2=>?_;have hb:=ih.T X Y _ fb ok h2;exact(QB2 (ih.T X Y a fa ok h1) (λH0 A0 wh pins s σ H Q I q=>by have:=hb H0 A0 pins s σ H Q I q;exact this)).st
 | Compare a ops bs pos=>
  match ops,bs,h with
  | [op],[b],h=>
   change((Qs n Y a).bind λfa=>(Qs n Y b).bind λfb=>(Qsq op).map λg=>QF (dOp g fa fb))=some f at h;refine Qg h λfa h1 h=>?_;refine bindR h λfb g h2 h3=>?_;obtain⟨r,o1,o2,o3⟩:=Qty ok h3;exact QzU o1 o2 o3 (ih.E X Y a fa ok h1) (ih.E X Y b fb ok h2) (Quu h2 op)
  | [],_,h=>exact nn h
  | [_],[],h=>exact nn h
  | [_],_::_::_,h=>exact nn h
  | _::_::_,_,h=>exact nn h
 | IfExp c a b pos=>exact nn h
 | _=>exact dflt h λ_=>rfl
theorem QCf(ih:QlI n):∀X Y tg e f,Q7 X Y->Qh4 (n+1) Y tg e=some f->SI X tg e f/\∀x,foldedSetIterable e X.env x=pure x:=by
 intro X Y tg e f ok h;have dflt:(Qs n Y e).map QW=some f->SI X tg e f/\∀x,foldedSetIterable e X.env x=pure x:=λh=>by
  obtain⟨fa,h1,rfl⟩:=Zh.mp h;exact⟨Qz4 (ih.E X Y e fa ok h1),QAu h1 X.env⟩
 cases e with
 | Call fn args kws pos=>
  cases fn with
  | Name x p=>
   cases kws with
   | cons k ks=>exact dflt h
   | nil=>
    change @ite _ _ _ _ _=_ at h;split at h
    ·rename_i hg;simp only[Zm]at hg;obtain⟨g1,g2,g3⟩:=Qer ok.toCtxB hg.1
     match args,h with
     | [],h=>exact dflt h
     | [a],h=>
      dsimp only at h;by_cases er:x= "range"
      ·rw[if_pos er]at h;obtain⟨fa,h1,rfl⟩:=Zh.mp h;subst er;exact⟨Qtl g1 (ok.mg _ (by decide+kernel)) (ih.E X Y a fa ok h1) (QaR h1 [] X.env),λ_=>rfl⟩
      rw[if_neg er]at h;by_cases ez:x= "enumerate"
      ·rw[if_pos ez]at h;split at h
       ·rename_i ht;obtain⟨fa,h1,rfl⟩:=Zh.mp h;subst ez;cases tg with
        | Tuple es k tp=>exact⟨Qze g1 (ok.mg _ (by decide+kernel)) (ih.E X Y a fa ok h1) (QaR h1 [] X.env),λ_=>rfl⟩
        | _=>exact nomatch (show false=true from ht)
       ·cases h
      rw[if_neg ez]at h;exact dflt h
     | [a,b],h=>
      dsimp only at h;by_cases er:x= "range"
      ·rw[if_pos er]at h;obtain⟨fa,fb,h1,h2,rfl⟩:=Qbh h;subst er;exact⟨QtE g1 (ok.mg _ (by decide+kernel)) (ih.E X Y a fa ok h1) (ih.E X Y b fb ok h2) (by rw[QaR h1 [b] X.env,QaR h2 [] X.env];rfl) (QaR h2 [] X.env),λ_=>rfl⟩
      rw[if_neg er]at h;by_cases ez:x= "zip"
      ·rw[if_pos ez]at h;split at h
       ·rename_i ht;obtain⟨fa,fb,h1,h2,rfl⟩:=Qbh h;subst ez;cases tg with
        | Tuple es k tp=>exact⟨QAQ g1 (ok.mg _ (by decide+kernel)) (ih.E X Y a fa ok h1) (ih.E X Y b fb ok h2) (by rw[QaR h1 [b] X.env,QaR h2 [] X.env];rfl) (QaR h2 [] X.env),λ_=>rfl⟩
        | _=>exact nomatch (show false=true from ht)
       ·cases h
      rw[if_neg ez]at h;exact dflt h
     | [a,b,c],h=>
      dsimp only at h;by_cases er:x= "range"
      ·rw[if_pos er]at h;refine Qg h λfa h1 h=>?_;obtain⟨fb,fc,h2,h3,rfl⟩:=Qbh h;subst er;exact⟨QtI g1 (ok.mg _ (by decide+kernel)) (ih.E X Y a fa ok h1) (ih.E X Y b fb ok h2) (ih.E X Y c fc ok h3) (QaR h1 [b,c] X.env) (QaR h2 [c] X.env) (QaR h3 [] X.env),λ_=>rfl⟩
      rw[if_neg er]at h;by_cases ez:x= "zip"
      ·rw[if_pos ez]at h;split at h
       ·rename_i ht;refine Qg h λfa h1 h=>?_;obtain⟨fb,fc,h2,h3,rfl⟩:=Qbh h;subst ez;cases tg with
        | Tuple es k tp=>exact⟨QxG g1 (ok.mg _ (by decide+kernel)) (ih.E X Y a fa ok h1) (ih.E X Y b fb ok h2) (ih.E X Y c fc ok h3) (QaR h1 [b,c] X.env) (QaR h2 [c] X.env) (QaR h3 [] X.env),λ_=>rfl⟩
        | _=>exact nomatch (show false=true from ht)
       ·cases h
      rw[if_neg ez]at h;exact dflt h
     | _::_::_::_::_,h=>exact dflt h
    ·exact dflt h
  | _=>exact dflt h
 | _=>exact dflt h
theorem QbC:∀n,QlI n
 | 0=>⟨λ_ _ _ _ _ h=>(nn h),λ_ _ _ _ _ _ _ _ _ h=>(nn h),λ_ _ _ _ _ h=>(nn h),λ_ _ _ _ _ h=>(nn h),λ_ _ _ _ _ h=>(nn h),λ_ _ _ _ _ h=>(nn h),λ_ _ _ _ _ _ h=>(nn h)⟩
 | n+1=>by
  have ih:=QbC n;refine⟨QB7 ih,QCr ih,QCB ih,λX Y e f ok h=>?_,λX Y e f ok h=>?_,λX Y e f ok h=>?_,QCf ih⟩
  ·match e,h with
   | [],h=>simp only[Qhw]at h;cases h;exact QwK
   | [c],h=>simp only[Qhw]at h;exact Qw9 (ih.T X Y c f ok h)
   | _::_::_,h=>simp only[Qhw]at h;cases h
  ·match e,h with
   | [],h=>simp only[QbV]at h;cases h;exact QlS
   | e::es,h=>
    simp only[QbV]at h;refine bindR h λfa fs h1 h2=>?_;exact QhE (ih.E X Y e fa ok h1) (ih.A X Y es fs ok h2) (QaR h1 es X.env)
  ·match e,h with
   | none,h=>simp only[QlL]at h;cases h;exact QxW
   | some e,h=>
    simp only[QlL]at h;refine mapR h λfa h1=>?_;exact Qyn (ih.E X Y e fa ok h1)
section
noncomputable def Qx:DS:=λ_=>none
theorem QwO:S1 X st Qx:=λH0 A0=>QvR.mono λE σ H ⟨U,hs,F,o,rel,e,q⟩=>by cases e
theorem Qh1:∀{n:Nat}{U:En}{o:Out},Qbo g fb n U=some o->Qbo g fb (n+1) U=some o
 | 0,_,_,h=>by cases h
 | n+1,U,o,h=>by
  unfold Qbo at h ⊢;refine Qg h λb hb h=>?_;rw[hb];cases b with
  | false=>exact h
  | true=>
   rw[if_pos rfl]at h;refine Qg h λo1 ho h=>?_;rw[Za,if_pos rfl,ho];cases o1 with
   | nx U2=>exact Qh1 h
   | ct U2=>exact Qh1 h
   | bk U2=>exact h
   | rt d fr=>exact h
theorem Qo5(h:Qbo g fb n U=some o)(hm:n<=m):Qbo g fb m U=some o:=by
 induction hm with
 | refl=>exact h
 | step _ ih=>exact Qh1 ih
open Classical in
noncomputable def Qcs(g:DT)(fb:DS):DS:=λU=>if h:∃n,(Qbo g fb n U).isSome=true then Qbo g fb h.choose U else none
theorem Qde:Qcs g fb U=some o↔∃n,Qbo g fb n U=some o:=by
 unfold Qcs;constructor
 ·intro h;split at h
  ·exact⟨_,h⟩
  ·cases h
 ·rintro⟨n,h⟩;have hx:∃n,(Qbo g fb n U).isSome=true:=⟨n,by rw[h];rfl⟩;rw[dif_pos hx];obtain⟨o',ho'⟩:=ZbN.mp hx.choose_spec;have h1:=Qo5 h (Nat.le_max_left n hx.choose);have h2:=Qo5 ho' (Nat.le_max_right n hx.choose);rw[h1]at h2;rw[ho',← h2]
theorem QtV(hp:PassesOwn (model X.prog X.w) X.A X.env X.xe)(hc:ST X c gc)(hb:SS X body f):S1 X (.While c body [] pos) (Qcs gc f):=λH0 A0 pins s σ H D I h=>by
 obtain⟨U,hs,F,o,rel,e,q⟩:=h;obtain⟨n,hn⟩:=Qde.mp e;exact Qvo (n:=n) hp hc hb H0 A0 pins s σ H D I ⟨U,hs,F,o,rel,hn,q⟩
theorem Qup(g:DT)(fb:DS)(U:En):Qcs g fb U=(g U).bind λb=>if b=true then(fb U).bind λo=>match o with
  | .nx U2=>Qcs g fb U2
  | .ct U2=>Qcs g fb U2
  | .bk U2=>some (.nx U2)
  | .rt d fr=>some (.rt d fr)
  else some (.nx U):=by
 apply Option.ext;intro o;rw[Qde];constructor
 ·rintro⟨n,h⟩;cases n with
  | zero=>cases h
  | succ n=>
   unfold Qbo at h;refine Qg h λb hb h=>?_;rw[hb];cases b with
   | false=>exact h
   | true=>
    rw[if_pos rfl]at h;refine Qg h λo1 ho h=>?_;rw[Za,if_pos rfl,ho];cases o1 with
    | nx U2=>exact Qde.mpr ⟨n,h⟩
    | ct U2=>exact Qde.mpr ⟨n,h⟩
    | bk U2=>exact h
    | rt d fr=>exact h
 ·intro h;refine Qg h λb hb h=>?_;cases b with
  | false=>exact⟨1,by unfold Qbo;rw[hb];exact h⟩
  | true=>
   rw[if_pos rfl]at h;refine Qg h λo1 ho h=>?_;cases o1 with
   | nx U2=>
    obtain⟨n,hn⟩:=Qde.mp h;exact⟨n+1,by unfold Qbo;rw[hb];rw[Za,if_pos rfl,ho];exact hn⟩
   | ct U2=>
    obtain⟨n,hn⟩:=Qde.mp h;exact⟨n+1,by unfold Qbo;rw[hb];rw[Za,if_pos rfl,ho];exact hn⟩
   | bk U2=>exact⟨1,by unfold Qbo;rw[hb];rw[Za,if_pos rfl,ho];exact h⟩
   | rt d fr=>exact⟨1,by unfold Qbo;rw[hb];rw[Za,if_pos rfl,ho];exact h⟩
theorem Qx2(hN:X.N.Nodup)(hx1:X.N[i]? =some x)(hx:Loc X.env.scope x)(hf:X.fn x=true∨X.env.scope.names.lookup x=some .local)
  (hcalm:X.calm=true) (S:Qfa X N' scope) (hi:SI X tg iter fi) (hcap:QoD X N' scope cap t.slots)
  (hin:∀cl C fp s3 H3,SG (cxc X N' scope cl C fp s3 H3) tg t/\Qpp (cxc X N' scope cl C fp s3 H3) ifs ft/\SE (cxc X N' scope cl C fp s3 H3) elt fe) (hs:∀x,foldedSetIterable iter X.env x=pure x):
  S1 X (.Assign [.Name x pos'] (.ListComp elt [⟨tg,iter,ifs,0⟩] scope pos) spos) (Qo i (QG fi t cap ft fe)):=
 QlC λH0 A0=>(QyL hN hx1 hx hf hcalm S (hi H0 A0) (λcl C fp s3 H3=>⟨(hin cl C fp s3 H3).1 _ _,(hin cl C fp s3 H3).2.1 _ _,(hin cl C fp s3 H3).2.2 _ _⟩) hs).mono λE σ H h=>Qoa hcap h
end
end HS
namespace HS
open PySem PySem.Spec L2 PyProof.Rows
section
variable {X:Cx}{a b e:Expr}{fa fb:DE}{pf:DP}{x:Nat}{pos apos:Pos}
end
noncomputable def Qj4:Expr->Bool
 | .ListComp .. =>false
 | .SetComp .. =>false
 | .DictComp .. =>false
 | _=>true
theorem QdS(h:Qj4 e=true):swapsWith e t l env=pure false:=by
 cases e<;>first | rfl | cases h
noncomputable def QeU(n:Nat)(Y:Th)(e:Expr):Option (Nat×DP):=match n with
 | 0=>none
 | n+1=>match e with
  | .Name x _=>(Y.slot x).map λi=>(i,QaQ)
  | .Subscript a b _=>(QeU n Y a).bind λq=>(Qs n Y b).map λfb=>(q.1,QdC q.2 fb)
  | _=>none
theorem QhM:∀(n:Nat) (X:Cx) (Y:Th) (e:Expr) (q:Nat×DP),Q7 X Y->QeU n Y e=some q->SPa X e q.1 q.2/\attributeBase e=λ_ env w=>w
 | 0,_,_,_,_,_,h=>(nn h)
 | n+1,X,Y,e,q,ok,h=>by
  cases e with
  | Name x pos=>
   change Option.map _ _=_ at h;obtain⟨i,hi,rfl⟩:=Zh.mp h;exact⟨QfS (Qaw ok.toCtxB hi),by funext a b c;rfl⟩
  | Subscript a b pos=>
   change Option.bind _ _=_ at h;obtain⟨q',fb,h1,h2,rfl⟩:=Qbh h;exact⟨QhC (QhM n X Y a q' ok h1).1 ((QbC n).E X Y b fb ok h2) (QmH h2),by funext a b c;rfl⟩
  | _=>exact nn h
noncomputable def QjZ:Expr->Bool
 | .Name .. =>true
 | .Subscript _ (.Slice ..) _=>false
 | .Subscript (.Call ..) _ _=>false
 | .Subscript .. =>true
 | _=>false
noncomputable def QwT:Operator->Option (D->D->Option D)
 | .Add=>some (gI λi j=>some (.int (i+j)))
 | .Sub=>some QaL
 | _=>none
theorem QBe(h:QwT op=some g):∃r,OpR X (inplaceOp op) r/\QcS X.K g r:=by
 cases op<;>cases h
 ·exact⟨_,Qzj,QgS (λi j d e=>by cases e;rfl) λi j d e H Q q=>by cases e;exact⟨i,j,rfl,rfl,q _ λ_=> .int_mk⟩⟩
 ·exact⟨_,QyP,Qt2⟩
noncomputable def Qzq:Expr->Bool
 | .Slice .. =>true
 | _=>false
noncomputable def Ql6(n:Nat)(Y:Th)(o:Expr)(m:Str)(args:List Expr):Option DS:=match args with
  | []=>(QeU n Y o).bind λq=>
    none
  | [e]=>if m= "append" then
     ((QeU n Y o).bind λq=>(Qs n Y e).map λfa=>QkH q.1 q.2 fa)
    else
    none
  | _=>none
theorem Qvi(ok:Q7 X Y)(h:Ql6 n Y o m args=some f)(hl:(apos.endLine == cpos.line)=true):
  S1 X (.Expr (.Call (.Attribute o m apos) args [] cpos) pos) f:=by
 have base:∀{q:Nat×DP},QeU n Y o=some q->SPa X o q.1 q.2/\attributeBase o m X.env (eval o X.env)=eval o X.env:=λ{q} h1=>by
  obtain⟨sp,ab⟩:=QhM n X Y o _ ok h1;exact⟨sp,by rw[ab]⟩
 have app:∀{e:Expr}{f:DS},m= "append" ->((QeU n Y o).bind λq=>(Qs n Y e).map λfa=>QkH q.1 q.2 fa)=some f->S1 X (.Expr (.Call (.Attribute o m apos) [e] [] cpos) pos) f:=λ{e f} em h=>by
  obtain⟨q,fa,h1,h2,rfl⟩:=Qbh h;obtain⟨sp,hb⟩:=base h1;subst em;have he:=(QbC n).E X Y e fa ok h2;have st:=QaR h2 [] X.env;have sa:∀H0 A0,PA X [e] (Qh2 (tV X.K H0 A0 fa) Qpl):=λH0 A0=>Qap (he H0 A0) Qc1 st;exact λH0 A0=>(Qm2 (QCa PySem.F.plainAttrs_list PySem.F.slot_list_append PySem.F.type_list_append QnI (sp H0 A0) (sa H0 A0) hb (by rw[st];rfl) hl st rfl) rfl).mono λE σ H q=>QvW q
 match args,h with
 | [],h=>
  unfold Ql6 at h;dsimp only at h;obtain⟨⟨x,pf⟩,h1,h⟩:=bind1 h;obtain⟨sp,hb⟩:=base h1;cases h
 | [e],h=>
  unfold Ql6 at h;dsimp only at h;by_cases em:m= "append"
  ·rw[if_pos em]at h;exact app em h
  rw[if_neg em]at h;clear em;clear app;cases h
 | _::_::_,h=>exact nn h
noncomputable def Qr2(x:Nat)(fy f1 g1 f2 g2:DE)(U:En):Option Out:=if x<U.length then(fy U).bind λry=>match ry.d with
 | .lst ds=>(g1 U).bind λr1=>(f1 U).bind λk1=>(g2 U).bind λr2=>(f2 U).bind λk2=>match k1.d,k2.d with
  | .int i1,.int i2=>(ixN ds.length i1).bind λj1=>(ixN ds.length i2).bind λj2=>some (.nx ((Qba (ry.M++(r1.M++r2.M)) U).set x (some (.lst ((ds.set j1 r1.d).set j2 r2.d),false))))
  | _,_=>none
 | _=>none else none
noncomputable def QkN(x:Nat)(fy f1 g1 f2 g2:DE):DS:=λU=>Qr2 x fy f1 g1 f2 g2 (U.set x none)
section
variable {K:Fgg}{H0 H H':Hp}{A0:LAd}{hs:List (V×D×List Addr)}{U:En}{F:Nat->List Addr}{σ:L2.St}
theorem Rel.Qj9(rel:Rel K H0 A0 hs U F σ H){a:Addr}{zs ys:List V}(ha:H a=some (.lst zs))(h0:H0 a=none)(hn:∀(i:Nat) d b,U[i]? =some (some (d,b))->a∉F i)(hh:∀t∈hs,a∉t.2.2):Rel K H0 A0 hs U F σ (upd H a (.lst ys)) where
 len:=rel.len
 val:=λi d b e=>by
  obtain⟨v,h1,h2⟩:=rel.val i d b e;exact⟨v,h1,h2.upd ha (hn i d b e)⟩
 own:=rel.own
 src:=rel.src
 held:=λt ht=>⟨(rel.held t ht).1.upd ha (hh t ht),(rel.held t ht).2⟩
 same:=λb o hb=>by
  have:b≠a:=λz=>by rw[z,h0]at hb;cases hb
  rw[QR this];exact rel.same b o hb
theorem Rel.put(rel:Rel K H0 A0 hs U F σ H){i:Nat}{v:V}(hi:∀d b,U[i]? ≠some (some (d,b))):Rel K H0 A0 hs U F (σ.set i (some v)) H:=
 ⟨by simpa using rel.len,λj d b e=>by
  obtain⟨w,h1,h2⟩:=rel.val j d b e;have hj:i≠j:=λz=>hi d b (z▸e);exact⟨w,by rw[Zd hj];exact h1,h2⟩,rel.own,rel.src,rel.held,rel.same⟩
theorem Src.more(s:Src U F H M G)(h:∀i∈M,i∈M'):Src U F H M' G:=λa ha=>by
 rcases s a ha with z | ⟨i,d,b,e,m,w⟩
 ·exact .inl z
 ·exact .inr ⟨i,d,b,e,m,λhb=>h i (w hb)⟩
end
section
variable {X:Cx}{st1 st2 st3:Stmt}{sts:List Stmt}{x:Nat}{fy f1 g1 f2 g2:DE}{g:DS}
theorem QAq(p1:∀H0 A0,PS X st1 (QeO (λσ H Q=>tVA X.K H0 A0 (Qa fy Qc) σ H λxs H1=>∃p ys,xs=[.ref p]/\(SqL X.K H1 p ys∨SqT X.K H1 p ys)/\∀l,H1 l=none->Q (.ref l) (upd H1 l (.lst ys))) (Qgy x)))
  (p2:∀H0 A0,PS X st2 (QeO (tV X.K H0 A0 g1) (L2.QaL (QgO x) (tV X.K H0 A0 f1) QgI))) (p3:∀H0 A0,PS X st3 (QeO (tV X.K H0 A0 g2) (L2.QaL (QgO x) (tV X.K H0 A0 f2) QgI))) (h:SS X sts g):
  SS X (st1::st2::st3::sts) (Qd (QkN x fy f1 g1 f2 g2) g):=λH0 A0=>
 (Qce (p1 H0 A0) (Qce (p2 H0 A0) (Qce (p3 H0 A0) (h H0 A0)))).mono λE σ H=>exK λU hs F o rel e q=>by
 refine Qg e λo1 e1 e=>?_;unfold QkN Qr2 at e1;split at e1
 case isFalse=>cases e1
 rename_i hx;have hr0:∀d b,(U.set x none)[x]? ≠some (some (d,b)):=λd b z=>by
  rw[Zn (by simpa using hx)]at z;cases z
 have rel0:=rel.weak (QcV (U:=U) x);generalize U.set x none=U0 at *;refine Qg e1 λry ey e1=>?_;split at e1
 case h_2=>cases e1
 rename_i ds hds;refine Qg e1 λr1 eg1 e1=>?_;refine Qg e1 λk1 ef1 e1=>?_;refine Qg e1 λr2 eg2 e1=>?_;refine Qg e1 λk2 ef2 e1=>?_;split at e1
 case h_2=>cases e1
 rename_i i1 i2 hk1 hk2;refine Qg e1 λj1 ej1 e1=>?_;refine Qg e1 λj2 ej2 e1=>?_;cases e1;refine⟨U0,hs,F,⟨[ry.d],ry.fr && true,ry.M++[]⟩,rel0,by simp[Qa,Qc,ey],λvs H1 G q1=>?_⟩;have rp:=q1.rp;dsimp only at rp;rw[hds]at rp;obtain⟨v,rfl,rq⟩:=rp.one;obtain⟨l,ws,L,rfl,hl,rl,zl,el⟩:=rq.lst_inv;have memL:∀a∈L,a∈G:=λa ha=>by
  rcases el with rfl | rfl
  ·exact Zc _ ha
  ·exact ha
 refine⟨l,ws,rfl,.inl (QZ hl),λc hc=>?_⟩;have relx:=rel0.ext q1.same;have nfr:∀(i:Nat) d b,U0[i]? =some (some (d,b))->c∉F i:=λi d b ei hci=>by
  obtain⟨zs,z⟩:=relx.mem ei hci;rw[hc]at z;cases z
 have nhs:∀t∈hs,c∉t.2.2:=λt ht hct=>by
  obtain⟨zs,z⟩:=(relx.held t ht).1.mem c hct;rw[hc]at z;cases z
 have h0c:H0 c=none:=relx.same.free hc;have nL:c∉L:=λz=>by
  obtain⟨zs,y⟩:=rl.mem c z;rw[hc]at y;cases y
 have sU:QS H1 (upd H1 c (.lst ws)):=λb o eb=>by
  have:b≠c:=λz=>by rw[z,hc]at eb;cases eb
  rw[QR this];exact eb
 have relA:=(relx.ext sU).put (i:=x) (v:= .ref c) hr0;have hσ:(σ.set x (some (.ref c)))[x]? =some (some (.ref c)):=Zn (by rw[← rel0.len];exact hx);generalize hσ':σ.set x (some (V.ref c))=σ1 at relA hσ;show Qwc _ _ E (σ.set x (some (.ref c))) _;rw[hσ'];have hc2:upd H1 c (.lst ws) c=some (.lst ws):=Qaa;have rl2:=rl.same sU;generalize upd H1 c (.lst ws)=H2 at relA hc2 rl2;refine⟨U0,hs,F,r1,relA,eg1,λv1 H3 G1 q2=>⟨.ref c,hσ,U0,hs,F,k1,relA.ext q2.same,ef1,λu1 H4 Gi q3=>?_⟩⟩;have hc4:=q3.same _ _ (q2.same _ _ hc2);have ru:=q3.rp;rw[hk1]at ru;refine⟨c,ws,i1,j1,rfl,ru.int_inv,hc4,by rw[← rl.length];exact ej1,?_⟩;have nG1:c∉G1:=λz=>by
  rcases q2.src c z with y | ⟨i,d,b,ei,m,_⟩
  ·rw[hc2]at y;cases y
  ·exact nfr i d b ei m
 have hj1:=(Qcq ej1).2.1;obtain⟨G',m1,m2⟩:=Qnx hc4 ((rl2.same q2.same).same q3.same) nL nG1 (q2.rp.same q3.same) hj1;have relB:=((relA.ext q2.same).ext q3.same).Qj9 (ys:=ws.set j1 v1) hc4 h0c nfr nhs;have hc5:upd H4 c (.lst (ws.set j1 v1)) c=some (.lst (ws.set j1 v1)):=Qaa;generalize upd H4 c (.lst (ws.set j1 v1))=H5 at relB hc5 m1;refine⟨U0,hs,F,r2,relB,eg2,λv2 H6 G2 q4=>⟨.ref c,hσ,U0,hs,F,k2,relB.ext q4.same,ef2,λu2 H7 Gj q5=>?_⟩⟩;have hc7:=q5.same _ _ (q4.same _ _ hc5);have rw2:=q5.rp;rw[hk2]at rw2;refine⟨c,ws.set j1 v1,i2,j2,rfl,rw2.int_inv,hc7,by rw[ZY,← rl.length];exact ej2,?_⟩;have nG2:c∉G2:=λz=>by
  rcases q4.src c z with y | ⟨i,d,b,ei,m,_⟩
  ·rw[hc5]at y;cases y
  ·exact nfr i d b ei m
 have nG':c∉G':=λz=>(m2 c z).elim nL nG1;have hj2:=(Qcq ej2).2.1;obtain⟨G'',n1,n2⟩:=Qnx hc7 ((m1.same q4.same).same q5.same) nG' nG2 (q4.rp.same q5.same) (by rw[ZY];exact hj2);have relC:=((relB.ext q4.same).ext q5.same).Qj9 (ys:=(ws.set j1 v1).set j2 v2) hc7 h0c nfr nhs;have hc8:upd H7 c (.lst ((ws.set j1 v1).set j2 v2)) c=some (.lst ((ws.set j1 v1).set j2 v2)):=Qaa;generalize upd H7 c (.lst ((ws.set j1 v1).set j2 v2))=H8 at relC hc8 n1;have sh0:=Shr.of rel0 (q1.src.more (M':=ry.M++(r1.M++r2.M)) λi hi=>by
  have hi:i∈ry.M++[]:=hi;rw[ZaO]at hi;exact Zf _ hi)
 have sh1:=Shr.of relA (q2.src.more (M':=ry.M++(r1.M++r2.M)) λi hi=>Ze _ (Zf _ hi));have sh2:=Shr.of relB (q4.src.more (M':=ry.M++(r1.M++r2.M)) λi hi=>Ze _ (Ze _ hi));have sh:Shr H0 A0 (Qba (ry.M++(r1.M++r2.M)) U0) F (c::G''):=λa ha=>by
  rcases Zi.mp ha with rfl | ha
  ·refine⟨.inl h0c,λi d ei hm=>?_⟩;obtain⟨b',e',_⟩:=(Qbp _ U0).2 i d true ei;exact nfr i d b' e' hm
  ·rcases n2 a ha with z | z
   ·rcases m2 a z with y | y
    ·exact sh0 a (memL a y)
    ·exact sh1 a y
   ·exact sh2 a z
 have relD:=(relC.weak (Qbp (ry.M++(r1.M++r2.M)) U0)).Qmw (i:=x) (d:= .lst ((ds.set j1 r1.d).set j2 r2.d)) (v:= .ref c) (Rp.Qen hc8 n1 (by rw[ZY,ZY];exact zl)) sh;have hs1:σ1.set x (some (.ref c))=σ1:=by rw[← hσ',List.set_set]
 rw[hs1]at relD;exact⟨_,hs,_,o,relD,e,q⟩
end
structure Swp where
 x:Str
 y:Expr
 i1:Expr
 e1:Expr
 i2:Expr
 e2:Expr
 r:List Stmt
noncomputable def Qr6:Stmt->Option (Expr×Expr)
 | .Assign [t] e _=>some (t,e)
 | _=>none
noncomputable def QrY:Expr->Option (Expr×Expr)
 | .Subscript a i _=>some (a,i)
 | _=>none
noncomputable def aName(st:Stmt):Option (Str×Expr):=(Qr6 st).bind λz=>(QbR z.1).bind λx=>some (x,z.2)
noncomputable def Qvq(st:Stmt):Option (Str×Expr×Expr):=(Qr6 st).bind λz=>(QrY z.1).bind λy=>(QbR y.1).bind λx=>some (x,y.2,z.2)
noncomputable def Qsx:Expr->Option (Str×Expr)
 | .Call (.Name f _) [y] [] _=>some (f,y)
 | _=>none
theorem QpB{st:Stmt}(h:Qr6 st=some z):∃p,st= .Assign [z.1] z.2 p:=by
 unfold Qr6 at h;split at h
 ·cases h;exact⟨_,rfl⟩
 ·cases h
theorem Qqm(h:QrY e=some z):∃p,e= .Subscript z.1 z.2 p:=by
 unfold QrY at h;split at h
 ·cases h;exact⟨_,rfl⟩
 ·cases h
theorem Qgu(h:QbR e=some x):∃p,e= .Name x p:=by
 unfold QbR at h;split at h
 ·cases h;exact⟨_,rfl⟩
 ·cases h
theorem QnT{st:Stmt}(h:aName st=some (x,e)):∃p q,st= .Assign [.Name x p] e q:=by
 refine Qg h λz h1 h=>?_;refine Qg h λy h2 h=>?_;cases h;obtain⟨p,e1⟩:=QpB h1;obtain⟨q,e2⟩:=Qgu h2;exact⟨q,p,by rw[e1,e2]⟩
theorem QpY{st:Stmt}(h:Qvq st=some (x,i,e)):∃a b c,st= .Assign [.Subscript (.Name x a) i b] e c:=by
 refine Qg h λz h1 h=>?_;refine Qg h λy h2 h=>?_;refine Qg h λw h3 h=>?_;cases h;obtain⟨p,e1⟩:=QpB h1;obtain⟨q,e2⟩:=Qqm h2;obtain⟨r,e3⟩:=Qgu h3;exact⟨r,q,p,by rw[e1,e2,e3]⟩
theorem Qte(h:Qsx e=some (f,y)):∃p q,e= .Call (.Name f p) [y] [] q:=by
 unfold Qsx at h;split at h
 ·cases h;exact⟨_,_,rfl⟩
 ·cases h
noncomputable def Qr8:List Stmt->Option Swp
 | a::b::c::r=>(aName a).bind λz=>(Qsx z.2).bind λy=>(Qvq b).bind λu=>(Qvq c).bind λv=>if y.1= "list" /\u.1=z.1/\v.1=z.1 then some ⟨z.1,y.2,u.2.1,u.2.2,v.2.1,v.2.2,r⟩else none
 | _=>none
theorem Qvh{sts:List Stmt}{q:Swp}(h:Qr8 sts=some q):∃p1 p2 p3 p4 a1 a2 a3 b1 b2 b3,sts= .Assign [.Name q.x p1] (.Call (.Name "list" p2) [q.y] [] p3) p4:: .Assign [.Subscript (.Name q.x a1) q.i1 a2] q.e1 a3:: .Assign [.Subscript (.Name q.x b1) q.i2 b2] q.e2 b3::q.r:=by
 refine(λh:∀G:Prop,(_->G)->G=>h _ id) λGG kk=>?_;unfold Qr8 at h;split at h
 ·rename_i a b c r;refine Qg h λz h1 h=>?_;refine Qg h λy h2 h=>?_;refine Qg h λu h3 h=>?_;refine Qg h λv h4 h=>?_;split at h
  ·rename_i hc;obtain⟨g1,g2,g3⟩:=hc;obtain⟨p1,p4,e1⟩:=QnT h1;obtain⟨p2,p3,e2⟩:=Qte h2;obtain⟨a1,a2,a3,e3⟩:=QpY h3;obtain⟨b1,b2,b3,e4⟩:=QpY h4;have h:=Option.some.inj h;subst h;exact kk ⟨p1,p2,p3,p4,a1,a2,a3,b1,b2,b3,by rw[e1,e2,e3,e4,g1,g2,g3]⟩
  ·cases h
 ·cases h
noncomputable def Qfw(r:R):Bool:=r.norm.fr && r.norm.M.isEmpty
noncomputable def QhO(t b ln:Nat)(U:En):En:=((U.set t none).set b none).set ln none
noncomputable def Qpz(t1 t2 b1 b2:D):Option (D×Bool):=some (.tup [t1,t2,b1,b2],(D.tup [t1,t2,b1,b2]).flat)
noncomputable def QjB(t b:Nat)(ts bs:List D)(i k:Int)(j1 j2 l1 l2:Nat)(fi fk g1 g2 g3 g4:DE)(U0 U1:En):Option Out:=
 (fi U1).bind λri=>(fk U1).bind λrk=>(g1 U1).bind λr1=>(g2 U1).bind λr2=>(g3 U1).bind λr3=>(g4 U1).bind λr4=>match ri.d,rk.d with
  | .int i',.int k'=>if i'=i/\k'=k/\Qfw r1=true/\Qfw r2=true/\Qfw r3=true/\Qfw r4=true then
    some (.nx ((U0.set t (some (.lst ((ts.set j1 r1.d).set j2 r2.d),true))).set b (some (.lst ((bs.set l1 r3.d).set l2 r4.d),true))))else none
  | _,_=>none
noncomputable def Qi9(t b ln:Nat)(fi fk g1 g2 g3 g4:DE):DS:=λU=>match U[t]?,U[b]? with
 | some (some (.lst ts,true)),some (some (.lst bs,true))=>if t≠b/\ln≠t/\ln≠b/\ln<U.length then
   (fi U).bind λri=>(fk U).bind λrk=>match ri.d,rk.d with
    | .int i,.int k=>(ixN ts.length i).bind λj1=>(ixN ts.length k).bind λj2=>(ixN bs.length i).bind λl1=>(ixN bs.length k).bind λl2=>
      (ts[j1]?).bind λt1=>(ts[j2]?).bind λt2=>(bs[l1]?).bind λb1=>(bs[l2]?).bind λb2=>
       QjB t b ts bs i k j1 j2 l1 l2 fi fk g1 g2 g3 g4 (QhO t b ln U) ((QhO t b ln U).set ln (Qpz t1 t2 b1 b2))
    | _,_=>none
   else none
 | _,_=>none
theorem Qwi(h:Qfw r=true):r.norm.fr=true/\r.norm.M=[]:=by
 unfold Qfw at h;simp only[Zm,List.isEmpty_iff]at h;exact h
structure Spn (K:Fgg) (H0 H:Hp) (hs:List (V×D×List Addr)) (U:En) (F:Nat->List Addr) (a:Addr) (ds:List D) (ws:List V) (G:LAd):Prop where
 at':H a=some (.lst ws)
 rp:Rps K H ds ws G
 len:G.length=nls ds
 na:a∉G
 nd:G.Nodup
 h0:∀c,c=a∨c∈G->H0 c=none
 out:∀(i:Nat) d b,U[i]? =some (some (d,b))->∀c,c=a∨c∈G->c∉F i
 hld:∀t∈hs,∀c,c=a∨c∈G->c∉t.2.2
 sz:ds.length<=sizeLine
section
variable {K:Fgg}{H0 H H':Hp}{A0:LAd}{hs:List (V×D×List Addr)}{U:En}{F:Nat->List Addr}{σ:L2.St}{a:Addr}{ds:List D}{ws:List V}{G:LAd}
theorem Spn.mem(s:Spn K H0 H hs U F a ds ws G){c:Addr}(h:c=a∨c∈G):∃vs,H c=some (.lst vs):=by
 rcases h with rfl | h
 ·exact⟨ws,s.at'⟩
 ·exact s.rp.mem c h
theorem Spn.same(s:Spn K H0 H hs U F a ds ws G)(e:QS H H'):Spn K H0 H' hs U F a ds ws G:=⟨e _ _ s.at',s.rp.same e,s.len,s.na,s.nd,s.h0,s.out,s.hld,s.sz⟩
theorem Spn.QsJ(s:Spn K H0 H hs U F a ds ws G){p:Addr}{zs ys:List V}(hp:H p=some (.lst zs))(hn:¬(p=a∨p∈G)):Spn K H0 (upd H p (.lst ys)) hs U F a ds ws G:=
 ⟨by rw[QR λz=>hn (.inl z.symm)];exact s.at',s.rp.upd hp λz=>hn (.inr z),s.len,s.na,s.nd,s.h0,s.out,s.hld,s.sz⟩
theorem Spn.put(s:Spn K H0 H hs U F a ds ws G){U1:En}{F1:Nat->List Addr}(rel0:Rel K H0 A0 hs U F σ H)(rel:Rel K H0 A0 hs U1 F1 σ H){r:R}{v:V}{Gn:LAd}(p:Qaf K U1 F1 H H' r v Gn)(ho:Qfw r=true){j:Nat}(hj:j<ds.length)(h1:∀(i:Nat) d b,U1[i]? =some (some (d,b))->a∉F1 i):
  ∃G',Spn K H0 (upd H' a (.lst (ws.set j v))) hs U F a (ds.set j r.d) (ws.set j v) G'/\Rel K H0 A0 hs U1 F1 σ (upd H' a (.lst (ws.set j v)))/\Rel K H0 A0 hs U F σ (upd H' a (.lst (ws.set j v)))/\∀c∈G',c∈G∨H c=none:=by
 have p':=p.norm;obtain⟨f1,f2⟩:=Qwi ho;have cn:=p'.cnt f1;rw[f2]at cn;have hnl:=cn.2;rw[r.Qc3]at hnl;have hrp:=p'.rp;rw[r.Qc3]at hrp;have hcn:∀c,Gn.count c<=nw H c:=λc=>by have:=cn.1 c;simpa using this
 have gN:∀c∈Gn,H c=none:=λc hc=>by
  have h2:=hcn c;have h3:0<Gn.count c:=Zai.mpr hc;cases q:H c with
  | none=>rfl
  | some o=>rw[Qdh q]at h2;omega
 have aN:a∉Gn:=λz=>by have:=gN a z;rw[s.at']at this;cases this
 obtain⟨G',m1,m2,m3⟩:=set_mk (p'.same _ _ s.at') (s.rp.same p'.same) s.len s.na aN hrp hnl hj;have mem:∀c∈G',c∈G∨c∈Gn:=λc hc=>by
  have h2:=m3 c;have h3:0<G'.count c:=Zai.mpr hc;by_cases z:c∈G
  ·exact .inl z
  ·rw[ZS.mpr z]at h2;exact .inr (Zai.mp ⋯)
 have relE:=rel.ext p'.same;have relE0:=rel0.ext p'.same;have a0:=s.h0 a (.inl rfl);have nfr:∀(i:Nat) d b,U[i]? =some (some (d,b))->a∉F i:=λi d b e=>s.out i d b e a (.inl rfl);refine⟨G',⟨Qaa,m1,m2,λz=>(mem a z).elim s.na aN,Zap.mpr λc=>?_,λc hc=>?_,λi d b e c hc=>?_,λt ht c hc=>?_,by rw[ZY];exact s.sz⟩,?_,?_,λc hc=>(mem c hc).imp_right (gN c)⟩
 ·have h2:=m3 c;have h3:=Zap.mp s.nd c;have h4:=hcn c;by_cases z:c∈G
  ·obtain⟨vs,q⟩:=s.mem (.inr z);rw[Qdh q]at h4;omega
  ·rw[ZS.mpr z]at h2;have:nw H c<=1:=by unfold nw;split<;>decide
   omega
 ·rcases hc with rfl | hc
  ·exact a0
  ·rcases mem c hc with z | z
   ·exact s.h0 c (.inr z)
   ·exact rel.same.free (gN c z)
 ·rcases hc with rfl | hc
  ·exact nfr i d b e
  ·rcases mem c hc with z | z
   ·exact s.out i d b e c (.inr z)
   ·intro hm;obtain⟨vs,q⟩:=rel0.mem e hm;rw[gN c z]at q;cases q
 ·rcases hc with rfl | hc
  ·exact s.hld t ht _ (.inl rfl)
  ·rcases mem c hc with z | z
   ·exact s.hld t ht c (.inr z)
   ·intro hm;obtain⟨vs,q⟩:=(rel.held t ht).1.mem c hm;rw[gN c z]at q;cases q
 ·exact relE.Qj9 (p'.same _ _ s.at') a0 h1 λt ht=>s.hld t ht a (.inl rfl)
 ·exact relE0.Qj9 (p'.same _ _ s.at') a0 nfr λt ht=>s.hld t ht a (.inl rfl)
theorem Spn.back(s:Spn K H0 H hs U F a ds ws G)(rel:Rel K H0 A0 hs U F σ H){x:Nat}(hx:σ[x]? =some (some (.ref a)))(hn:∀d b,U[x]? ≠some (some (d,b))):Rel K H0 A0 hs (U.set x (some (.lst ds,true))) (λj=>if j=x then a::G else F j) σ H:=by
 have lt:∀{z:Option (D×Bool)}{y:D×Bool},(U.set x z)[x]? =some (some y)->x<U.length:=λ{z y} e=>by
  by_cases hl:x<U.length
  ·exact hl
  ·rw[Zu (by simp;omega)]at e;cases e
 refine⟨by simp[rel.len],λj d b e=>?_,λj d e=>?_,λj d b e c hc=>?_,rel.held,rel.same⟩
 ·by_cases hj:j=x
  ·subst hj;rw[Zn (lt e)]at e;cases e;exact⟨_,hx,by rw[if_pos rfl];exact Rp.Qen s.at' s.rp s.sz⟩
  ·rw[Zd (Ne.symm hj)]at e;obtain⟨w,h1,h2⟩:=rel.val j d b e;exact⟨w,h1,by rw[if_neg hj];exact h2⟩
 ·by_cases hj:j=x
  ·subst hj;rw[Zn (lt e)]at e;cases e;rw[if_pos rfl];refine⟨by simp only[ZR,D.nl,s.len],ZaC.mpr ⟨s.na,s.nd⟩,λc hc=>s.h0 c (Zi.mp hc),λk d' b hk ek c hc=>?_,λt ht c hc=>s.hld t ht c (Zi.mp hc)⟩;rw[Zd (Ne.symm hk)]at ek;rw[if_neg hk];exact s.out k d' b ek c (Zi.mp hc)
  ·rw[Zd (Ne.symm hj)]at e;obtain⟨h1,h2,h3,h4,h5⟩:=rel.own j d e;rw[if_neg hj];refine⟨h1,h2,h3,λk d' b hk ek c hc=>?_,h5⟩;by_cases hkx:k=x
   ·subst hkx;rw[if_pos rfl];exact λhm=>s.out j d true e c (Zi.mp hm) hc
   ·rw[Zd (Ne.symm hkx)]at ek;rw[if_neg hkx];exact h4 k d' b hk ek c hc
 ·by_cases hj:j=x
  ·subst hj;rw[if_pos rfl]at hc;exact .inl (s.h0 c (Zi.mp hc))
  ·rw[Zd (Ne.symm hj)]at e;rw[if_neg hj]at hc;exact rel.src j d b e c hc
theorem Spn.weak(s:Spn K H0 H hs U F a ds ws G){U':En}{F':Nat->List Addr}(h:∀(i:Nat) d b,U'[i]? =some (some (d,b))->∀c,c=a∨c∈G->c∉F' i):Spn K H0 H hs U' F' a ds ws G:=⟨s.at',s.rp,s.len,s.na,s.nd,s.h0,h,s.hld,s.sz⟩
theorem Spn.of(rel:Rel K H0 A0 hs U F σ H){x:Nat}(hx:U[x]? =some (some (.lst ds,true))):∃a ws G,σ[x]? =some (some (.ref a))/\F x=a::G/\Spn K H0 H hs (U.set x none) F a ds ws G:=by
 obtain⟨v,h1,h2⟩:=rel.val x _ _ hx;obtain⟨ol,on,o0,oap,oh⟩:=rel.own x _ hx;simp only[Rp]at h2;obtain⟨hz,a,vs,rfl,⟨G,eF,q,r⟩ | ⟨q,r⟩⟩:=h2
 ·rw[eF]at ol on o0 oap oh;obtain⟨n1,n2⟩:=ZaC.mp on;refine⟨a,vs,G,h1,eF,q,r,by simp only[ZR,D.nl]at ol;omega,n1,n2,λc hc=>o0 c (Zi.mpr hc),λi d b e c hc=>?_,λt ht c hc=>oh t ht c (Zi.mpr hc),hz⟩;obtain⟨b',e',_⟩:=(QcV (U:=U) x).2 i d b e;have hi:i≠x:=λz=>by
   subst z;by_cases hl:i<U.length
   ·rw[Zn hl]at e;cases e
   ·rw[Zu (by simp;omega)]at e;cases e
  exact oap i d b' hi e' c (Zi.mpr hc)
 ·have:=r.QaO;simp only[D.nl]at ol;omega
theorem Qfy{i:Int}{d':D}{v':V}{Gm:LAd}(f:Focus K H [i] (.lst ds) (.ref a) (a::G) d' v' Gm)(hl:G.length=nls ds):(∀c∈Gm,c∈G)/\Rp K H d' v' Gm:=by
 obtain⟨es,a',vs,j',F1,G',F2,d2,v2,e1,h2,h3,h4,h5,h6,h7,h8,h9⟩:=f;cases e1;obtain⟨rfl,rfl,rfl,h9⟩:=h9;refine⟨λc hc=>?_,h9⟩;rcases h3 with⟨e,z,⟨eF,q⟩ | ⟨eF,q⟩⟩ | ⟨e,_⟩
 ·obtain⟨_,rfl⟩:=List.cons.inj eF;exact Ze _ (Zf _ hc)
 ·exfalso;have l1:=h4.QaO;have l2:=h9.QaO;have l3:=h5.QaO;have ex:=congrArg List.length eF;have e2:=congrArg nls (ZaZ j' es);have hj:j'<es.length:=(Zk.mp h6).1;have hd:es[j']=d':=(Zk.mp h6).2;rw[Qej,ZW hj,hd]at e2;simp only[nls]at e2;cases e;simp only[ZR,Zy]at ex;omega
 ·cases e
end
theorem get_none{U:En}{x:Nat}{p:D×Bool}(h:(U.set x none)[x]? =some (some p)):False:=by
 by_cases hl:x<U.length
 ·rw[Zn hl]at h;cases h
 ·rw[Zu (by rw[ZY];exact Nat.le_of_not_lt hl)]at h;cases h
theorem QgE{K:Fgg}{H0 H:Hp}{A0:LAd}{f:DE}{σ:L2.St}{Q:V->Hp->Prop}{U:En}{hs:List (V×D×List Addr)}{F:Nat->List Addr}{r:R}(rel:Rel K H0 A0 hs U F σ H)(e:f U=some r)(q:∀v H' G,Qaf K U F H H' r v G->Q v H'):tV K H0 A0 f σ H Q:=⟨U,hs,F,r,rel,e,q⟩
theorem Qox{K:Fgg}{H0 H:Hp}{A0:LAd}{x:Nat}{pf:DP}{σ:L2.St}{Q:V->Hp->Prop}{U:En}{hs:List (V×D×List Addr)}{F:Nat->List Addr}{d:D}{b:Bool}{is:List Int}{dm:D}(rel:Rel K H0 A0 hs U F σ H)(hx:U[x]? =some (some (d,b)))(hp:pf U=some is)(hd:QbY d is=some dm)(q:∀v0 v H' Gm,QS H H'->σ[x]? =some (some v0)->Focus K H' is d v0 (F x) dm v Gm->Q v H'):tP K H0 A0 x pf σ H Q:=⟨U,hs,F,d,b,is,dm,rel,hx,hp,hd,q⟩
section
theorem Qst{G:Prop}(e1:QjB t b ts bs i k j1 j2 l1 l2 fi fk g1 g2 g3 g4 U0 U1=some o)
  (kk:∀ri rk q1 q2 q3 q4,fi U1=some ri->fk U1=some rk->g1 U1=some q1->g2 U1=some q2->g3 U1=some q3->g4 U1=some q4->ri.d= .int i->rk.d= .int k->Qfw q1=true->Qfw q2=true->Qfw q3=true->Qfw q4=true→
   o= .nx ((U0.set t (some (.lst ((ts.set j1 q1.d).set j2 q2.d),true))).set b (some (.lst ((bs.set l1 q3.d).set l2 q4.d),true)))->G):G:=by
 unfold QjB at e1;refine Qg e1 λri ei e1=>?_;refine Qg e1 λrk ek e1=>?_;refine Qg e1 λq1 c1 e1=>?_;refine Qg e1 λq2 c2 e1=>?_;refine Qg e1 λq3 c3 e1=>?_;refine Qg e1 λq4 c4 eE=>?_;clear e1;have kk:=kk ri rk q1 q2 q3 q4 ei ek c1 c2 c3 c4;split at eE
 case h_2=>cases eE
 rename_i i' k' hi hk;split at eE
 case isFalse=>cases eE
 rename_i hc;obtain⟨rfl,rfl,w1,w2,w3,w4⟩:=hc;exact kk hi hk w1 w2 w3 w4 (Option.some.inj eE).symm
theorem Qv4{G:Prop}(e1:Qi9 t b ln fi fk g1 g2 g3 g4 U=some o)
  (kk:∀ts bs ri rk i k j1 j2 l1 l2 t1 t2 b1 b2,U[t]? =some (some (.lst ts,true))->U[b]? =some (some (.lst bs,true))->(t≠b/\ln≠t/\ln≠b/\ln<U.length)->fi U=some ri->fk U=some rk->ri.d= .int i->rk.d= .int k→
   ixN ts.length i=some j1->ixN ts.length k=some j2->ixN bs.length i=some l1->ixN bs.length k=some l2->ts[j1]? =some t1->ts[j2]? =some t2->bs[l1]? =some b1->bs[l2]? =some b2→
   QjB t b ts bs i k j1 j2 l1 l2 fi fk g1 g2 g3 g4 (QhO t b ln U) ((QhO t b ln U).set ln (Qpz t1 t2 b1 b2))=some o->G):G:=by
 unfold Qi9 at e1;split at e1
 case h_2=>cases e1
 rename_i ts bs ht hb;split at e1
 case isFalse=>cases e1
 rename_i hc;refine Qg e1 λri ei e1=>?_;refine Qg e1 λrk ek eE=>?_;clear e1;have kk:=λi k j1 j2 l1 l2 t1 t2 b1 b2=>kk ts bs ri rk i k j1 j2 l1 l2 t1 t2 b1 b2 ht hb hc ei ek;split at eE
 case h_2=>cases eE
 rename_i i k hi hk;refine Qg eE λj1 x1 e1=>?_;refine Qg e1 λj2 x2 e1=>?_;refine Qg e1 λl1 x3 e1=>?_;refine Qg e1 λl2 x4 e1=>?_;refine Qg e1 λt1 y1 e1=>?_;refine Qg e1 λt2 y2 e1=>?_;refine Qg e1 λb1 y3 e1=>?_;refine Qg e1 λb2 y4 e1=>?_;exact kk i k j1 j2 l1 l2 t1 t2 b1 b2 hi hk x1 x2 x3 x4 y1 y2 y3 y4 e1
theorem Qv1{x:Nat}(e:(QhO t b ln U)[x]? =some (some p)):x≠t/\x≠b/\x≠ln/\(U.set t none)[x]? =some (some p)/\(U.set b none)[x]? =some (some p):=by
 unfold QhO at e;have h3:x≠ln:=λz=>by rw[z]at e;exact get_none e
 rw[Zd (Ne.symm h3)]at e;have h2:x≠b:=λz=>by rw[z]at e;exact get_none e
 rw[Zd (Ne.symm h2)]at e;have h1:x≠t:=λz=>by rw[z]at e;exact get_none e
 refine⟨h1,h2,h3,e,?_⟩;rw[Zd (Ne.symm h2)];rwa[Zd (Ne.symm h1)]at e
theorem QzN(p0:∀H0 A0,PS X st0 (QeO (Qzx (Qh2 (tP X.K H0 A0 t (QdC QaQ fi)) (Qh2 (tP X.K H0 A0 t (QdC QaQ fk)) (Qh2 (tP X.K H0 A0 b (QdC QaQ fi)) (Qh2 (tP X.K H0 A0 b (QdC QaQ fk)) Qpl))))) (Qgy ln)))
  (p1:∀H0 A0,PS X st1 (QeO (tV X.K H0 A0 g1) (L2.QaL (QgO t) (tV X.K H0 A0 fi) QgI))) (p2:∀H0 A0,PS X st2 (QeO (tV X.K H0 A0 g2) (L2.QaL (QgO t) (tV X.K H0 A0 fk) QgI)))
  (p3:∀H0 A0,PS X st3 (QeO (tV X.K H0 A0 g3) (L2.QaL (QgO b) (tV X.K H0 A0 fi) QgI))) (p4:∀H0 A0,PS X st4 (QeO (tV X.K H0 A0 g4) (L2.QaL (QgO b) (tV X.K H0 A0 fk) QgI))) (h:SS X sts g):
  SS X (st0::st1::st2::st3::st4::sts) (Qd (Qi9 t b ln fi fk g1 g2 g3 g4) g):=λH0 A0=>
 (Qce (p0 H0 A0) (Qce (p1 H0 A0) (Qce (p2 H0 A0) (Qce (p3 H0 A0) (Qce (p4 H0 A0) (h H0 A0)))))).mono λE σ H=>exK λU hs F o rel e q=>by
 refine Qg e λo1 e1 e=>?_;refine Qv4 e1 λts bs ri rk i k j1 j2 l1 l2 t1 t2 b1 b2 ht hb hc ei ek hi hk x1 x2 x3 x4 y1 y2 y3 y4 e1=>?_;have wA:QcM U (QhO t b ln U):=((QcV t).trans (QcV b)).trans (QcV ln);have c3:=λx p=>Qv1 (t:=t) (b:=b) (ln:=ln) (x:=x) (U:=U) (p:=p);obtain⟨htb,hlt,hlb,hll⟩:=hc;generalize hU0:QhO t b ln U=U0 at e1 wA c3;generalize hU1:U0.set ln (Qpz t1 t2 b1 b2)=U1 at e1;refine Qst e1 λri' rk' q1 q2 q3 q4 ei' ek' d1 d2 d3 d4 hi' hk' w1' w2' w3' w4' eE=>?_;subst eE;clear e1 hU0;obtain⟨a,ws,Gt,st,Ft,sp⟩:=Spn.of rel ht;obtain⟨a',ws',Gb,sb,Fb,sp'⟩:=Spn.of rel hb;have pf:∀{f:DE}{r:HS.R}{z:Int},f U=some r->r.d= .int z->QdC QaQ f U=some [z]:=λ{f r z} h1 h2=>by
  unfold QdC QaQ;rw[Za,h1,Za,h2];rfl
 have dp:∀{zs:List D}{z:Int}{j:Nat}{d:D},ixN zs.length z=some j->zs[j]? =some d->QbY (.lst zs) [z]=some d:=λ{zs z j d} h1 h2=>by
  unfold QbY;simp only[D.items,Za];unfold atI;rw[h1,Za,h2];rfl
 refine Qox (rel) ht (pf ei hi) (dp x1 y1) λv0 v1 H1 M1 s1 hv0 f1=>?_;rw[Option.some.inj (Option.some.inj (hv0.symm.trans st))]at f1;refine Qox (rel.ext s1) ht (pf ek hk) (dp x2 y2) λv0 v2 H2 M2 s2 hv0 f2=>?_;rw[Option.some.inj (Option.some.inj (hv0.symm.trans st))]at f2;refine Qox ((rel.ext s1).ext s2) hb (pf ei hi) (dp x3 y3) λv0 v3 H3 M3 s3 hv0 f3=>?_;rw[Option.some.inj (Option.some.inj (hv0.symm.trans sb))]at f3;refine Qox (((rel.ext s1).ext s2).ext s3) hb (pf ek hk) (dp x4 y4) λv0 v4 H4 M4 s4 hv0 f4=>?_;rw[Option.some.inj (Option.some.inj (hv0.symm.trans sb))]at f4;refine⟨QfB (by simp),λc hcn=>?_⟩;have sU:QS H4 (upd H4 c (.tup [v1,v2,v3,v4])):=Qbz hcn;have hct:upd H4 c (.tup [v1,v2,v3,v4]) c=some (.tup [v1,v2,v3,v4]):=Qaa;have s14:QS H H4:=((s1.trans s2).trans s3).trans s4;have f1':=f1.same (((s2.trans s3).trans s4).trans sU);have f2':=f2.same ((s3.trans s4).trans sU);have f3':=f3.same (s4.trans sU);have f4':=f4.same sU;have relx:=rel.ext (s14.trans sU);have sp:=sp.same (s14.trans sU);have sp':=sp'.same (s14.trans sU);generalize upd H4 c (.tup [v1,v2,v3,v4])=H5 at f1' f2' f3' f4' relx sp sp' hct;rw[Ft]at f1' f2';rw[Fb]at f3' f4';refine(λh:∀G:Prop,(_->G)->G=>h _ id) λGG kk=>?_;obtain⟨m1,r1⟩:=Qfy f1' sp.len;obtain⟨m2,r2⟩:=Qfy f2' sp.len;obtain⟨m3,r3⟩:=Qfy f3' sp'.len;obtain⟨m4,r4⟩:=Qfy f4' sp'.len;refine kk ?_;have rT:Rp X.K H5 (.tup [t1,t2,b1,b2]) (.ref c) (M1++(M2++(M3++(M4++[])))):=by
  refine Rp.Qht hct ?_;simp only[Rps];exact⟨v1,_,M1,_,rfl,rfl,r1,v2,_,M2,_,rfl,rfl,r2,v3,_,M3,_,rfl,rfl,r3,v4,_,M4,_,rfl,rfl,r4,rfl,rfl⟩
 have hM:∀z∈M1++(M2++(M3++(M4++[]))),z∈Gt∨z∈Gb:=λz hz=>by
  simp only[ZF,Zby,or_false]at hz;rcases hz with h | h | h | h
  ·exact .inl (m1 z h)
  ·exact .inl (m2 z h)
  ·exact .inr (m3 z h)
  ·exact .inr (m4 z h)
 generalize M1++(M2++(M3++(M4++[])))=M at rT hM;have rel0:=relx.weak wA;have apart:∀z,z=a∨z∈Gt->¬(z=a'∨z∈Gb):=λz hz hz'=>by
  have h1:=(rel.own t _ ht).2.2.2.1 b _ _ (λe=>htb e.symm) hb;rw[Ft,Fb]at h1;exact h1 z (Zi.mpr hz) (Zi.mpr hz')
 have sh:Shr H0 A0 U0 F M:=λz hz=>by
  rcases hM z hz with h | h
  ·exact⟨.inl (sp.h0 z (.inr h)),λx d ex=>sp.out x d true (c3 x _ ex).2.2.2.1 z (.inr h)⟩
  ·exact⟨.inl (sp'.h0 z (.inr h)),λx d ex=>sp'.out x d true (c3 x _ ex).2.2.2.2 z (.inr h)⟩
 have relL:=rel0.Qmw (i:=ln) rT sh;have sp0:Spn X.K H0 H5 hs U0 F a ts ws Gt:=sp.weak λx d bb ex=>sp.out x d bb (c3 x _ ex).2.2.2.1;have sp0':Spn X.K H0 H5 hs U0 F a' bs ws' Gb:=sp'.weak λx d bb ex=>sp'.out x d bb (c3 x _ ex).2.2.2.2;have rel0:=rel0.put (i:=ln) (v:= .ref c) λd bb ex=>(c3 _ _ ex).2.2.1 rfl;have st1':(σ.set ln (some (.ref c)))[t]? =some (some (.ref a)):=by rw[Zd hlt];exact st
 have sb1':(σ.set ln (some (.ref c)))[b]? =some (some (.ref a')):=by rw[Zd hlb];exact sb
 show Qwc _ _ E (σ.set ln (some (.ref c))) _;generalize hσ:σ.set ln (some (V.ref c))=σ1 at relL rel0 st1' sb1';change Rel _ _ _ _ (U0.set ln (Qpz t1 t2 b1 b2)) _ _ _ at relL;rw[hU1]at relL;generalize hF1:(λj=>if j=ln then M else F j)=F1 at relL;have out1:∀z,(z=a∨z=a')->∀(x:Nat) d bb,U1[x]? =some (some (d,bb))->z∉F1 x:=λz hz x d bb ex=>by
  subst hF1;dsimp only;by_cases hx:x=ln
  ·rw[if_pos hx];intro hm;rcases hz with rfl | rfl
   ·rcases hM z hm with h | h
    ·exact sp.na h
    ·exact apart z (.inl rfl) (.inr h)
   ·rcases hM z hm with h | h
    ·exact apart z (.inr h) (.inl rfl)
    ·exact sp'.na h
  ·rw[if_neg hx];subst hU1;rw[Zd (Ne.symm hx)]at ex;rcases hz with rfl | rfl
   ·exact sp0.out x d bb ex z (.inl rfl)
   ·exact sp0'.out x d bb ex z (.inl rfl)
 have jl1:=(Qcq x1).2.1;have jl2:=(Qcq x2).2.1;have ll1:=(Qcq x3).2.1;have ll2:=(Qcq x4).2.1;refine QgE relL d1 λu1 H6 N1 z1=>⟨.ref a,st1',QgE (relL.ext z1.same) ei' λy1' H7 N1' z1'=>?_⟩;have ru:=z1'.rp;rw[hi']at ru;refine⟨a,ws,i,j1,rfl,ru.int_inv,z1'.same _ _ (z1.same _ _ sp0.at'),by rw[← sp0.rp.length];exact x1,?_⟩;refine(λh:∀G:Prop,(_->G)->G=>h _ id) λGG kk=>?_;obtain⟨G1,spA,relA,rel0A,mA⟩:=sp0.put rel0 relL (z1.QgK z1'.same) w1' jl1 λx d bb ex=>out1 a (.inl rfl) x d bb ex;refine kk ?_;have apA:¬(a=a'∨a∈Gb):=apart a (.inl rfl);have spA':Spn X.K H0 (upd H7 a (.lst (ws.set j1 u1))) hs U0 F a' bs ws' Gb:=(sp0'.same (z1.same.trans z1'.same)).QsJ (z1'.same _ _ (z1.same _ _ sp0.at')) apA;generalize upd H7 a (.lst (ws.set j1 u1))=H8 at spA relA rel0A spA';have apartA:∀z,z∈G1->¬(z=a'∨z∈Gb):=λz hz hz'=>by
  rcases mA z hz with h | h
  ·exact apart z (.inr h) hz'
  ·obtain⟨vs,w⟩:=sp0'.mem hz';rw[h]at w;cases w
 refine QgE relA d2 λu2 H9 N2 z2=>⟨.ref a,st1',QgE (relA.ext z2.same) ek' λy2' H10 N2' z2'=>?_⟩;have ru2:=z2'.rp;rw[hk']at ru2;refine⟨a,ws.set j1 u1,k,j2,rfl,ru2.int_inv,z2'.same _ _ (z2.same _ _ spA.at'),by rw[← spA.rp.length,ZY];exact x2,?_⟩;refine(λh:∀G:Prop,(_->G)->G=>h _ id) λGG kk=>?_;obtain⟨G2,spB,relB,rel0B,mB⟩:=spA.put rel0A relA (z2.QgK z2'.same) w2' (by rw[ZY];exact jl2) λx d bb ex=>out1 a (.inl rfl) x d bb ex;refine kk ?_;have spB':Spn X.K H0 (upd H10 a (.lst ((ws.set j1 u1).set j2 u2))) hs U0 F a' bs ws' Gb:=(spA'.same (z2.same.trans z2'.same)).QsJ (z2'.same _ _ (z2.same _ _ spA.at')) apA;generalize upd H10 a (.lst ((ws.set j1 u1).set j2 u2))=H11 at spB relB rel0B spB';have apartB:∀z,z=a∨z∈G2->¬(z=a'∨z∈Gb):=λz hz hz'=>by
  rcases hz with rfl | hz
  ·exact apA hz'
  ·rcases mB z hz with h | h
   ·exact apartA z h hz'
   ·obtain⟨vs,w⟩:=spA'.mem hz';rw[h]at w;cases w
 refine QgE relB d3 λu3 H12 N3 z3=>⟨.ref a',sb1',QgE (relB.ext z3.same) ei' λy3' H13 N3' z3'=>?_⟩;have ru3:=z3'.rp;rw[hi']at ru3;refine⟨a',ws',i,l1,rfl,ru3.int_inv,z3'.same _ _ (z3.same _ _ spB'.at'),by rw[← spB'.rp.length];exact x3,?_⟩;refine(λh:∀G:Prop,(_->G)->G=>h _ id) λGG kk=>?_;obtain⟨G3,spC',relC,rel0C,mC⟩:=spB'.put rel0B relB (z3.QgK z3'.same) w3' ll1 λx d bb ex=>out1 a' (.inr rfl) x d bb ex;refine kk ?_;have apB:¬(a'=a∨a'∈G2):=λh=>apartB a' h (.inl rfl);have spC:Spn X.K H0 (upd H13 a' (.lst (ws'.set l1 u3))) hs U0 F a _ _ G2:=(spB.same (z3.same.trans z3'.same)).QsJ (z3'.same _ _ (z3.same _ _ spB'.at')) apB;generalize upd H13 a' (.lst (ws'.set l1 u3))=H14 at spC relC rel0C spC';have apartC:∀z,z∈G3->¬(z=a∨z∈G2):=λz hz hz'=>by
  rcases mC z hz with h | h
  ·exact apartB z hz' (.inr h)
  ·obtain⟨vs,w⟩:=spB.mem hz';rw[h]at w;cases w
 refine QgE relC d4 λu4 H15 N4 z4=>⟨.ref a',sb1',QgE (relC.ext z4.same) ek' λy4' H16 N4' z4'=>?_⟩;have ru4:=z4'.rp;rw[hk']at ru4;refine⟨a',ws'.set l1 u3,k,l2,rfl,ru4.int_inv,z4'.same _ _ (z4.same _ _ spC'.at'),by rw[← spC'.rp.length,ZY];exact x4,?_⟩;refine(λh:∀G:Prop,(_->G)->G=>h _ id) λGG kk=>?_;obtain⟨G4,spD',relD,rel0D,mD⟩:=spC'.put rel0C relC (z4.QgK z4'.same) w4' (by rw[ZY];exact ll2) λx d bb ex=>out1 a' (.inr rfl) x d bb ex;refine kk ?_;have spD:Spn X.K H0 (upd H16 a' (.lst ((ws'.set l1 u3).set l2 u4))) hs U0 F a _ _ G2:=(spC.same (z4.same.trans z4'.same)).QsJ (z4'.same _ _ (z4.same _ _ spC'.at')) apB;generalize upd H16 a' (.lst ((ws'.set l1 u3).set l2 u4))=H17 at spD relD rel0D spD';have apartD:∀z,z=a'∨z∈G4->¬(z=a∨z∈G2):=λz hz hz'=>by
  rcases hz with rfl | hz
  ·exact apB hz'
  ·rcases mD z hz with h | h
   ·exact apartC z h hz'
   ·obtain⟨vs,w⟩:=spC.mem hz';rw[h]at w;cases w
 have nt:∀d bb,U0[t]? ≠some (some (d,bb)):=λd bb ex=>(c3 _ _ ex).1 rfl;have nb:∀d bb,U0[b]? ≠some (some (d,bb)):=λd bb ex=>(c3 _ _ ex).2.1 rfl;have relE:=spD.back rel0D st1' nt;have spE:=spD'.weak (U':=U0.set t (some (.lst ((ts.set j1 q1.d).set j2 q2.d),true))) (F':=λj=>if j=t then a::G2 else F j) λx d bb ex z hz=>by
  by_cases hx:x=t
  ·rw[if_pos hx];exact λhm=>apartD z hz (Zi.mp hm)
  ·rw[if_neg hx];rw[Zd (Ne.symm hx)]at ex;exact spD'.out x d bb ex z hz
 have relF:=spE.back relE sb1' (by rw[Zd htb];exact nb);exact⟨_,hs,_,o,relF,e,q⟩
end
noncomputable def QbS(e:Expr):Option (Str×Str):=(QrY e).bind λz=>(QbR z.1).bind λx=>(QbR z.2).bind λy=>some (x,y)
theorem Qc0(h:QbS e=some (x,y)):∃p1 p2 p3,e= .Subscript (.Name x p1) (.Name y p2) p3:=by
 refine Qg h λz h1 h=>?_;refine Qg h λu h2 h=>?_;refine Qg h λw h3 h=>?_;cases h;obtain⟨p,e1⟩:=Qqm h1;obtain⟨q,e2⟩:=Qgu h2;obtain⟨r,e3⟩:=Qgu h3;exact⟨q,r,p,by rw[e1,e2,e3]⟩
noncomputable def Qvw:Expr->Option (List Expr)
 | .Tuple l _ _=>some l
 | _=>none
theorem Qvd(h:Qvw e=some l):∃k p,e= .Tuple l k p:=by
 unfold Qvw at h;split at h
 ·cases h;exact⟨_,_,rfl⟩
 ·cases h
noncomputable def four(l:List Expr):Option ((Str×Str)×(Str×Str)×(Str×Str)×(Str×Str)):=match l with
 | [a,b,c,d]=>(QbS a).bind λa=>(QbS b).bind λb=>(QbS c).bind λc=>(QbS d).map λd=>(a,b,c,d)
 | _=>none
theorem Qv7(h:four l=some (a,b,c,d)):∃ea eb ec ed,l=[ea,eb,ec,ed]/\QbS ea=some a/\QbS eb=some b/\QbS ec=some c/\QbS ed=some d:=by
 unfold four at h;split at h
 ·refine Qg h λa' h1 h=>?_;refine Qg h λb' h2 h=>?_;obtain⟨c',d',h3,h4,h5⟩:=Qbh h;cases h5;exact⟨_,_,_,_,rfl,h1,h2,h3,h4⟩
 ·cases h
noncomputable def QsL(st:Stmt):Option (Str×(Str×Str)×(Str×Str)×(Str×Str)×(Str×Str)):=(aName st).bind λz=>(Qvw z.2).bind λl=>(four l).map λq=>(z.1,q)
theorem Qu1{st:Stmt}{x:Str}{a b c d:Str×Str}(h:QsL st=some (x,a,b,c,d)):∃p ea eb ec ed k p1 p2,st= .Assign [.Name x p] (.Tuple [ea,eb,ec,ed] k p1) p2/\QbS ea=some a/\QbS eb=some b/\QbS ec=some c/\QbS ed=some d:=by
 unfold QsL at h;obtain⟨⟨x',e⟩,h1,h⟩:=bind1 h;obtain⟨l,q,h2,h3,h⟩:=Qbh h;cases h;obtain⟨p,p2,e1⟩:=QnT h1;obtain⟨k,p1,e2⟩:=Qvd h2;have e2:e= .Tuple l k p1:=e2;obtain⟨ea,eb,ec,ed,e3,n⟩:=Qv7 h3;exact⟨p,ea,eb,ec,ed,k,p1,p2,by rw[e1,e2,e3],n⟩
noncomputable def Qhl:Stmt->Option ((Str×Str)×Expr)
 | .Assign [t] e _=>(QbS t).map λs=>(s,e)
 | _=>none
theorem Qfz{st:Stmt}{s:Str×Str}{e:Expr}(h:Qhl st=some (s,e)):∃t p,st= .Assign [t] e p/\QbS t=some s:=by
 unfold Qhl at h;split at h
 ·obtain⟨s',h1,h2⟩:=Zh.mp h;cases h2;exact⟨_,_,rfl,h1⟩
 ·cases h
structure Col where
 ln:Str
 t:Str
 b:Str
 i:Str
 k:Str
 e1:Expr
 e2:Expr
 e3:Expr
 e4:Expr
 r:List Stmt
noncomputable def Qr9:List Stmt->Option Col
 | s0::s1::s2::s3::s4::r=>(QsL s0).bind λz=>(Qhl s1).bind λz1=>(Qhl s2).bind λz2=>(Qhl s3).bind λz3=>(Qhl s4).bind λz4=>
  if z.2.2.1=(z.2.1.1,z.2.2.1.2)/\z.2.2.2.1=(z.2.2.2.1.1,z.2.1.2)/\z.2.2.2.2=(z.2.2.2.1.1,z.2.2.1.2)/\z1.1=z.2.1/\z2.1=z.2.2.1/\z3.1=z.2.2.2.1/\z4.1=z.2.2.2.2 then some ⟨z.1,z.2.1.1,z.2.2.2.1.1,z.2.1.2,z.2.2.1.2,z1.2,z2.2,z3.2,z4.2,r⟩else none
 | _=>none
theorem Qu4{sts:List Stmt}{q:Col}(h:Qr9 sts=some q):∃p ea eb ec ed k p1 p2 t1 t2 t3 t4 p3 p4 p5 p6,sts= .Assign [.Name q.ln p] (.Tuple [ea,eb,ec,ed] k p1) p2:: .Assign [t1] q.e1 p3:: .Assign [t2] q.e2 p4:: .Assign [t3] q.e3 p5:: .Assign [t4] q.e4 p6::q.r∧
  QbS ea=some (q.t,q.i)/\QbS eb=some (q.t,q.k)/\QbS ec=some (q.b,q.i)/\QbS ed=some (q.b,q.k)/\QbS t1=some (q.t,q.i)/\QbS t2=some (q.t,q.k)/\QbS t3=some (q.b,q.i)/\QbS t4=some (q.b,q.k):=by
 refine(λh:∀G:Prop,(_->G)->G=>h _ id) λGG kk=>?_;unfold Qr9 at h;split at h
 ·rename_i s0 s1 s2 s3 s4 r;refine Qg h λz h0 h=>?_;refine Qg h λz1 h1 h=>?_;refine Qg h λz2 h2 h=>?_;refine Qg h λz3 h3 h=>?_;refine Qg h λz4 h4 h=>?_;split at h
  ·rename_i hc;obtain⟨g1,g2,g3,g4,g5,g6,g7⟩:=hc;obtain⟨p,ea,eb,ec,ed,k,p1,p2,e0,n1,n2,n3,n4⟩:=Qu1 h0;obtain⟨t1,p3,e1,m1⟩:=Qfz h1;obtain⟨t2,p4,e2,m2⟩:=Qfz h2;obtain⟨t3,p5,e3,m3⟩:=Qfz h3;obtain⟨t4,p6,e4,m4⟩:=Qfz h4;have h:=Option.some.inj h;subst h;exact kk ⟨p,ea,eb,ec,ed,k,p1,p2,t1,t2,t3,t4,p3,p4,p5,p6,by rw[e0,e1,e2,e3,e4],n1,n2.trans (congrArg some g1),n3.trans (congrArg some g2),n4.trans (congrArg some g3),m1.trans (congrArg some g4),m2.trans (congrArg some (g5.trans g1)),m3.trans (congrArg some (g6.trans g2)),m4.trans (congrArg some (g7.trans g3))⟩
  ·cases h
 ·cases h
section
variable {K:Fgg}{H0 H H':Hp}{A0:LAd}{hs:List (V×D×List Addr)}{U:En}{F:Nat->List Addr}{σ:L2.St}{x i j:Nat}{ds es:List D}{a:Addr}{vs:List V}{v vn:V}{dn:D}
end
mutual
noncomputable def Qj1(n:Nat)(Y:Th)(st:Stmt):Option DS:=match n with
 | 0=>none
 | n+1=>match st with
  | .Pass _=>some Qh
  | .Break _=>some QsX
  | .Continue _=>some QrW
  | .Raise _ _ _=>some Qx
  | .Return (some e) _=>(Qs n Y e).map QC
  | .Expr (.Constant (.str _) _ _) _=>some Qh
  | .Expr (.Call (.Attribute o m apos) args [] cpos) _=>if(apos.endLine == cpos.line)=true then Ql6 n Y o m args else none
  | .Expr (.Call (.Name x p) args [] cpos) _=>(Qs n Y (.Call (.Name x p) args [] cpos)).map Qa8
  | .Assign [.Name x _] e _=>(Y.QbU x).bind λi=>(Qs n Y e).map λfa=>Qo i (if QjZ e=true then Qal fa else fa)
  | .Assign [.Subscript a i _] e _=>(QeU n Y a).bind λq=>(Qs n Y i).bind λfi=>(Qs n Y e).map λfa=>QcQ q.1 q.2 fi fa
  | .AugAssign (.Subscript a i _) op e _=>(QeU n Y a).bind λq=>(Qs n Y i).bind λfi=>(QwT op).bind λg=>(Qs n Y e).map λfa=>Qeg g q.1 q.2 fi fa
  | .If c a b _=>(Qbg n Y c).bind λg=>(QaC n Y a).bind λf1=>(QaC n Y b).map λf2=>sIf g f1 f2
  | .For tg iter body [] _=>(QkX Y tg).bind λt=>(Qh4 n Y tg iter).bind λfi=>(QaC n Y body).map λfb=>QaW fi t fb
  | .While c body [] _=>(Qbg n Y c).bind λg=>(QaC n Y body).map λfb=>Qcs g fb
  | .Try a b c d p=>Y.tr (.Try a b c d p)
  | _=>none
noncomputable def QaC(n:Nat)(Y:Th)(sts:List Stmt):Option DS:=match n with
  | 0=>none
  | n+1=>match sts with
    | []=>some Qh
    | st::r=>
     match Qr9 (st::r)with
     | some q=>(Y.QbU q.ln).bind λln=>(Y.slot q.t).bind λt=>(Y.slot q.b).bind λb=>(Y.slot q.i).bind λi=>(Y.slot q.k).bind λk=>(Qs n Y q.e1).bind λg1=>(Qs n Y q.e2).bind λg2=>(Qs n Y q.e3).bind λg3=>(Qs n Y q.e4).bind λg4=>(QaC n Y q.r).map λg=>Qd (Qi9 t b ln (Ql i) (Ql k) g1 g2 g3 g4) g
     | none=>
      match Qr8 (st::r)with
      | some q=>if Y.gl "list" =true then(Y.QbU q.x).bind λx=>(Y.slot q.x).bind λx'=>if x'=x then(Qs n Y q.y).bind λfy=>(Qs n Y q.i1).bind λf1=>(Qs n Y q.e1).bind λg1=>(Qs n Y q.i2).bind λf2=>(Qs n Y q.e2).bind λg2=>(QaC n Y q.r).map λg=>Qd (QkN x fy f1 g1 f2 g2) g else none else none
      | none=>(Qj1 n Y st).bind λf=>(QaC n Y r).map λg=>Qd f g
end
theorem QjY(h:Qs n Y e=some f):Qzq e=false:=by
 cases n with
 | zero=>exact nn h
 | succ n=>cases e<;>first | rfl | (exact nn h)
theorem Qx9(h:Qs n Y (.ListComp elt gens scope pos)=some f):∃m tg iter ifs t fi ft fe,n=m+1/\gens=[⟨tg,iter,ifs,0⟩]/\QkX (inner Y scope) tg=some t/\QlV Y scope t=true∧
  Qh4 m Y tg iter=some fi/\Qhw m (inner Y scope) ifs=some ft/\Qs m (inner Y scope) elt=some fe/\f=QG fi t (QjI Y scope) ft fe:=by
 cases n with
 | zero=>exact nn h
 | succ n=>
  match gens,h with
  | [⟨tg,iter,ifs,k⟩],h=>
   by_cases hk:k=0
   ·subst hk
    (conv at h=>lhs;whnf)
    refine Qg h λt ht h=>?_;split at h
    ·rename_i hc;simp only[Zm]at hc;refine Qg h λfi h1 h=>?_;obtain⟨ft,fe,h2,h3,rfl⟩:=Qbh h;exact⟨n,tg,iter,ifs,t,fi,ft,fe,rfl,rfl,ht,hc.1,h1,h2,h3,rfl⟩
    ·cases h
   ·exfalso;cases k with
    | ofNat k=>
     cases k with
     | zero=>exact hk rfl
     | succ k=>exact nn h
    | negSucc k=>exact nn h
  | [],h=>exact nn h
  | ⟨_,_,_,.ofNat 0⟩::_::_,h=>exact nn h
  | ⟨_,_,_,.ofNat (k+1)⟩::_::_,h=>exact nn h
  | ⟨_,_,_,.negSucc k⟩::_::_,h=>exact nn h
theorem Qx3(ok:Q7 X Y)(hx:Y.QbU x=some i)(h:Qs n Y e=some fa):S1 X (.Assign [.Name x p] e pos) (Qo i fa):=by
 have hN:X.N.Nodup:=by rw[ok.N];exact ok.nd
 obtain⟨h1,h2,h3⟩:=QcI ok.toCtxB hx;by_cases hc:Qj4 e=true
 ·have he:=(QbC n).E X Y e fa ok h;exact QlC λH0 A0=>Qga hN h1 h2 (he H0 A0) (QdS hc) h3
 ·cases e with
  | ListComp elt gens scope cpos=>
   obtain⟨m,tg,iter,ifs,t,fi,ft,fe,rfl,rfl,ht,hco,g1,g2,g3,rfl⟩:=Qx9 h;obtain⟨S,cap,inn⟩:=Qpk ok hco;obtain⟨i1,i2⟩:=(QbC m).I X Y tg iter fi ok g1;exact Qx2 hN h1 h2 h3 ok.calm S i1 cap (λcl C fp s3 H3=>⟨Qoz (inn cl C fp s3 H3) ht,(QbC m).Ts _ _ ifs ft (inn cl C fp s3 H3) g2,(QbC m).E _ _ elt fe (inn cl C fp s3 H3) g3⟩) i2
  | SetComp _ _ _ _=>cases n<;>exact nn h
  | DictComp _ _ _ _ _=>cases n<;>exact nn h
  | _=>exact absurd rfl hc
theorem QwB(ok:Q7 X Y)(hx:Y.QbU x=some i)(h:Qs n Y e=some fa)(ha:QjZ e=true):S1 X (.Assign [.Name x p] e pos) (Qo i (Qal fa)):=by
 have hN:X.N.Nodup:=by rw[ok.N];exact ok.nd
 obtain⟨h1,h2,h3⟩:=QcI ok.toCtxB hx;have hc:Qj4 e=true:=by cases e<;>first | rfl | cases ha
 have he:=Qu5 ((QbC n).E X Y e fa ok h);exact QlC λH0 A0=>Qga hN h1 h2 (he H0 A0) (QdS hc) h3
theorem Qc5:swapsWithSole [.Subscript a i p] e l env=pure false:=by
 cases e<;>rfl
structure QAK (n:Nat):Prop where
 S:∀X Y st f,Q7 X Y->Qj1 n Y st=some f->S1 X st f
 Ss:∀X Y sts f,Q7 X Y->QaC n Y sts=some f->SS X sts f
theorem QzO(ih:QAK n):∀X Y st f,Q7 X Y->Qj1 (n+1) Y st=some f->S1 X st f:=by
 intro X Y st f ok h;have hN:X.N.Nodup:=by rw[ok.N];exact ok.nd
 have E:=QbC n;cases st with
 | Pass pos=>change some Qh=some f at h;cases h;exact QyB
 | Break pos=>change some QsX=some f at h;cases h;exact Qw1
 | Continue pos=>change some QrW=some f at h;cases h;exact Qyc
 | Raise a b pos=>change some Qx=some f at h;cases h;exact QwO
 | Return e pos=>
  cases e with
  | none=>exact nn h
  | some e=>
   change(Qs n Y e).map QC=some f at h;obtain⟨fa,h1,rfl⟩:=Zh.mp h;exact QBD (E.E X Y e fa ok h1)
 | Expr e pos=>
  cases e with
  | Constant c k p=>
   cases c with
   | str x=>
    change some Qh=some f at h;cases h;exact λH0 A0=>QAO.mono λE σ H ⟨U,hs,F,o,rel,e,q⟩=>by cases e;exact q σ H F rel
   | _=>exact nn h
  | Call fn args kws cpos=>
   cases fn with
   | Attribute o m apos=>
    cases kws with
    | nil=>
     change(if(apos.endLine == cpos.line)=true then Ql6 n Y o m args else none)=some f at h;split at h
     ·rename_i hl;exact Qvi ok h hl
     ·cases h
    | cons _ _=>exact nn h
   | Name x p=>
    cases kws with
    | nil=>
     change(Qs n Y (.Call (.Name x p) args [] cpos)).map Qa8=some f at h;obtain⟨fa,h1,rfl⟩:=Zh.mp h;exact λH0 A0=>Qzr (Qm2 (E.E X Y _ fa ok h1 H0 A0) rfl)
    | cons _ _=>exact nn h
   | _=>exact nn h
  | _=>exact nn h
 | Assign ts e pos=>
  match ts,h with
  | [t],h=>
   cases t with
   | Name x p=>
    change((Y.QbU x).bind λi=>(Qs n Y e).map λfa=>Qo i (if QjZ e=true then Qal fa else fa))=some f at h;obtain⟨i,fa,h1,h2,rfl⟩:=Qbh h;split
    ·rename_i ha;exact QwB ok h1 h2 ha
    ·exact Qx3 ok h1 h2
   | Subscript a i p=>
    change((QeU n Y a).bind λq=>(Qs n Y i).bind λfi=>(Qs n Y e).map λfa=>QcQ q.1 q.2 fi fa)=some f at h;refine Qg h λq h1 h=>?_;obtain⟨fi,fa,h2,h3,rfl⟩:=Qbh h;obtain⟨sp,_⟩:=QhM n X Y a q ok h1;have ns:=QjY h2;refine QAG (E.E X Y e fa ok h3) sp (E.E X Y i fi ok h2) λte to ti he ho hi=>Qgi he (Qgl ho hi set_list ?_) Qc5 ?_ rfl
    ·intro v;cases i<;>first | rfl | (cases ns)
    ·cases e<;>rfl
   | _=>exact nn h
  | [],h=>exact nn h
  | t::_::_,h=>cases t<;>exact nn h
 | AugAssign t op e pos=>
  cases t with
  | Subscript a i p=>
   change((QeU n Y a).bind λq=>(Qs n Y i).bind λfi=>(QwT op).bind λg=>(Qs n Y e).map λfa=>Qeg g q.1 q.2 fi fa)=some f at h;refine Qg h λq h1 h=>?_;refine Qg h λfi h2 h=>?_;obtain⟨g,fa,h3,h4,rfl⟩:=Qbh h;obtain⟨r,o1,o2⟩:=QBe (X:=X) h3;obtain⟨sp,_⟩:=QhM n X Y a q ok h1;have ns:=QjY h2;exact Qys o1 o2 (E.E X Y e fa ok h4) sp (E.E X Y i fi ok h2) λov iv new=>by cases i<;>first | rfl | (cases ns)
  | _=>exact nn h
 | If c a b pos=>
  change((Qbg n Y c).bind λg=>(QaC n Y a).bind λf1=>(QaC n Y b).map λf2=>sIf g f1 f2)=some f at h;refine Qg h λg h1 h=>?_;obtain⟨f1,f2,h2,h3,rfl⟩:=Qbh h;exact QBZ (E.T X Y c g ok h1) (ih.Ss X Y a f1 ok h2) (ih.Ss X Y b f2 ok h3)
 | For tg iter body els pos=>
  cases els with
  | nil=>
   change((QkX Y tg).bind λt=>(Qh4 n Y tg iter).bind λfi=>(QaC n Y body).map λfb=>QaW fi t fb)=some f at h;refine Qg h λt h1 h=>?_;obtain⟨fi,fb,h2,h3,rfl⟩:=Qbh h;obtain⟨i1,i2⟩:=E.I X Y tg iter fi ok h2;exact QBF ok.pass ok.calm i1 (Qoz ok h1) (ih.Ss X Y body fb ok h3) i2
  | cons _ _=>exact nn h
 | While c body els pos=>
  cases els with
  | nil=>
   change((Qbg n Y c).bind λg=>(QaC n Y body).map λfb=>Qcs g fb)=some f at h;obtain⟨g,fb,h1,h2,rfl⟩:=Qbh h;exact QtV ok.pass (E.T X Y c g ok h1) (ih.Ss X Y body fb ok h2)
  | cons _ _=>exact nn h
 | Try a b c d pos=>exact ok.tr _ _ h
 | _=>exact nn h
theorem Qkd:∀n,QAK n
 | 0=>⟨λ_ _ _ _ _ h=>(nn h),λ_ _ _ _ _ h=>(nn h)⟩
 | n+1=>by
  have ih:=Qkd n;refine⟨QzO ih,λX Y sts f ok h=>?_⟩
  match sts,h with
  | [],h=>change some Qh=some f at h;cases h;exact Quy
  | st::r,h=>
   change(match Qr9 (st::r)with
    | some q=>(Y.QbU q.ln).bind λln=>(Y.slot q.t).bind λt=>(Y.slot q.b).bind λb=>(Y.slot q.i).bind λi=>(Y.slot q.k).bind λk=>(Qs n Y q.e1).bind λg1=>(Qs n Y q.e2).bind λg2=>(Qs n Y q.e3).bind λg3=>(Qs n Y q.e4).bind λg4=>(QaC n Y q.r).map λg=>Qd (Qi9 t b ln (Ql i) (Ql k) g1 g2 g3 g4) g
    | none=>_)=some f at h
   split at h
   ·rename_i q hq;refine Qg h λln hln h=>?_;refine Qg h λt ht h=>?_;refine Qg h λb hb h=>?_;refine Qg h λi hi h=>?_;refine Qg h λk hk h=>?_;refine Qg h λg1 h1 h=>?_;refine Qg h λg2 h2 h=>?_;refine Qg h λg3 h3 h=>?_;obtain⟨g4,g,h4,h5,rfl⟩:=Qbh h;obtain⟨p,ea,eb,ec,ed,kk,p1,p2,t1,t2,t3,t4,p3,p4,p5,p6,hs,n1,n2,n3,n4,m1,m2,m3,m4⟩:=Qu4 hq;rw[hs];obtain⟨_,_,_,rfl⟩:=Qc0 n1;obtain⟨_,_,_,rfl⟩:=Qc0 n2;obtain⟨_,_,_,rfl⟩:=Qc0 n3;obtain⟨_,_,_,rfl⟩:=Qc0 n4;obtain⟨_,_,_,rfl⟩:=Qc0 m1;obtain⟨_,_,_,rfl⟩:=Qc0 m2;obtain⟨_,_,_,rfl⟩:=Qc0 m3;obtain⟨_,_,_,rfl⟩:=Qc0 m4;have E:=QbC n;have hN:X.N.Nodup:=by rw[ok.N];exact ok.nd
    obtain⟨l1,l2,l3⟩:=QcI ok.toCtxB hln;have B:=ok.toCtxB;refine QzN (λH0 A0=>Qga hN l1 l2 (QtU (Qap (QhC (QfS (Qaw B ht)) (Qdz (Qaw B hi)) (λ_ _=>rfl) H0 A0) (Qap (QhC (QfS (Qaw B ht)) (Qdz (Qaw B hk)) (λ_ _=>rfl) H0 A0) (Qap (QhC (QfS (Qaw B hb)) (Qdz (Qaw B hi)) (λ_ _=>rfl) H0 A0) (Qap (QhC (QfS (Qaw B hb)) (Qdz (Qaw B hk)) (λ_ _=>rfl) H0 A0) Qc1))))) (QdS rfl) l3) (λH0 A0=>Qgi (E.E X Y q.e1 g1 ok h1 H0 A0) (Qgl (Qaw B ht) (Qdz (Qaw B hi) H0 A0) set_list λv=>rfl) Qc5 ?_ rfl) (λH0 A0=>Qgi (E.E X Y q.e2 g2 ok h2 H0 A0) (Qgl (Qaw B ht) (Qdz (Qaw B hk) H0 A0) set_list λv=>rfl) Qc5 ?_ rfl) (λH0 A0=>Qgi (E.E X Y q.e3 g3 ok h3 H0 A0) (Qgl (Qaw B hb) (Qdz (Qaw B hi) H0 A0) set_list λv=>rfl) Qc5 ?_ rfl) (λH0 A0=>Qgi (E.E X Y q.e4 g4 ok h4 H0 A0) (Qgl (Qaw B hb) (Qdz (Qaw B hk) H0 A0) set_list λv=>rfl) Qc5 ?_ rfl) (ih.Ss X Y q.r g ok h5)
    ·cases q.e1<;>rfl
    ·cases q.e2<;>rfl
    ·cases q.e3<;>rfl
    ·cases q.e4<;>rfl
   change(match Qr8 (st::r)with
    | some q=>if Y.gl "list" =true then(Y.QbU q.x).bind λx=>(Y.slot q.x).bind λx'=>if x'=x then(Qs n Y q.y).bind λfy=>(Qs n Y q.i1).bind λf1=>(Qs n Y q.e1).bind λg1=>(Qs n Y q.i2).bind λf2=>(Qs n Y q.e2).bind λg2=>(QaC n Y q.r).map λg=>Qd (QkN x fy f1 g1 f2 g2) g else none else none
    | none=>(Qj1 n Y st).bind λf=>(QaC n Y r).map λg=>Qd f g)=some f at h
   split at h
   ·rename_i q hq;split at h
    case isFalse=>cases h
    rename_i hg;refine Qg h λx hx h=>?_;refine Qg h λx' hx' h=>?_;split at h
    case isFalse=>cases h
    rename_i hxx;subst hxx;refine Qg h λfy h1 h=>?_;refine Qg h λf1 h2 h=>?_;refine Qg h λg1 h3 h=>?_;refine Qg h λf2 h4 h=>?_;obtain⟨g2,g,h5,h6,rfl⟩:=Qbh h;obtain⟨p1,p2,p3,p4,a1,a2,a3,b1,b2,b3,hs⟩:=Qvh hq;rw[hs];have E:=QbC n;have hN:X.N.Nodup:=by rw[ok.N];exact ok.nd
    obtain⟨g1',g2',g3'⟩:=Qer ok.toCtxB hg;obtain⟨l1,l2,l3⟩:=QcI ok.toCtxB hx;have n1:=QjY h2;have n2:=QjY h4;refine QAq (λH0 A0=>Qga hN l1 l2 (Qjk QiY g1' (ok.mg _ (by decide+kernel)) Zbp (QhE (E.E X Y q.y fy ok h1) QlS (QaR h1 _ _) H0 A0) (by decide) (by decide) (QaR h1 _ _) rfl) (QdS rfl) l3) (λH0 A0=>Qgi (E.E X Y q.e1 g1 ok h3 H0 A0) (Qgl (Qaw ok.toCtxB hx') (E.E X Y q.i1 f1 ok h2 H0 A0) set_list ?_) Qc5 ?_ rfl) (λH0 A0=>Qgi (E.E X Y q.e2 g2 ok h5 H0 A0) (Qgl (Qaw ok.toCtxB hx') (E.E X Y q.i2 f2 ok h4 H0 A0) set_list ?_) Qc5 ?_ rfl) (ih.Ss X Y q.r g ok h6)
    ·intro v;cases hi:q.i1<;>first | rfl | (rw[hi]at n1;cases n1)
    ·cases q.e1<;>rfl
    ·intro v;cases hi:q.i2<;>first | rfl | (rw[hi]at n2;cases n2)
    ·cases q.e2<;>rfl
   ·obtain⟨fs,fr,h1,h2,rfl⟩:=Qbh h;exact Qrv (ih.S X Y st fs ok h1) (ih.Ss X Y r fr ok h2)
noncomputable def QaU(k:Nat)(ds:List D):En:=ds.map (λd=>some (d,d.flat))++List.replicate (k-ds.length) none
noncomputable def outD:Out->Option (D×Bool)
 | .rt d fr=>some (d,fr)
 | .nx _=>some (.non,true)
 | _=>none
noncomputable def Qu(k:Nat)(f:DS):Den:=λds=>(f (QaU k ds)).bind outD
theorem Rps.parts{K:Fgg}{H:Hp}:∀{ds:List D}{vs:List V}{F:LAd},Rps K H ds vs F→
  ∃Fs:List (List Addr),(∀L∈Fs,∀a∈L,a∈F)/\∀(i:Nat) (d:D),ds[i]? =some d->∃v,vs[i]? =some v/\Rp K H d v (Fs.getD i [])
 | [],_,_,h=>⟨[],λL hL=>by simp at hL,λi d e=>by simp at e⟩
 | d::ds,_,_,h=>by
  simp only[Rps]at h;obtain⟨v,ws,F1,F2,rfl,rfl,r,q⟩:=h;obtain⟨Fs,h1,h2⟩:=Rps.parts q;refine⟨F1::Fs,λL hL a ha=>?_,λi d' e=>?_⟩
  ·rcases Zi.mp hL with rfl | hL
   ·exact Zf _ ha
   ·exact Ze _ (h1 L hL a ha)
  ·cases i with
   | zero=>simp at e;subst e;exact⟨v,by simp,by simpa using r⟩
   | succ i=>obtain⟨w,hw,hr⟩:=h2 i d' (by simpa using e);exact⟨w,by simpa using hw,by simpa using hr⟩
theorem QkA{k:Nat}{ds:List D}{i:Nat}{d:D}{b:Bool}(h:(QaU k ds)[i]? =some (some (d,b))):ds[i]? =some d/\b=d.flat:=by
 unfold QaU at h;by_cases hi:i<ds.length
 ·rw[Zbe (by simpa using hi),Zs]at h;cases e:ds[i]? with
  | none=>rw[e]at h;cases h
  | some a=>rw[e]at h;cases h;exact⟨rfl,rfl⟩
 ·rw[ZbK (by simpa using hi),ZbQ]at h;split at h<;>cases h
theorem QiH{K:Fgg}{H:Hp}{ds:List D}{vs:List V}{F:LAd}{N:List Str}(r:Rps K H ds vs F):∃F0,Rel K H F [] (QaU N.length ds) F0 (start N vs) H:=by
 obtain⟨Fs,h1,h2⟩:=r.parts;have hl:=r.length;have src:∀i a,a∈Fs.getD i []->a∈F:=λi a ha=>by
  by_cases hi:i<Fs.length
  ·have:Fs.getD i []∈Fs:=by rw[ZaA,ZaU hi];exact List.getElem_mem hi
   exact h1 _ this a ha
  ·rw[ZaA,Zu ⋯]at ha;simp at ha
 refine⟨λi=>Fs.getD i [],?_,λi d b e=>?_,λi d e=>?_,λi d b e a ha=> .inr (src i a ha),λt ht=>absurd ht (by simp),QS.refl _⟩
 ·unfold QaU L2.start;simp[hl]
 ·obtain⟨e1,_⟩:=QkA e;obtain⟨v,hv,hr⟩:=h2 i d e1;refine⟨v,?_,hr⟩;have hi:i<vs.length:=(Zk.mp hv).1;unfold L2.start;rw[Zbe (by simpa using hi),Zs,hv];rfl
 ·obtain⟨e1,e2⟩:=QkA e;obtain⟨v,hv,hr⟩:=h2 i d e1;have z:Fs.getD i []=[]:=hr.QcC e2.symm;simp only[z];exact⟨(QeK d e2.symm).symm,Zbb,λa ha=>by simp at ha,λ_ _ _ _ _ a ha=>by simp at ha,λ_ _ a ha=>by simp at ha⟩
section
variable (P:Program) (w:World) (K:Fgg) (mg:Str->Option Value) (base:Heap)
def Known(k:Nat)(x:Str)(r:FnR):Prop:=∃f fd ps,QcF P w K mg base CX0 k f fd ps (spV K r.n r.den)/\mg x=some (.ref f)/\PySem.W.keepIn K (.ref f)=true∧
 ∀m,m<=r.dfl.length->∃ds dvs,Binds K fd ps ds/\QM dvs ds/\∀H,Rps K H (r.dfl.drop (r.dfl.length-m)) dvs []
def Qcg(k:Nat)(Γ:List (Str×FnR)):Prop:=∀x r,look x Γ=some r->Known P w K mg base k x r
structure QeW (cs:List (Str×Int)):Prop where
 bn:∀x∈Qqn,mg x=none
 cs:∀x i,look x cs=some i->∃t,mg x=some (.int i t)
end
section
variable {P:Program}{w:World}{K:Fgg}{mg:Str->Option Value}{base:Heap}
theorem Qcg.nil{k:Nat}:Qcg P w K mg base k []:=λx r h=>by cases h
theorem Known.mono{j k:Nat}{x:Str}{r:FnR}(h:Known P w K mg base j x r)(hk:j<=k):Known P w K mg base k x r:=by
 obtain⟨f,fd,ps,h1,h2⟩:=h;exact⟨f,fd,ps,h1.mono hk,h2⟩
theorem Qcg.cons{k:Nat}{Γ:List (Str×FnR)}{x:Str}{r:FnR}(t:Qcg P w K mg base k Γ)(h:Known P w K mg base (k+1) x r):Qcg P w K mg base (k+1) ((x,r)::Γ):=λy q e=>by
 unfold look at e;split at e
 ·rename_i z;cases e;subst z;exact h
 ·exact(t y q e).mono (ZbA _)
noncomputable def namesOf(sc:Scope):List Str:=(sc.names.filter λy=>Qxj y.2).map (·.1)
noncomputable def Qf7(st:Stmt)(Γ:List (Str×FnR))(cs:List (Str×Int)):Th:=⟨namesOf (Qr st),(Qr st).names,Γ,cs,λ_=>none⟩
theorem Qrr{CX:CXT}{xe:Value->Shared->Prop}{st:Stmt}{ps:List Str}{qual:Str}{f:Addr}{cdv:Value}{A:Around}{outer:List Env}{s:Shared}{H:Hp}{E:XK}{k:Nat}{Γ:List (Str×FnR)}{cs:List (Str×Int)}(S:Qcn (namesOf (Qr st)) ps (Qr st))(M:QeW mg cs)(tab:Qcg P w K mg base k Γ)
  (hr:Qbx k (A.deeper (envOfC qual (Qr st) s.heap.objs.size f cdv))) (hp:PassesOwn (model P w) (A.deeper (envOfC qual (Qr st) s.heap.objs.size f cdv)) (envOfC qual (Qr st) s.heap.objs.size f cdv) xe):
  Q7 ((Qfh CX P w K mg base (namesOf (Qr st)) qual (Qr st) f cdv A outer s H E).QfX xe) (Qf7 st Γ cs) where
 N:=rfl
 nd:=S.nd
 lc:=λx h=>by rw[Qb1]at h;exact h
 ce:=λx h=>by rw[Qb1]at h;exact⟨h,rfl⟩
 fe:=λx h=>by rw[Qb1]at h;exact absurd rfl (S.nofree _ (Zal h))
 gl:=λx h=>by rw[Qb1]at h;exact h
 calm:=decide_eq_true hr.hd
 pass:=hp
 tr:=λ_ _ h=>by cases h
 units:=hr.units
 mg:=M.bn
 fns:=λx r h=>by
  obtain⟨f',fd,ps',h1,h2,h3,h4⟩:=tab x r h;exact⟨k,f',fd,ps',h1,hr,h2,h3,h4⟩
 cs:=M.cs
theorem QuH{st:Stmt}{ps:List Str}{qual:Str}{f:Addr}{cdv:Value}{A:Around}{outer:List Env}{s:Shared}{H:Hp}{E:XK}{k:Nat}{Γ:List (Str×FnR)}{cs:List (Str×Int)}(S:Qcn (namesOf (Qr st)) ps (Qr st))(M:QeW mg cs)(tab:Qcg P w K mg base k Γ)
  (hr:Qbx k (A.deeper (envOfC qual (Qr st) s.heap.objs.size f cdv))):Q7 (Qfh CX0 P w K mg base (namesOf (Qr st)) qual (Qr st) f cdv A outer s H E).nox (Qf7 st Γ cs):=Qrr S M tab hr PassesOwn.never
theorem Qut{x qual:Str}{st:Stmt}{f:Addr}{fd:FuncData}{ps:List Str}{k n:Nat}{Γ:List (Str×FnR)}{cs:List (Str×Int)}{g:DS}(F:Fun K x qual st f fd)(S:Qcn (namesOf (Qr st)) ps (Qr st))(M:QeW mg cs)(tab:Qcg P w K mg base k Γ)
  (hc:QaC n (Qf7 st Γ cs) (Qbm st)=some g):QcF P w K mg base CX0 (k+1) f fd ps (spV K ps.length (Qu (namesOf (Qr st)).length g)):=by
 refine F.ok S (QqR rfl) λcdv A outer s H vs Q E hr h=>?_;obtain⟨ds,L,d,fr,rps,hl,hd,q⟩:=h;refine⟨_,(Qkd n).Ss _ _ _ g (QuH S M tab hr) hc H L,?_⟩;obtain⟨F0,rel⟩:=QiH (N:=namesOf (Qr st)) rps;unfold Qu at hd;refine Qg hd λo ho hd=>?_;refine⟨_,[],F0,o,rel,ho,?_⟩;cases o with
 | nx U=>
  cases hd;exact λσ H' F' rel'=>q .non H' [] ⟨rel'.same,.Qp1,λa ha=>by simp at ha,λ_=>⟨Zbb,rfl,λa ha=>by simp at ha⟩⟩
 | bk U=>cases hd
 | ct U=>cases hd
 | rt d' fr'=>
  cases hd;exact λv H' G r=>q v H' G r
structure Fact (K:Fgg) (x:Str) (st:Stmt):Prop where
 ex:∃f fd,Fun K x x st f fd/\PySem.W.nsIn K mainGlobals x=some (some (.ref f))
theorem fact_mk{x:Str}{st:Stmt}{f:Addr}{oc:Value}{od an:Option Addr}{osl:Array (Option Value)}{kV doc pm cdv ct:Value}(a:PySem.W.nsIn K mainGlobals x=some (some (.ref f)))(l:K.lookup f=some ⟨oc,od,.func (PySem.W.fnOf x x (QfL st) (Qbm st) (Qr st) .none kV doc pm an cdv ct),osl⟩)
  (c:PySem.W.codeIn K cdv x=true) (k:PySem.W.keepIn K (.ref f)=true):Fact K x st:=⟨f,_,QAA l c k,a⟩
theorem l0{α:Type}{P:List α->Prop}(h:P []):∀l:List α,l.length=0->P l:=λl e=>(List.length_eq_zero_iff.mp e).symm▸h
theorem lc{α:Type}{n:Nat}{P:List α->Prop}(h:∀a,∀l:List α,l.length=n->P (a::l)):∀l:List α,l.length=n+1->P l
 | a::l,e=>h a l (Nat.succ.inj e)
def QaG(x:Str)(st:Stmt)(ps:List Str):Prop:=∀(kV doc pm:Value) (an:Option Addr) (cdv ct:Value) (us:List Value),us.length=ps.length->bindArgs (PySem.W.fnOf x x (QfL st) (Qbm st) (Qr st) .none kV doc pm an cdv ct) ⟨us,[]⟩=pure (ps.zip us)
theorem Qcd{h:Heap}{x:Str}{st:Stmt}{ps:List Str}{k n:Nat}{Γ:List (Str×FnR)}{cs:List (Str×Int)}{g:DS}(X:K.In h)(G:h.Ns mainGlobals mg)(F:Fact K x st)(S:Qcn (namesOf (Qr st)) ps (Qr st))(B:QaG x st ps)(M:QeW mg cs)(tab:Qcg P w K mg base k Γ)
  (hc:QaC n (Qf7 st Γ cs) (Qbm st)=some g):Known P w K mg base (k+1) x ⟨ps.length,[],Qu (namesOf (Qr st)).length g⟩:=by
 obtain⟨f,fd,Fn,a⟩:=F.ex;refine⟨f,fd,ps,Qut Fn S M tab hc,Zbh X G a,Fn.kp,λm hm=>⟨[],[],Fn.binds (B ·),.nil,λH=>by simp[Rps]⟩⟩
end
end HS
namespace HS
open PySem PySem.Spec L2 PyProof.Rows
theorem QlH:∀(ns:List Int) (n:Int),n∈ns->Builtin.Int.intBits n<=PySem.W.WData.weightAll (ns.map PySem.W.WData.int)
 | a::r,n,h=>by
  have e:PySem.W.WData.weight (.int a)=Builtin.Int.intBits a:=by simp only[PySem.W.WData.weight,Builtin.Int.intBits]
  simp only[ZH,PySem.W.WData.weightAll,e];rcases Zi.mp h with rfl | h
  ·omega
  ·have:=QlH r n h;omega
theorem Qtw{ns:List Int}(h:PySem.W.WData.layableAll [.list (ns.map .int)]=true)(k:Nat):Builtin.Int.intBits (ns.getD k 0)<=2^20:=by
 have h1:=(PySem.W.layW_cons h).1;simp only[PySem.W.WData.layable,Zm,decide_eq_true_eq,PySem.W.WData.weight]at h1;rw[ZaA];cases e:ns[k]? with
 | none=>show Builtin.Int.intBits 0<=2^20;decide
 | some n=>exact Zo (QlH ns n (Zax e)) (of_decide_eq_true h1.2)
open PySem.W Att PySem.Calls in
theorem Qpo{l:OpenLaw}{n:Nat}{q:Program}{loose:List Str}{XP:(Str->Option Value)->Heap->Prop}{YP:World->Heap->Prop}{d:DefRec}
  (hn:l.most=some n) (hdf:d.params.defaults=[])
  (call:∀(w:World) (s₀ s₁:Shared) (mg mb:Str->Option Value) (fa:Addr) (o:Obj) (pm cd doc:Value) (a:Addr) (vs:List Value) (ns:List Int),
   Ground q loose [] XP w s₀ mg mb s₁.heap->YP w s₁.heap→
   s₁.heap.get? fa=some o->o.data= .func (docDef d.name d.params d.body d.scope pm cd doc)->s₁.heap.CodeRec cd d.name->mg d.name=some (.ref fa)→
   s₁.heap.get? a=some {cls:= .type "list",data:= .seq vs.toArray}->IntsAre vs ns->ns.length<=n->WData.layableAll [.list (ns.map .int)]=true->s₁.gens= #[]→
   codeAny (model l.prog w) callerA (.call (.ref fa) ⟨[.ref a],[]⟩) (λr s'=>r= .ok (.ret (.bool true))/\OldK s₁.heap s'.heap/\s'.os=s₁.os/\AllBare s'.gens) s₁):
  WalkO q loose XP YP l.row.toRowW d [] (λf vs=>PySem.call f vs):=by
 intro w s₀ s₁ mg mb G Y fa o pm cd doc dV kV ho hd hcd hD hmg hg args vals as hpre hlay hrd hwl hlo;obtain rfl:dV= .none:=Dflts.none hD hdf;obtain rfl:kV= .none:=Dflts.noKw hD;obtain⟨a,vs,ns,rfl,rfl,hobj,hints,hlen⟩:=Quj hn hpre hwl;refine enter_call (codeAny_mono (call w s₀ s₁ mg mb fa o pm cd doc a vs ns G Y ho (fd_plain hd) hcd hmg hobj hints hlen hlay hg) λr s' hq=>?_);obtain⟨rfl,h2,h3,h4⟩:=hq;exact⟨.inl ⟨.bool true,.bool true,[],rfl,λ_=>rfl,.bool true,QtD l _,λ_=>⟨List.Pairwise.nil,λ_ hm=>(nomatch hm)⟩⟩,h2,h3,h4⟩
theorem Qts{l:PySem.W.OpenLaw}{k:Nat}{q:Program}{loose:List Str}{XP:(Str->Option Value)->Heap->Prop}{YP:World->Heap->Prop}{d:DefRec}{K:Params->PySem.W.Frag}{den:Den}{x:Str}
  (hn:l.most=some 63) (hdf:d.params.defaults=[]) (hr:Qbx k callerA) (hY:∀(w:World) (h:Heap),YP w h->(K w.params).In h)
  (hden:∀ns:List Int,ns.length<=63->(∀k:Nat,Builtin.Int.intBits (ns.getD k 0)<=2^20)->∃fr,den [.lst (ns.map .int)]=some (.bl true,fr))
  (F:∀(w:World) (mg:Str->Option Value) (fa:Addr) (h:Heap),(K w.params).In h->h.Ns mainGlobals mg->mg d.name=some (.ref fa)→
   ∃fd:FuncData,(∀(s:Shared) (u:Value),BindsTo s fd ⟨[u],[]⟩ [(x,u)])∧
    ∀base:Heap,(K w.params).In base->base.Ns mainGlobals mg->QcF l.prog w (K w.params) mg base CX0 k fa fd [x] (spV (K w.params) 1 den)):
  PySem.W.WalkO q loose XP YP l.row.toRowW d [] (λf vs=>PySem.call f vs):=by
 refine Qpo hn hdf λw s₀ s₁ mg mb fa o pm cd doc a vs ns G Y ho hd hcd hmg hobj hints hlen hlay hg=>?_;have KX:=hY w _ Y;obtain⟨fd,hb,hF⟩:=F w mg fa _ KX G.T.g hmg;have h63:(63:Nat)<=sizeLine:=by decide
 refine QvK KX G.T.g G.T.b G.T.builtins G.T.nolimit hg hobj hints (Zo hlen h63) hr hF hb (λH hO hS=>?_) λH e s' z=>z;have fx:Fix (K w.params) H a (ns.map V.int):=by
  rcases hS with(h | ⟨o,h⟩) | ⟨o,its,n,hk,hc,hdn,hda,hz,rv⟩
  ·rcases hO a with z | ⟨o,xs,z⟩<;>rw[h]at z<;>cases z
  ·exact .inl ⟨o,h⟩
  ·have e:=KX a o hk;rw[hobj]at e;cases e;cases hda;exact .inr ⟨vs,_,hk,by rw[Zq];exact Zo hlen h63,by simpa using rv⟩
 obtain⟨fr,hfr⟩:=hden ns hlen (Qtw hlay);have rp:Rp (K w.params) H (.lst (ns.map .int)) (.ref a) []:=by
  simp only[Rp];refine⟨by rw[Zq];exact Zo hlen h63,a,_,rfl,.inr ⟨fx,?_⟩⟩;have gen:∀ns:List Int,Rps (K w.params) H (ns.map .int) (ns.map .int) []:=by
   intro ns
   induction ns with
   | nil=>simp[Rps]
   | cons n ns ih=>simp only[ZH,Rps];exact⟨_,_,[],[],rfl,rfl,.int_mk,ih⟩
  exact gen ns
 refine⟨[.lst (ns.map .int)],[],.bl true,fr,?_,rfl,hfr,λv H' G r=>r.rp.Qjp⟩;simp only[Rps];exact⟨_,_,[],[],rfl,rfl,rp,rfl,rfl⟩
theorem QCI{P:Program}{w:World}{K:Fgg}{mg:Str->Option Value}{h:Heap}{x y:Str}{st:Stmt}{fa:Addr}{k n:Nat}{Γ:List (Str×FnR)}{cs:List (Str×Int)}{g:DS}(X:K.In h)(G:h.Ns mainGlobals mg)(hmg:mg x=some (.ref fa))
  (F:Fact K x st) (S:Qcn (namesOf (Qr st)) [y] (Qr st)) (B:QaG x st [y]) (M:QeW mg cs) (tab:∀base:Heap,Qcg P w K mg base k Γ) (hc:QaC n (Qf7 st Γ cs) (Qbm st)=some g):
  ∃fd:FuncData,(∀(s:Shared) (u:Value),BindsTo s fd ⟨[u],[]⟩ [(y,u)])∧
    ∀base:Heap,K.In base->base.Ns mainGlobals mg->QcF P w K mg base CX0 (k+1) fa fd [y] (spV K 1 (Qu (namesOf (Qr st)).length g)):=by
 obtain⟨f,fd,Fn,a⟩:=F.ex;have e:=hmg.symm.trans (Zbh X G a);cases e;refine⟨fd,λs u=>?_,λbase _ _=>Qut Fn S M (tab base) hc⟩;obtain⟨oc,od,kV,doc,pm,an,cdv,ct,osl,rfl,lk,hcd⟩:=Fn.ex;exact .of_eq (B kV doc pm an cdv ct [u] rfl)
end HS
namespace HS
open PySem PySem.Spec PyProof.Rows L2
section
variable {P:Program}{w:World}{K:Fgg}{mg:Str->Option Value}{base:Heap}
end
end HS
namespace HS
open PySem PySem.Spec L2 PyProof.Rows
theorem Qxa(x:Qb6 P w H h a o):∃u,h.get? a=some u:=by
 cases o with
 | lst xs=>obtain⟨_,_,_,_,e⟩:=x;exact⟨_,e⟩
 | tup xs=>obtain⟨_,_,_,ob,e,_⟩:=x;exact⟨_,e⟩
 | dK kvs=>obtain⟨_,_,_,_,o,_,_,e,_⟩:=x;exact⟨_,e⟩
 | dT kvs=>obtain⟨_,_,_,_,o,_,_,e,_⟩:=x;exact⟨_,e⟩
 | set S n=>obtain⟨o,_,_,_,e,_⟩:=x;exact⟨_,e⟩
 | ins C dx fs=>obtain⟨_,_,_,e,_⟩:=x;exact⟨_,e⟩
 | own y=>exact x
 | xd fs=>obtain⟨_,⟨_,_,_,e,_⟩,_⟩:=x;exact⟨_,e⟩
 | rng lo hi=>obtain⟨_,_,_,e⟩:=x;exact⟨_,e⟩
 | frz ob u=>obtain⟨e,_⟩:=x;exact⟨_,e⟩
 | tbl ps=>exact⟨_,show h.get? a=some _ from x⟩
 | met f y=>exact⟨_,show h.get? a=some _ from x⟩
 | ext φ=>obtain⟨_,e,_⟩:=x;exact e
section
variable {P:Program}{w:World}{H H':Hp}{h0 h h' B:Heap}{fs:LAd}
def Cov(H:Hp)(B:Heap):Prop:=∀b u,H b=some u->∃o,B.get? b=some o
theorem Qnf(hok:HOk P w H h)(hB:B.StaysIn h)(hB':B.StaysIn h')(cov:Cov H B):HOk P w H h':=λa o e=>
 (hok a o e).QgP (λc v hc q=>by
  have:∃u,H c=some u:=by
   rcases hc with rfl | hc
   ·exact⟨_,e⟩
   ·exact⟨_,hc⟩
  obtain⟨u,hu⟩:=this;obtain⟨o',ho'⟩:=cov c u hu;have:=hB _ _ ho';rw[q]at this;cases this;exact hB' _ _ ho') (λ_ q=>q) λ_ _ q=>q
theorem QpQ(u:Un fs [] H H' h0 h)(hB:B.StaysIn h)(hB':B.StaysIn h')(up:h.UpToSlots h')(old:∀b o,h0.get? b=some o->b∉fs->∃o',B.get? b=some o')
  (dat:∀b o,h0.get? b=some o->b∈fs->∀vs,o.data≠ .fields vs) (frf:∀b∈fs,H b=none):Un fs [] H H' h0 h' where
 keep:=λb o e n hb hx=>by
  obtain⟨o',e1⟩:=old b o e hb;have:=hB _ _ e1;rw[u.keep b o e n hb hx]at this;cases this;exact hB' _ _ e1
 slot:=λb o e n hb hx=>by
  obtain⟨sl,e1⟩:=u.slot b o e n hb hx;obtain⟨sl',e2⟩:=up b _ e1 (dat b o e hb);exact⟨sl',e2⟩
 free:=u.free
 there:=λb o e hx=>by
  by_cases hb:b∈fs
  ·obtain⟨sl,e1⟩:=u.slot b o e (frf b hb) hb hx;obtain⟨sl',e2⟩:=up b _ e1 (dat b o e hb);exact⟨_,e2⟩
  ·obtain⟨o',e1⟩:=old b o e hb;exact⟨_,hB' _ _ e1⟩
 tups:=u.tups
 frzs:=u.frzs
 tbls:=u.tbls
end
noncomputable def CXR(P:Program)(w:World):CXT:=λouter H s E e s'=>∃ea C H' B a0,e=Value.ref ea/\s'.os=s.os/\AllBare s'.gens/\Un (frs outer) [] H H' s.heap s'.heap/\HOk P w H' s'.heap/\Heap.FlyingW B outer ea C a0 s'.heap∧
 Cov H' B/\(∀b o,s.heap.get? b=some o->b∉frs outer->∃o',B.get? b=some o')/\E C none H'
def QhI(X:Cx)(H0:Hp)(A0:LAd)(hs:List (V×D×List Addr))(U:En)(C:Value)(ea:Addr)(s':Shared):Prop:=∃pins σ H F,Rel X.K H0 A0 hs U F σ H∧
 ((∃sg args,Inv X pins σ H sg/\Heap.MadeExcOf sg.heap s'.heap ea C args/\s'.os=sg.os/\s'.gens=sg.gens)∨
  ∃B a0,Inv X pins σ H s'/\Heap.FlyingW B X.stack ea C a0 s'.heap/\Cov H B/\(∀b o,X.s₀.heap.get? b=some o->b∉X.fs->∃o',B.get? b=some o')/\∀p∈X.pn++pins,∃o,B.get? p.1=some o)
theorem QtA(I:Inv X pins σ H s)(hx:X.ex=[])(e:X.s₀.heap.get? b=some o)(hb:b∉X.fs):(∃o',s.heap.get? b=some o')/\b∉frs X.stack:=by
 refine⟨I.base.there b o e (by rw[hx];simp),λz=>?_⟩;rcases Zi.mp (I.Qf5 b z)with q | q
 ·have h1:=Zt e;have h2:=I.ok.above;rw[q]at h1;exact absurd (Zp h1 h2) (ZX _)
 ·exact hb q
theorem Qms{X:Cx}(ok:X.Ok){b:Addr}{o:Obj}(e:X.s₀.heap.get? b=some o)(hb:b∈X.fs):∀vs,o.data≠ .fields vs:=by
 obtain⟨_,o',e',h⟩:=ok.Qet.mem hb;rw[e]at e';cases e';exact h
theorem Qo9(I:Inv X pins σ H s)(hx:X.ex=[]):∃B:Heap,B.StaysIn s.heap/\s.heap.FunFrames B X.stack/\Cov H B/\(∀b o,X.s₀.heap.get? b=some o->b∉X.fs->∃o',B.get? b=some o')/\∀p∈X.pn++pins,∃o,B.get? p.1=some o:=by
 refine⟨PySem.W.hideAll s.heap (frs X.stack),λb o e=>PySem.W.of_hideAll _ e,PySem.W.funFrames_hide I.stack λenv he a ha=>ZaX.mpr ⟨env,he,ha⟩,λb u e=>?_,λb o e hb=>?_,λp hp=>?_⟩
 ·obtain⟨o,ho⟩:=Qxa (I.hok b u e);exact⟨o,Zbf _ ho λz=>by rw[I.Qns b z]at e;cases e⟩
 ·obtain⟨⟨o',h1⟩,h2⟩:=QtA I hx e hb;exact⟨o',Zbf _ h1 h2⟩
 ·obtain⟨e,_,ne,nf,_⟩:=I.pin p hp;exact⟨_,Zbf _ e λz=>(Zi.mp (I.Qf5 _ z)).elim ne nf⟩
theorem QpE{X:Cx}{P:Program}{w:World}{E:XK}{H0:Hp}{A0:LAd}{hs:List (V×D×List Addr)}{U:En}{C:Value}{ea:Addr}{s':Shared}{env:Env}{outer:List Env}{Er:Value->Shared->Prop}
  (hp:X.prog=P) (hw:X.w=w) (hx:X.ex=[]) (hst:X.stack=env::outer) (hfs:X.outer=outer) (hen:X.env=env) (hf:env.frame=some X.env.locals) (T:QhI X H0 A0 hs U C ea s')
  (hE:∀H,QS H0 H->E C none H):wpAny (model P w) X.A (leaving env (.ref ea)) (λ_ s''=>CXR P w outer X.H₀ X.s₀ E (.ref ea) s'') Er s':=by
 subst hp hw hfs;obtain⟨pins,σ,H,F,rel,⟨sg,args,I,hm,ho,hg⟩ | ⟨B,a0,I,fl,cov,old,_⟩⟩:=T
 ·obtain⟨B,b1,b2,cov,old,_⟩:=Qo9 I hx;rw[hst]at b2;have hfr:=I.ok.frames;rw[hst]at hfr;refine wpAny_leaves_madeW hfr hf b1 b2 hm λh' t fl _ _ up=>?_;have up':sg.heap.UpToSlots h':=(Heap.UpToSlots.of_keeps hm.keeps).trans up;have hb:=I.base;rw[hx]at hb;exact⟨ea,C,H,B,_,rfl,ho.trans I.os,hg▸I.bare,QpQ hb b1 fl.1 up' old (λb o e hb=>Qms I.ok e hb) I.ok.frf,Qnf I.hok b1 fl.1 cov,fl,cov,old,hE H rel.same⟩
 ·have hfr:=I.ok.frames;rw[hst]at hfr fl;refine wpAny_leaves_onW hfr hf fl λh' fl' up=>?_;have hb:=I.base;rw[hx]at hb;exact⟨ea,C,H,B,_,rfl,I.os,I.bare,QpQ hb fl.1 fl'.1 up old (λb o e hb=>Qms I.ok e hb) I.ok.frf,Qnf I.hok fl.1 fl'.1 cov,fl',cov,old,hE H rel.same⟩
noncomputable abbrev DX:=En->Option (Str×En)
def ClsAt(K:Fgg)(x:Str)(C:Addr):Prop:=PySem.W.nsIn K mainGlobals x=some (some (.ref C))
def cRz(X:Cx)(H0:Hp)(A0:LAd)(fx:DX)(σ:L2.St)(H:Hp):Prop:=∃U hs F x U',Rel X.K H0 A0 hs U F σ H/\fx U=some (x,U')/\∀C ea s',ClsAt X.K x C->QhI X H0 A0 hs U' (.ref C) ea s'->X.xe (.ref ea) s'
noncomputable def tRz(X:Cx)(H0:Hp)(A0:LAd)(fx:DX):TS:=λ_ σ H=>cRz X H0 A0 fx σ H
noncomputable def eRz(X:Cx)(H0:Hp)(A0:LAd)(fx:DX):TE:=λσ H _=>cRz X H0 A0 fx σ H
def Rz(X:Cx)(st:Stmt)(fx:DX):Prop:=∀H0 A0,PS X st (tRz X H0 A0 fx)
def RzS(X:Cx)(sts:List Stmt)(fx:DX):Prop:=∀H0 A0,PSs X sts (tRz X H0 A0 fx)
def RzE(X:Cx)(e:Expr)(fx:DX):Prop:=∀H0 A0,PE X e (eRz X H0 A0 fx)
noncomputable def xNo:DX:=λ_=>none
noncomputable def Qdq(x:Str)(fs:DA):DX:=λU=>(fs U).bind λr=>if r.ds.length<=1 then some (x,U)else none
noncomputable def QaJ(n:Nat)(xd:List D->Option Str)(fs:DA):DX:=λU=>(fs U).bind λr=>if r.ds.length=n then(xd r.ds).map λc=>(c,U)else none
noncomputable def xIf(g:DT)(fa fb:DX):DX:=λU=>(g U).bind λb=>if b=true then fa U else fb U
noncomputable def QT(f:DS)(fx fr:DX):DX:=λU=>match f U with
 | some (.nx U')=>fr U'
 | some _=>none
 | none=>fx U
noncomputable def Qe4(t:Tg)(fb:DS)(fx:DX):List D->DX
 | [],_=>none
 | d::ds,U=>(QbE t d U).bind λU1=>match fb U1 with
  | some (.nx U2)=>Qe4 t fb fx ds U2
  | some (.ct U2)=>Qe4 t fb fx ds U2
  | some _=>none
  | none=>fx U1
noncomputable def QiZ(fi:DI)(t:Tg)(fb:DS)(fx:DX):DX:=λU=>(fi U).bind λir=>Qe4 t fb fx ir.items (Qba ir.M U)
noncomputable def spX(K:Fgg)(n:Nat)(xd:List D->Option Str):Sp:=λvs H _ E=>∃ds L x,Rps K H ds vs L/\ds.length=n/\xd ds=some x/\∀C H',ClsAt K x C->QS H H'->E (.ref C) none H'
theorem QyG{K:Fgg}{n:Nat}{xd:List D->Option Str}{ps:List Str}(hn:ps.length=n):∀vs H Q E,spX K n xd vs H Q E->vs.length=ps.length:=λvs H Q E ⟨ds,L,x,r,hl,_⟩=>by rw[hn,← hl,r.length]
section
variable {X:Cx}{st:Stmt}{sts:List Stmt}{e:Expr}{es:List Expr}{fs:DA}{f:DS}{fx fr fy:DX}{g:DT}{pos p np cpos:Pos}{x:Str}{k n:Nat}{fa:Addr}{fd:FuncData}{ps:List Str}{xd:List D->Option Str}
theorem QgN:Rz X st xNo:=λH0 A0 pins s σ H Dd I ⟨U,hs,F,x,U',rel,e,q⟩=>by cases e
theorem Qzf:RzS X [] xNo:=λH0 A0 pins s σ H Dd I ⟨U,hs,F,x,U',rel,e,q⟩=>by cases e
theorem QhI.hold(h:QhI X H0 A0 (ts++hs) U C ea s'):QhI X H0 A0 hs U C ea s':=by
 obtain⟨pins,σ,H,F,rel,q⟩:=h;exact⟨pins,σ,H,F,rel.QpM,q⟩
theorem QxN(Fk:QcF X.prog X.w X.K X.mg X.base (CXR X.prog X.w) k fa fd ps (spX X.K n xd))(hr:Qbx k X.A)(hg:Gl X x)(hm:X.mg x=some (.ref fa))(hk:PySem.W.keepIn X.K (.ref fa)=true)(hb:Binds X.K fd ps [])(hx:X.ex=[])(hn:ps.length=n)
  (ha:SA X (e::es) fs) (hdb:(x == ("__debug__" :Str))=false) (he:starEach (e::es) X.env=(false,eval e X.env)::starEach es X.env) (hpl:(backTo pos (starEach es X.env)).any (·.1)=false):
  RzE X (.Call (.Name x p) (e::es) [] pos) (QaJ n xd fs):=λH0 A0 pins s σ H Q I Z=>by
 obtain⟨U,hs,F,c,U',rel,ex,q⟩:=Z;refine Qg ex λra e1 ex=>?_;split at ex
 ·rename_i hl;obtain⟨c',e2,e3⟩:=Zh.mp ex;cases e3;refine wpAny_Call_Name_kw (QfI I hg hm ?_ hdb);refine PySem.W.callWith_K (h₀:=X.base) I.ok.mod.kin hk (thn (ha H0 A0 pos pins s σ H (λvs H1=>∃G,Qs1 X.K U F H H1 ra vs G) I ⟨U,hs,F,ra,rel,e1,λvs H1 G p1=>⟨G,p1⟩⟩) λus s1 ⟨vs,H1,I1,rv,G,p1⟩=>⟨I1.kIn,?_⟩) he hpl;have hlen:(us++[]).length=ps.length:=by rw[ZaO,← rv.length,← p1.rp.length,hl,hn]
  have hbb:=hb s1 us I1.kIn hlen;rw[ZaO]at hbb;refine wpAny_call (codeAny_mono (Fk.run X.A X.stack s1 H1 ⟨us,[]⟩ us vs (λ_ _=>False) (λc' _ H'=>∃C,c'= .ref C/\ClsAt X.K c C/\QS H1 H') hr I1.QAF hbb rv ⟨ra.ds,G,c,p1.rp,hl,e2,λC H' hC sm=>⟨C,rfl,hC,sm⟩⟩) λr s' hq=>?_);cases r with
  | error ev=>
   obtain⟨ea,C',H',B,a0,rfl,os,bare,un,hok,fl,cov,old,C,rfl,hC,sm⟩:=hq;exact q C ea s' hC ⟨pins,σ,H',F,(rel.ext p1.same).ext sm,.inr ⟨B,a0,I1.QxB os un hok bare (λb z=>absurd z (by simp)),fl,cov,λb o eb hbf=>by
    obtain⟨⟨o',h1⟩,h2⟩:=QtA I1 hx eb hbf;exact old b o' h1 h2,λp hp=>by
    obtain⟨e,_,ne,nf,_⟩:=I1.pin p hp;exact old _ _ e λz=>(Zi.mp (I1.Qf5 _ z)).elim ne nf⟩⟩
  | ok fl=>
   cases fl with
   | ret u=>obtain⟨v,H',_,_,_,_,_,z⟩:=hq;exact z.elim
   | next=>exact False.elim hq
   | brk=>exact False.elim hq
   | cont=>exact False.elim hq
 ·cases ex
theorem QxX(h:RzE X e fx)(hs:swapsWith e none pos.line X.env=pure false):Rz X (.Expr e pos) fx:=λH0 A0=>Qm2 (h H0 A0) hs
theorem Qzw(h:RzE X e fx):Rz X (.Return (some e) pos) fx:=λH0 A0=>QuC (h H0 A0)
theorem Qz3{i:Nat}(hN:X.N.Nodup)(h1:X.N[i]? =some x)(h2:Loc X.env.scope x)(h3:X.fn x=true∨X.env.scope.names.lookup x=some .local)(h:RzE X e fx)(hs:swapsWith e (some (.Name x p)) pos.line X.env=pure false):Rz X (.Assign [.Name x p] e pos) fx:=λH0 A0=>Qga hN h1 h2 (h H0 A0) hs h3
theorem QCn(hc:ST X c g)(ha:RzS X a fx)(hb:RzS X b fy):Rz X (.If c a b pos) (xIf g fx fy):=λH0 A0=>(Qxz (hc H0 A0) (ha H0 A0) (hb H0 A0)).mono λDd σ H Z=>by
 obtain⟨U,hs,F,x,U',rel,e,q⟩:=Z;refine Qg e λc e1 e=>?_;refine⟨U,hs,F,c,rel,e1,λH1 s1=>?_⟩;cases c with
 | true=>exact Qsp ⟨U,hs,F,x,U',rel.ext s1,e,q⟩
 | false=>exact Qsj ⟨U,hs,F,x,U',rel.ext s1,e,q⟩
theorem QCu{t u:TS}(h1:PS X st t)(h2:PS X st u):PS X st (λDd σ H=>t Dd σ H∨u Dd σ H):=λpins s σ H Dd I q=>q.elim (h1 pins s σ H Dd I) (h2 pins s σ H Dd I)
theorem QAR(h1:PSs X sts t)(h2:PSs X sts u):PSs X sts (λDd σ H=>t Dd σ H∨u Dd σ H):=λpins s σ H Dd I q=>q.elim (h1 pins s σ H Dd I) (h2 pins s σ H Dd I)
theorem QvH(h1:S1 X st f)(h2:Rz X st fx)(h3:RzS X sts fr):RzS X (st::sts) (QT f fx fr):=λH0 A0=>(Qce (QCu (h1 H0 A0) (h2 H0 A0)) (h3 H0 A0)).mono λDd σ H Z=>by
 obtain⟨U,hs,F,x,U',rel,e,q⟩:=Z;unfold QT at e;split at e
 ·rename_i U1 e1;exact .inl ⟨U,hs,F,_,rel,e1,λσ' H' F' rel'=>⟨U1,hs,F',x,U',rel',e,q⟩⟩
 ·cases e
 ·exact .inr ⟨U,hs,F,x,U',rel,e,q⟩
theorem QA2(hp:PassesOwn (model X.prog X.w) X.A X.env X.xe)(hc:X.calm=true)(hi:SI X tg iter fi)(hg:SG X tg t)(hb:SS X body f)(hbx:RzS X body fx)(hs:∀x,foldedSetIterable iter X.env x=pure x):
  Rz X (.For tg iter body [] pos) (QiZ fi t f fx):=λH0 A0=>(Qul hp hc (hi H0 A0) (hg H0 A0) (QAR (hb H0 A0) (hbx H0 A0)) hs).mono λDd σ H Z=>by
 obtain⟨U,hs,F,c,U',rel,e,q⟩:=Z;refine Qg e λir e1 e=>?_;refine⟨U,hs,F,ir,rel,e1,λJ H1 ts s1 wk hts ow hz=>?_⟩;have rel1:Rel X.K H0 A0 (ts++hs) (Qba ir.M U) F σ H1:=((rel.ext s1).weak (Qbp ir.M U)).hold λt ht=>⟨(hts t ht).1,Shr.of rel (hts t ht).2⟩;refine⟨λi m σ' H'=>m=ir.items.length-i/\i<=ir.items.length/\∃Ui Fi,Rel X.K H0 A0 (ts++hs) Ui Fi σ' H'/\Qe4 t f fx (ir.items.drop i) Ui=some (c,U'),⟨_,rfl,Zab _,_,F,rel1,by simpa using e⟩,?_⟩;rintro i m σ' H' ⟨rfl,hi',Ui,Fi,reli,ei⟩;have held:Qlt X.K H' ts:=λt ht=>(reli.held t (Zf _ ht)).1;by_cases hlt:i<ir.items.length
 ·rw[ZW hlt]at ei;unfold Qe4 at ei;refine Qg ei λU1 eb ei=>?_;refine .inr ⟨wk.go i H' hlt held,λσ2 H2=>∃U2 F2,Rel X.K H0 A0 (ts++hs) U2 F2 σ2 H2/\Qe4 t f fx (ir.items.drop (i+1)) U2=some (c,U'),λσ2 H2 ⟨U2,F2,rel2,e2⟩=>⟨_,⋯,rfl,hlt,U2,F2,rel2,e2⟩,λx H2 hy=>?_⟩;obtain⟨s2,G0,rp0,hG0⟩:=wk.yld i ir.items[i] H' x H2 (by simp[hlt]) held hy;have shr:Shr H0 A0 Ui Fi G0:=λa ha=>by
   obtain⟨t,ht,hat⟩:=hG0 a ha;exact⟨(reli.held t (Zf _ ht)).2 a hat,λj d ej hj=>(reli.own j d ej).2.2.2.2 t (Zf _ ht) a hj hat⟩
  refine⟨Ui,ts++hs,Fi,ir.items[i],G0,U1,reli.ext s2,rp0,shr,eb,λσ3 F3 rel3 _ _=>?_⟩;split at ei
  ·rename_i U2 eo;exact .inl ⟨U1,ts++hs,F3,_,rel3,eo,λσ4 H4 F4 rel4=>⟨U2,F4,rel4,ei⟩⟩
  ·rename_i U2 eo;exact .inl ⟨U1,ts++hs,F3,_,rel3,eo,λσ4 H4 F4 rel4=>⟨U2,F4,rel4,ei⟩⟩
  ·cases ei
  ·exact .inr ⟨U1,ts++hs,F3,c,U',rel3,ei,λC ea s' hC T=>q C ea s' hC T.hold⟩
 ·have hn:i=ir.items.length:= ⋯
  subst hn;rw[ZbU]at ei;cases ei
end
noncomputable abbrev QCY:List Value:=[.type "ValueError",.type "Exception",.type "BaseException",.type "object"]
structure QiJ (K:Fgg) (x:Str):Prop where
 ex:∃C,ClsAt K x C/\PySem.W.excIn K C QCY "ValueError.__new__" =true
theorem QwE{K:Fgg}{C:Addr}{bmB:List Value}{newId:String}(q:PySem.W.excIn K C bmB newId=true){h:Heap}(X:K.In h):∃bm N nm qn bs hdct sn sub ab col dd k0 k1 k2 k3 k5 mN,
  h.get? C=some (excClassObj nm qn C N bs bm hdct sn sub ab col dd k0 k1 k2 k3 k5 newId)/\h.Ns N mN/\mN "__init__" =none/\OwnTail h bmB bm:=by
 rw[PySem.W.excIn.eq_def]at q;split at q
 case h_2=>cases q
 rename_i dd cd sl ho;split at q
 case h_2=>cases q
 rename_i C1 bm k0 k1 k2 k3 nid k5 em es;simp only[Zm,beq_iff_eq,ZaH]at q;obtain⟨⟨⟨⟨⟨z1,z2⟩,nodel⟩,tl⟩,okN⟩,noInit⟩:=q;subst z1 z2;have hget:=X _ _ ho;have hsl:sl= #[k0,k1,k2,k3,some (.builtin nid),k5]:=Array.ext' es;rw[hsl]at hget;refine⟨bm,cd.ns,cd.name,cd.qualname,cd.bases,cd.hasDict,cd.slotNames,cd.subclasses,cd.abstract,cd.collection,dd,k0,k1,k2,k3,k5,_,?_,.of_isNs (PySem.W.isNs_of_in X okN),PySem.W.nsMap_none_of_in X okN noInit,PySem.W.tail_of_in X tl⟩;rw[hget];cases cd with
 | mk c1 c2 c3 c4 c5 c6 c7 c8 c9 c10 c11=>
  dsimp only at em nodel;rw[em,nodel]
section
variable {X:Cx}{e:Expr}{fs:DA}{x:Str}{np cpos pos:Pos}
theorem Qvy(hc:X.calm=true)(hg:Gl X x)(hk:QiJ X.K x)(hdb:(x == ("__debug__" :Str))=false)(ha:SA X [e] fs)(he:starEach [e] X.env=(false,eval e X.env)::starEach [] X.env):
  Rz X (.Raise (some (.Call (.Name x np) [e] [] cpos)) none pos) (Qdq x fs):=λH0 A0 pins s σ H Dd I Z=>by
 obtain⟨U,hs,F,c,U',rel,ex,q⟩:=Z;refine Qg ex λra e1 e2=>?_;split at e2
 case isFalse=>cases e2
 rename_i hl;cases e2;obtain⟨C,hC,hq⟩:=hk.ex;obtain⟨bm,N,nm,qn,bs,hdct,sn,sub,ab,col,dd,k0,k1,k2,k3,k5,mN,o1,o2,o3,o4⟩:=QwE hq I.ok.mod.kin;have hm:X.mg x=some (.ref C):=Zbh I.ok.mod.kin I.ok.mod.glob hC
 refine wpAny_Raise_call_subT (C:=C) (nm:=nm) (q:=qn) (N:=N) (bs:=bs) (bm:=bm) (hdct:=hdct) (sn:=sn) (sub:=sub) (ab:=ab) (col:=col) (dd:=dd) (k0:=k0) (k1:=k1) (k2:=k2) (k3:=k3) (k5:=k5)
  PySem.F.excBase_ValueError (mN:=mN) (o4.hasType PySem.F.excBase_ValueError.hasBase) (I.ok.hd hc) (by rw[he];rfl) o3 (QfI I hg hm ⟨rfl,?_⟩ hdb)
 have hargs:=ha H0 A0 cpos pins s σ H (λvs H1=>∃G,Qs1 X.K U F H H1 ra vs G) I ⟨U,hs,F,ra,rel,e1,λvs H1 G p1=>⟨G,p1⟩⟩;rw[he]at hargs ⊢;refine Calls.evalArgs_plain (thn hargs λus s2 ⟨vs,H1,I1,rv,G,p1⟩=>⟨rfl,?_,I1.bk _ _ o1,o2.keeps I1.bk,o4.keeps I1.bk,λh' ea hm=>?_⟩)
 ·show us.length<=sizeLine;rw[← rv.length,← p1.rp.length];exact Zo hl (by decide)
 ·exact q C ea _ hC ⟨pins,σ,H1,F,rel.ext p1.same,.inl ⟨s2,us,I1,hm,rfl,rfl⟩⟩
end
structure ThX where
 Γx:List (Str×(Nat×(List D->Option Str)))
 cls:List Str
structure XOk (X:Cx) (YX:ThX):Prop where
 ex:X.ex=[]
 stk:X.stack=X.env::X.outer
 fr:X.env.frame=some X.env.locals
 fx:∀x r,look x YX.Γx=some r->∃k f fd ps,QcF X.prog X.w X.K X.mg X.base (CXR X.prog X.w) k f fd ps (spX X.K r.1 r.2)/\Qbx k X.A/\X.mg x=some (.ref f)/\PySem.W.keepIn X.K (.ref f)=true/\Binds X.K fd ps []/\ps.length=r.1
 cl:∀x∈YX.cls,QiJ X.K x
noncomputable def xcE(n:Nat)(Y:Th)(YX:ThX)(e:Expr):DX:=match e with
 | .Call (.Name x _) (a::as) [] _=>if Y.gl x then(match look x YX.Γx with
  | some r=>(match QbV n Y (a::as)with | some fs=>QaJ r.1 r.2 fs | none=>xNo)
  | none=>xNo)else xNo
 | _=>xNo
noncomputable def xrE(n:Nat)(Y:Th)(YX:ThX)(e:Expr):DX:=match e with
 | .Subscript a b _=>match Qs n Y b with
  | none=>xNo
  | some _=>xcE n Y YX a
 | e=>xcE n Y YX e
noncomputable def QvD:List Expr->Option Str
 | [e]=>QbR e
 | _=>none
theorem QoC{e:Expr}{x:Str}{G:Expr->Prop}(h:QbR e=some x)(g:∀p,G (.Name x p)):G e:=by
 cases e with
 | Name z p=>cases h;exact g p
 | _=>exact nn h
noncomputable def QCO:Expr->Option (Str×Expr)
 | .Call f as kw _=>match kw with
  | _::_=>none
  | []=>match as with
   | []=>none
   | a::as=>match as with
    | _::_=>none
    | []=>(QbR f).map λx=>(x,a)
 | _=>none
mutual
noncomputable def Qr1(n:Nat)(Y:Th)(YX:ThX)(st:Stmt):Option DX:=match n with
 | 0=>none
 | n+1=>match st with
  | .Raise v c _=>match c with
   | some _=>none
   | none=>v.bind λe=>(QCO e).bind λq=>if Y.gl q.1 && YX.cls.contains q.1 then(QbV n Y [q.2]).map λfs=>Qdq q.1 fs else none
  | .Expr e _=>some (xcE n Y YX e)
  | .Return v _=>match v with
   | none=>some xNo
   | some e=>some (xrE n Y YX e)
  | .Assign ts e _=>match QvD ts with
   | none=>some xNo
   | some x=>(Y.QbU x).map λ_=>xcE n Y YX e
  | .If c a b _=>(Qbg n Y c).bind λg=>(Qe7 n Y YX a).bind λfa=>(Qe7 n Y YX b).map λfb=>xIf g fa fb
  | .For tg iter body els _=>match els with
   | _::_=>some xNo
   | []=>(QkX Y tg).bind λt=>(Qh4 n Y tg iter).bind λfi=>(QaC n Y body).bind λfb=>(Qe7 n Y YX body).map λfx=>QiZ fi t fb fx
  | _=>some xNo
noncomputable def Qe7(n:Nat)(Y:Th)(YX:ThX)(sts:List Stmt):Option DX:=match n with
 | 0=>none
 | n+1=>match sts with
  | []=>some xNo
  | st::r=>(Qj1 n Y st).bind λf=>(Qr1 n Y YX st).bind λfx=>(Qe7 n Y YX r).map λfr=>QT f fx fr
end
section
variable {X:Cx}{Y:Th}{YX:ThX}
theorem Qjj{e:Expr}:RzE X e xNo:=λH0 A0 pins s σ H Q I ⟨U,hs,F,x,U',rel,e,q⟩=>by cases e
theorem Qmj{n:Nat}(ok:Q7 X Y)(xk:XOk X YX)(e:Expr):RzE X e (xcE n Y YX e)/\(xcE n Y YX e≠xNo->∃x p a as pos,e= .Call (.Name x p) (a::as) [] pos):=by
 unfold xcE;split
 ·rename_i x p a as pos;refine⟨?_,λ_=>⟨x,p,a,as,pos,rfl⟩⟩;split
  ·rename_i hg;obtain⟨g1,g2,g3⟩:=Qer ok.toCtxB hg;split
   ·rename_i r hr;split
    ·rename_i fs hfs;obtain⟨k,f,fd,ps,F1,F2,F3,F4,F5,F6⟩:=xk.fx x r hr;obtain⟨s1,s2⟩:=callArgs (X:=X) hfs rfl pos;exact QxN F1 F2 g1 F3 F4 F5 xk.ex F6 ((QbC n).A X Y _ fs ok hfs) g2 s1 s2
    ·exact Qjj
   ·exact Qjj
  ·exact Qjj
 ·exact⟨Qjj,λh=>absurd rfl h⟩
theorem QCM{a b:Expr}{fb:DE}{fx:DX}{pos:Pos}(h:RzE X a fx)(hb:SE X b fb)(hs:QhD b):RzE X (.Subscript a b pos) fx:=λH0 A0 pins s σ H Q I q=>Qsd (r:=λ_ _ _ _=>False) (λ_ _ _ _ _ _ _ _ _ _ _ _ _ _ z=>z.elim) (h H0 A0) (hb H0 A0) hs pins s σ H Q I q
theorem QBy{n:Nat}(ok:Q7 X Y)(xk:XOk X YX)(e:Expr):RzE X e (xrE n Y YX e):=by
 cases e with
 | Subscript a b pos=>
  show RzE X _ (match Qs n Y b with | none=>xNo | some _=>xcE n Y YX a);split
  ·exact Qjj
  ·rename_i fb hb;exact QCM (Qmj ok xk a).1 ((QbC n).E X Y b fb ok hb) (QmH hb)
 | _=>exact(Qmj (n:=n) ok xk _).1
structure QAp (n:Nat):Prop where
 X:∀X Y YX st f,Q7 X Y->XOk X YX->Qr1 n Y YX st=some f->Rz X st f
 Xs:∀X Y YX sts f,Q7 X Y->XOk X YX->Qe7 n Y YX sts=some f->RzS X sts f
theorem QzE{n:Nat}(ih:QAp n):∀X Y YX st f,Q7 X Y->XOk X YX->Qr1 (n+1) Y YX st=some f->Rz X st f:=by
 intro X Y YX st f ok xk h;have hN:X.N.Nodup:=by rw[ok.N];exact ok.nd
 cases st with
 | Raise v c pos=>
  cases c with
  | some _=>exact nn h
  | none=>
   refine Qg (show v.bind _=some _ from h) λe he h=>?_;cases he;refine Qg h λq hq h'=>?_;clear h;split at h'
   ·rename_i hc;simp only[Zm]at hc;refine mapR h' λfs h1=>?_;clear h';obtain⟨g1,g2,g3⟩:=Qer ok.toCtxB hc.1;obtain⟨s1,s2⟩:=callArgs (X:=X) h1 rfl pos;cases e with
    | Call fn as kw cp=>
     rcases kw with _ | ⟨k1,k2⟩
     ·rcases as with _ | ⟨a,_ | ⟨a2,as⟩⟩
      ·cases hq
      ·obtain⟨x,hx,rfl⟩:=Zh.mp (show(QbR fn).map _=some q from hq);exact QoC (G:=λt=>Rz X (.Raise (some (.Call t [a] [] cp)) none pos) (Qdq x fs)) hx λnp=>Qvy ok.calm g1 (xk.cl x (by simpa using hc.2)) g2 ((QbC n).A X Y _ fs ok h1) s1
      ·cases hq
     ·cases hq
    | _=>exact nomatch (show(none:Option (Str×Expr))=some _ from hq)
   ·cases h'
 | Expr e pos=>
  cases(show some (xcE n Y YX e)=some f from h);obtain⟨h1,h2⟩:=Qmj (n:=n) ok xk e;by_cases hz:xcE n Y YX e=xNo
  ·rw[hz];exact QgN
  ·obtain⟨x,p,a,as,pos',rfl⟩:=h2 hz;exact QxX h1 rfl
 | Return v pos=>
  cases v with
  | none=>cases(show some xNo=some f from h);exact QgN
  | some e=>cases(show some (xrE n Y YX e)=some f from h);exact Qzw (QBy (n:=n) ok xk e)
 | Assign ts e pos=>
  rcases ts with _ | ⟨t,_ | ⟨t2,ts⟩⟩
  ·cases(show some xNo=some f from h);exact QgN
  ·cases t with
   | Name x p=>
    refine mapR (show(Y.QbU x).map _=some f from h) λi hi=>?_;obtain⟨g1,g2,g3⟩:=QcI ok.toCtxB hi;obtain⟨h1,h2⟩:=Qmj (n:=n) ok xk e;by_cases hz:xcE n Y YX e=xNo
    ·rw[hz];exact QgN
    ·obtain⟨x,p,a,as,pos',rfl⟩:=h2 hz;exact Qz3 hN g1 g2 g3 h1 (QdS rfl)
   | _=>cases(show some xNo=some f from h);exact QgN
  ·cases(show some xNo=some f from h);exact QgN
 | If c a b pos=>
  refine Qg (show(Qbg n Y c).bind _=some f from h) λg h1 h=>?_;exact bindR h λfa fb h2 h3=>QCn ((QbC n).T X Y c g ok h1) (ih.Xs X Y YX a fa ok xk h2) (ih.Xs X Y YX b fb ok xk h3)
 | For tg iter body els pos=>
  cases els with
  | cons _ _=>cases(show some xNo=some f from h);exact QgN
  | nil=>
   refine Qg (show(QkX Y tg).bind _=some f from h) λt h1 h=>?_;refine Qg h λfi h2 h=>?_;refine bindR h λfb fx h3 h4=>?_;obtain⟨i1,i2⟩:=(QbC n).I X Y tg iter fi ok h2;exact QA2 ok.pass ok.calm i1 (Qoz ok h1) ((Qkd n).Ss X Y body fb ok h3) (ih.Xs X Y YX body fx ok xk h4) i2
 | _=>cases(show some xNo=some f from h);exact QgN
theorem Qsa:∀n,QAp n
 | 0=>⟨λ_ _ _ _ _ _ _ h=>(nn h),λ_ _ _ _ _ _ _ h=>(nn h)⟩
 | n+1=>by
  have ih:=Qsa n;refine⟨QzE ih,λX Y YX sts f ok xk h=>?_⟩;cases sts with
  | nil=>cases(show some xNo=some f from h);exact Qzf
  | cons st r=>
   refine Qg (show(Qj1 n Y st).bind _=some f from h) λfs h1 h=>?_;exact bindR h λfx fr h2 h3=>QvH ((Qkd n).S X Y st fs ok h1) (ih.X X Y YX st fx ok xk h2) (ih.Xs X Y YX r fr ok xk h3)
end
noncomputable def Qae(k:Nat)(f:DX):List D->Option Str:=λds=>(f (QaU k ds)).map (·.1)
section
variable (P:Program) (w:World) (K:Fgg) (mg:Str->Option Value) (base:Heap)
def Qhx(k:Nat)(x:Str)(r:Nat×(List D->Option Str)):Prop:=∃f fd ps,QcF P w K mg base (CXR P w) k f fd ps (spX K r.1 r.2)/\mg x=some (.ref f)/\PySem.W.keepIn K (.ref f)=true/\Binds K fd ps []/\ps.length=r.1
def Qfr(k:Nat)(Γx:List (Str×(Nat×(List D->Option Str)))):Prop:=∀x r,look x Γx=some r->Qhx P w K mg base k x r
end
section
variable {P:Program}{w:World}{K:Fgg}{mg:Str->Option Value}{base:Heap}
theorem Qfr.nil{k:Nat}:Qfr P w K mg base k []:=λx r h=>by cases h
theorem Qhx.mono{j k:Nat}{x:Str}{r:Nat×(List D->Option Str)}(h:Qhx P w K mg base j x r)(hk:j<=k):Qhx P w K mg base k x r:=by
 obtain⟨f,fd,ps,h1,h2⟩:=h;exact⟨f,fd,ps,h1.mono hk,h2⟩
theorem Qfr.mono{j k:Nat}{Γ:List (Str×(Nat×(List D->Option Str)))}(t:Qfr P w K mg base j Γ)(hk:j<=k):Qfr P w K mg base k Γ:=λx r e=>(t x r e).mono hk
theorem Qfr.cons{k:Nat}{Γ:List (Str×(Nat×(List D->Option Str)))}{x:Str}{r:Nat×(List D->Option Str)}(t:Qfr P w K mg base k Γ)(h:Qhx P w K mg base (k+1) x r):Qfr P w K mg base (k+1) ((x,r)::Γ):=λy q e=>by
 unfold look at e;split at e
 ·rename_i z;cases e;subst z;exact h
 ·exact(t y q e).mono (ZbA _)
theorem Qdb{h:Heap}{x:Str}{st:Stmt}{ps:List Str}{k n:Nat}{Γ:List (Str×FnR)}{Γx:List (Str×(Nat×(List D->Option Str)))}{cls:List Str}{cs:List (Str×Int)}{g:DX}(X:K.In h)(G:h.Ns mainGlobals mg)(F:Fact K x st)(S:Qcn (namesOf (Qr st)) ps (Qr st))(B:QaG x st ps)(M:QeW mg cs)(tab:Qcg P w K mg base k Γ)(tabx:Qfr P w K mg base k Γx)
  (hcl:∀x∈cls,QiJ K x) (hc:Qe7 n (Qf7 st Γ cs) ⟨Γx,cls⟩ (Qbm st)=some g):Qhx P w K mg base (k+1) x (ps.length,Qae (namesOf (Qr st)).length g):=by
 obtain⟨f,fd,Fn,a⟩:=F.ex;refine⟨f,fd,ps,?_,Zbh X G a,Fn.kp,Fn.binds (B ·),rfl⟩;obtain⟨oc,od,kV,doc,pm,an,cdv,ct,osl,rfl,lk,hcd⟩:=Fn.ex;refine Qxp lk hcd S (QyG rfl) λA outer s H vs Q E hr hsp=>?_;obtain⟨ds,L,y,rps,hl,hd,hE⟩:=hsp;have ok:Q7 (Qfh (CXR P w) P w K mg base (namesOf (Qr st)) x (Qr st) f cdv A outer s H E) (Qf7 st Γ cs):=Qrr (CX:=CXR P w) (E:=E) S M tab hr PassesOwn.leaving;have xk:XOk (Qfh (CXR P w) P w K mg base (namesOf (Qr st)) x (Qr st) f cdv A outer s H E) ⟨Γx,cls⟩:=⟨rfl,rfl,rfl,λz r e=>by
  obtain⟨f',fd',ps',h1,h2,h3,h4,h5⟩:=tabx z r e;exact⟨k,f',fd',ps',h1,hr,h2,h3,h4,h5⟩,hcl⟩
 refine⟨_,(Qsa n).Xs _ _ _ _ g ok xk hc H L,?_⟩;obtain⟨F0,rel⟩:=QiH (N:=namesOf (Qr st)) rps;obtain⟨⟨y',U'⟩,e1,e2⟩:=Zh.mp hd;cases e2;exact⟨_,[],F0,y',U',rel,e1,λC ea s' hC T=>QpE rfl rfl rfl rfl rfl rfl rfl T λH' sm=>hE C H' hC sm⟩
end
end HS
namespace HS
open PySem PySem.Spec L2 PyProof.Rows
section
variable {X:Cx}{pins:List (Addr×Obj)}{σ:L2.St}{H:Hp}{s s':Shared}{B:Heap}
theorem QnX{h h':Heap}{c:Addr}{v:Option Value}(up:h.UpToSlots h')(z:h.IsCell c v):h'.IsCell c v:=by
 obtain⟨o,e,d⟩:=z;obtain⟨sl,e'⟩:=up c o e λvs q=>by rw[d]at q;cases q
 exact⟨_,e',d⟩
theorem QlE(I:Inv X pins σ H s)(ho:s'.os=s.os)(hg:AllBare s'.gens)(hx:X.ex=[])(b1:B.StaysIn s.heap)(b2:B.StaysIn s'.heap)(up:s.heap.UpToSlots s'.heap)(cov:Cov H B)
  (old:∀b o,X.s₀.heap.get? b=some o->b∉X.fs->∃o',B.get? b=some o') (pb:∀p∈X.pn++pins,∃o,B.get? p.1=some o):Inv X pins σ H s' where
 ok:=I.ok
 os:=ho.trans I.os
 bare:=hg
 base:=by
  have hb:=I.base;rw[hx]at hb ⊢;exact QpQ hb b1 b2 up old (λb o e hb=>Qms I.ok e hb) I.ok.frf
 loc:=by
  obtain⟨m,hn,hl⟩:=I.loc;refine⟨m,up.ns hn,λi x v e1 e2 e3=>?_⟩;obtain⟨u,r,q⟩:=hl i x v e1 e2 e3;refine⟨u,r,?_⟩;rcases q with q | ⟨k,c,e,z⟩
  ·exact .inl q
  ·exact .inr ⟨k,c,e,QnX up z⟩
 cell:=λx c e=>by
  obtain⟨v,z⟩:=I.cell x c e;exact⟨v,QnX up z⟩
 free:=I.free
 freeC:=I.freeC
 pin:=λp hp=>by
  obtain⟨e,n,ne,nf,d⟩:=I.pin p hp;obtain⟨o,eo⟩:=pb p hp;have:=b1 _ _ eo;rw[e]at this;cases this;exact⟨b2 _ _ eo,n,ne,nf,d⟩
 hok:=Qnf I.hok b1 b2 cov
 len:=I.len
theorem Qx0{ea C:Addr}{a0:Value}(I:Inv X pins σ H s)(hx:X.ex=[])(fl:Heap.FlyingW B X.stack ea (.ref C) a0 s.heap)(cov:Cov H B)(old:∀b o,X.s₀.heap.get? b=some o->b∉X.fs->∃o',B.get? b=some o')
  (pb:∀p∈X.pn++pins,∃o,B.get? p.1=some o):H ea=none/\Inv X pins σ (upd H ea (.ext (QdI ea C))) s:=by
 obtain⟨oe,vs,he,hc,hd,_⟩:=fl.first
 have ne:∀{b o},B.get? b=some o->b≠ea:=λ{b o} e z=>by rw[z,fl.2.1]at e;cases e
 have hn:H ea=none:=by
  cases q:H ea with
  | none=>rfl
  | some u=>obtain⟨o,e⟩:=cov ea u q;exact absurd rfl (ne e)
 have nd:∀{b o},s.heap.get? b=some o->(∀vs,o.data≠ .fields vs)->b≠ea:=λ{b o} e h z=>by
  rw[z,he]at e;cases e;exact h vs hd
 have tr:∀b u,H b=some u->upd H ea (.ext (QdI ea C)) b=some u:=λb u e=>by
  obtain⟨o,eo⟩:=cov b u e;rw[QR (ne eo)];exact e
 refine⟨hn,I.ok,I.os,I.bare,⟨I.base.keep,I.base.slot,λb o e n hxx=>?_,I.base.there,λb xs q=>tr _ _ (I.base.tups b xs q),λb o u q=>tr _ _ (I.base.frzs b o u q),λb ps q=>?_⟩,I.loc,I.cell,?_,λx c e=>?_,λp hp=>?_,λb u e=>?_,I.len⟩
 ·rw[QR]
  ·exact I.base.free b o e n hxx
  ·by_cases hb:b∈X.fs
   ·obtain⟨sl,e1⟩:=I.base.slot b o e n hb hxx;exact nd e1 λvs q=>Qms I.ok e hb vs q
   ·obtain⟨o',e1⟩:=old b o e hb;exact ne e1
 ·obtain⟨more,q⟩:=I.base.tbls b ps q;exact⟨more,tr _ _ q⟩
 ·rw[QR]
  ·exact I.free
  ·obtain⟨m,⟨o,es,ep,e,d,_⟩,_⟩:=I.loc;exact nd e λvs q=>by rw[d]at q;cases q
 ·rw[QR]
  ·exact I.freeC x c e
  ·obtain⟨v,o,eo,d⟩:=I.cell x c e;exact nd eo λvs q=>by rw[d]at q;cases q
 ·obtain⟨e,n,ne',nf,d⟩:=I.pin p hp;obtain⟨o,eo⟩:=pb p hp;exact⟨e,by rw[QR (ne eo)];exact n,ne',nf,d⟩
 ·by_cases hb:b=ea
  ·subst hb;rw[Qaa]at e;cases e;refine⟨⟨oe,vs,he,hc,hd⟩,⟨oe,he⟩,λh1 h2 ⟨o,w,e1,e2,e3⟩ k=>⟨o,w,k _ e1,e2,e3⟩⟩
  ·rw[QR hb]at e;exact(I.hok b u e).QgP (λc v _ q=>q) (λc q=>tr _ _ q) λc xs q=>tr _ _ q
theorem QlO{M:Model}{A:Around}{E:Value->Shared->Prop}{i:Nat}{x:Str}{pos:Pos}{Q:Unit->Shared->Prop}(I:Inv X pins σ H s)(hN:X.N.Nodup)(hi:X.N[i]? =some x)(hx:X.env.scope.names.lookup x=some .local)
  (h:∀s',Inv X pins (σ.set i none) H s'->Q () s'):wpAny M A (do bindName X.env x .none;unbindBehindTheSuite X.env x pos) Q E s:=by
 refine wpAny_bind (wpAny_bindName (QhJ (v:= .non) I hN hi (.inl hx) rfl (λs1 I1=>?_) (.inr hx)));have hcls:(X.env.scope.kind == .class || (X.env.scope.kind == .module && X.env.locals != X.env.globals))=false:=by rw[I.ok.kind];rfl
 have hiσ:i<σ.length:=by rw[I.len];exact(Zk.mp hi).1
 obtain⟨m,hn,hl⟩:=id I1.loc;obtain⟨u,_,q⟩:=hl i x .non hi (Zn hiσ) (.inl hx);have hm:m x=some u:=by
  rcases q with⟨_,e⟩ | ⟨k,_⟩
  ·exact e
  ·have hx':X.env.kindOf x=some .local :=hx;rcases k with k | k<;>rw[hx']at k<;>cases k
 unfold unbindBehindTheSuite;refine wpAny_onRaise (wpAny_unbindName_local hx hn hm hcls λh' u' hn' hs=>h _ ?_);have cne:=I1.cne;obtain⟨oL,_,_,hoL,_⟩:=id hn;refine⟨I1.ok,I1.os,I1.bare,⟨λb o e n hb hx=>?_,λb o e n hb hx=>?_,I1.base.free,λb o e hx=>?_,I1.base.tups,I1.base.frzs,I1.base.tbls⟩,⟨_,hn',λj y v' e1 e2 e3=>?_⟩,λy c e=>?_,I1.free,I1.freeC,λp hp=>?_,λb ob e=>?_,by simpa using I1.len⟩
 ·exact(hs.2 b (ZM (Zp (Zt e) I.ok.above))).trans (I1.base.keep b o e n hb hx)
 ·obtain⟨sl,e1⟩:=I1.base.slot b o e n hb hx;exact⟨sl,(hs.2 b (ZM (Zp (Zt e) I.ok.above))).trans e1⟩
 ·obtain⟨o',e1⟩:=I1.base.there b o e hx;exact⟨o',(hs.2 b (ZM (Zp (Zt e) I.ok.above))).trans e1⟩
 ·by_cases hj:j=i
  ·subst hj;rw[Zn hiσ]at e2;cases e2
  ·rw[Zd (Ne.symm hj)]at e2;have e2':(σ.set i (some V.non))[j]? =some (some v'):=by rw[Zd (Ne.symm hj)];exact e2
   obtain⟨u1,r1,q1⟩:=hl j y v' e1 e2' e3;refine⟨u1,r1,?_⟩;rcases q1 with⟨k,e⟩ | ⟨k,c,e,z⟩
   ·refine .inl ⟨k,?_⟩;have:y≠x:=λe=>hj (Qk2 hN e1 (e▸hi));simp[this,e]
   ·exact .inr ⟨k,c,e,z.sameBut hs (cne y c e)⟩
 ·obtain⟨w',z⟩:=I1.cell y c e;exact⟨w',z.sameBut hs (cne y c e)⟩
 ·obtain⟨e,n,ne,nf,d⟩:=I1.pin p hp;exact⟨(hs.2 p.1 ne).trans e,n,ne,nf,d⟩
 ·refine(I1.hok b ob e).QgP (λc w' hc q=>(hs.2 c ?_).trans q) (λ_ q=>q) λ_ _ q=>q;rintro rfl;have hfree:=I1.free;rcases hc with rfl | hc
  ·rw[hfree]at e;cases e
  ·rw[hfree]at hc;cases hc
end
noncomputable abbrev inH(X:Cx)(ea:Addr):Cx:={X with A:=X.A.mark (some (.ref ea)),calm:=false,xe:=λ_ _=>False}
def Fly(X:Cx)(pins:List (Addr×Obj))(H:Hp)(ea C:Addr)(s:Shared):Prop:=∃B a0,Heap.FlyingW B X.stack ea (.ref C) a0 s.heap/\Cov H B/\(∀b o,X.s₀.heap.get? b=some o->b∉X.fs->∃o',B.get? b=some o')/\∀p∈X.pn++pins,∃o,B.get? p.1=some o
section
variable {X:Cx}{pins:List (Addr×Obj)}{σ:L2.St}{H:Hp}{s s':Shared}{B:Heap}{ea C:Addr}
theorem _root_.L2.Inv.inH(I:Inv X pins σ H s):Inv (HS.inH X ea) pins σ H s:=
 ⟨⟨I.ok.mod,I.ok.kind,I.ok.glob,I.ok.blt,I.ok.above,I.ok.inj,I.ok.has,I.ok.cab,λz=>(by cases z),I.ok.frames,I.ok.stk,I.ok.exf,I.ok.bs,I.ok.bsz,I.ok.noex,I.ok.exfs,I.ok.Qet,I.ok.frf⟩,I.os,I.bare,I.base,I.loc,I.cell,I.free,I.freeC,I.pin,I.hok,I.len⟩
theorem _root_.L2.Inv.QgT(ok:X.Ok)(I:Inv (HS.inH X ea) pins σ H s):Inv X pins σ H s:=⟨ok,I.os,I.bare,I.base,I.loc,I.cell,I.free,I.freeC,I.pin,I.hok,I.len⟩
theorem QqI{E:Value->Shared->Prop}{Qk:Shared->Prop}{H0:Hp}{A0:LAd}{hs:List (V×D×List Addr)}{U:En}(T:QhI X H0 A0 hs U (.ref C) ea s')(hx:X.ex=[])(hst:X.stack=X.env::X.outer)(hf:X.env.frame=some X.env.locals)
  (k:∀pins σ H F s'',Rel X.K H0 A0 hs U F σ H->Inv X pins σ H s''->Fly X pins H ea C s''->Qk s''):
  wpAny (model X.prog X.w) X.A (noteFrame (.ref ea) X.env) (λ_ s₂=>wpAny (model X.prog X.w) X.A (setFlight (.ref ea) none) (λ_ s₃=>Qk s₃) E s₂) E s':=by
 obtain⟨pins,σ,H,F,rel,⟨sg,args,I,hm,ho,hg⟩ | ⟨B,a0,I,fl,cov,old,pb⟩⟩:=T
 ·obtain⟨B,b1,b2,cov,old,pb⟩:=Qo9 I hx;have hfr:=I.ok.frames;rw[hst]at hfr b2;obtain⟨t,he,htn,ht⟩:=hm.there;have fresh:B.get? ea=none:=by
   cases q:B.get? ea with
   | none=>rfl
   | some o=>have:=b1 _ _ q;rw[hm.new]at this;cases this
  have note:∀Q:Unit->Shared->Prop,(∀h',Heap.NotedW B (X.env::X.outer) ea (.ref C) (.ref t) (rawInt X.env.locals) s'.heap h'->Q () {s' with heap:=h'})->wpAny (model X.prog X.w) X.A (noteFrame (.ref ea) X.env) Q E s':=λQ hq=>by
   unfold noteFrame;simp only[hf];refine wpAny_bind (wpAny_field (x:= .none) he rfl rfl ?_);rw[if_neg (by decide)];exact wpAny_entryW (a0:= .ref t) hfr (b2.of_keeps λb o hb _=>⟨o,hm.keeps b o hb,rfl⟩) hf he (λb o hb=>hm.keeps b o (b1 b o hb)) fresh rfl (by show 1<6;decide) rfl hq
  refine note _ λh1 Z=>?_;obtain⟨n1,n2,n3,n4⟩:=Z;refine wpAny_landsW (s:={s' with heap:=h1}) (L:=X.env.locals) ⟨n1,fresh,n2,n3⟩ λh2 fl up=>?_;have up':sg.heap.UpToSlots h2:=((Heap.UpToSlots.of_keeps hm.keeps).trans n4).trans up;refine k pins σ H F _ rel (QlE I ho (by show AllBare s'.gens;rw[hg];exact I.bare) hx b1 fl.1 up' cov old pb) ⟨B,_,by rw[hst];exact fl,cov,old,pb⟩
 ·have hfr:=I.ok.frames;rw[hst]at hfr fl;refine wpAny_looks_onW hfr hf fl λh1 hd up1=>?_;refine wpAny_landsW (s:={s' with heap:=h1}) hd λh2 fl2 up2=>?_;exact k pins σ H F _ rel (QlE I rfl I.bare hx fl.1 fl2.1 (up1.trans up2) cov old pb) ⟨B,a0,by rw[hst];exact fl2,cov,old,pb⟩
def Qsm(K:Fgg)(sub:Str->Str->Option Bool):Prop:=∀x y b,sub x y=some b->∃C c,ClsAt K x C/\PySem.W.KtsName K y c/\PySem.W.exmOne K (.ref C) c=some b
theorem QuA{E:Value->Shared->Prop}{y:Str}{c:Value}{np:Pos}{Q:Value->Shared->Prop}(I:Inv X pins σ H s)(hg:Gl X y)(hdb:(y == ("__debug__" :Str))=false)(k:PySem.W.KtsName X.K y c)(h:Q c s):wpAny (model X.prog X.w) X.A (eval (.Name y np) X.env) Q E s:=by
 rcases k with k | ⟨k1,k2,k3⟩
 ·exact QfI I hg (Zbh I.ok.mod.kin I.ok.mod.glob k) h hdb
 ·exact Qdx I hg (PySem.W.mg_none_of I.ok.mod.kin I.ok.mod.glob k1) k2 h k3 hdb
theorem QiX{K:Fgg}{x:Str}{C C':Addr}(a:ClsAt K x C)(b:ClsAt K x C'):C=C':=by
 unfold ClsAt at a b;rw[a]at b;exact Value.ref.inj (Option.some.inj (Option.some.inj b))
theorem Rel.QmT{K:Fgg}{H0:Hp}{A0:LAd}{hs:List (V×D×List Addr)}{U:En}{F:Nat->List Addr}{i:Nat}(r:Rel K H0 A0 hs U F σ H):Rel K H0 A0 hs (U.set i none) F (σ.set i none) H:=by
 have w:=r.weak (QcV (U:=U) i);refine⟨by simpa using r.len,λj d b e=>?_,w.own,w.src,w.held,w.same⟩;obtain⟨v,h1,h2⟩:=w.val j d b e;refine⟨v,?_,h2⟩;by_cases hj:i=j
 ·subst hj;exfalso;by_cases hl:i<U.length
  ·rw[Zn hl]at e;cases e
  ·rw[Zu (by simp;omega)]at e;cases e
 ·rw[Zd hj];exact h1
noncomputable def QAx(i:Nat):Out->Out
 | .nx U=> .nx (U.set i none)
 | .bk U=> .bk (U.set i none)
 | .ct U=> .ct (U.set i none)
 | .rt d fr=> .rt d fr
noncomputable abbrev Hd:=Str×Option Nat×DS
noncomputable def Qlr(sub:Str->Str->Option Bool)(x:Str)(U:En):List Hd->Option Out
 | []=>none
 | h::r=>(sub x h.1).bind λb=>if b=true then(match h.2.1 with
  | none=>h.2.2 U
  | some i=>(h.2.2 (U.set i (some (.exc x,true)))).map (QAx i))else Qlr sub x U r
noncomputable def QeM(f:DS)(fx:DX)(sub:Str->Str->Option Bool)(hl:List Hd):DS:=λU=>match f U with
 | some o=>some o
 | none=>(fx U).bind λq=>Qlr sub q.1 q.2 hl
inductive Qhi (X:Cx):List ExceptHandler->List Hd->Prop
 | nil:Qhi X [] []
 | bare {y:Str}{np pos:Pos}{b₀:Stmt}{suite:List Stmt}{r:List ExceptHandler}{hr:List Hd}{f:DS}(hg:Gl X y) (hdb:(y == ("__debug__" :Str))=false) (hS:∀ea,SS (inH X ea) (b₀::suite) f) (t:Qhi X r hr):
   Qhi X (.ExceptHandler (some (.Name y np)) none (b₀::suite) pos::r) ((y,none,f)::hr)
 | as {y n:Str}{np pos:Pos}{b₀:Stmt}{suite:List Stmt}{r:List ExceptHandler}{hr:List Hd}{f:DS}{i:Nat}(hg:Gl X y) (hdb:(y == ("__debug__" :Str))=false) (hi:X.N[i]? =some n) (hl:X.env.scope.names.lookup n=some .local) (hS:∀ea,SS (inH X ea) (b₀::suite) f) (t:Qhi X r hr):
   Qhi X (.ExceptHandler (some (.Name y np)) (some n) (b₀::suite) pos::r) ((y,some i,f)::hr)
theorem _root_.L2.SP.QgT{Dd:Ends}{f:Flow}(ok:X.Ok)(h:SP (HS.inH X ea) pins Dd f s):SP X pins Dd f s:=by
 cases f with
 | next=>obtain⟨σ',H',I,q⟩:=h;exact⟨σ',H',I.QgT ok,q⟩
 | brk=>obtain⟨σ',H',I,q⟩:=h;exact⟨σ',H',I.QgT ok,q⟩
 | cont=>obtain⟨σ',H',I,q⟩:=h;exact⟨σ',H',I.QgT ok,q⟩
 | ret u=>obtain⟨v,σ',H',I,r,q⟩:=h;exact⟨v,σ',H',I.QgT ok,r,q⟩
theorem Qtu{sub:Str->Str->Option Bool}{x:Str}{H0:Hp}{A0:LAd}{hs:List (V×D×List Addr)}{U:En}{Dd:Ends}{o:Out}(hN:X.N.Nodup)(hx:X.ex=[])(hsub:Qsm X.K sub)(hC:ClsAt X.K x C):
  ∀{hds:List ExceptHandler}{hl:List Hd},Qhi X hds hl->∀{F:Nat->List Addr}{σ:L2.St}{H:Hp}{s:Shared},Inv X pins σ H s->Rel X.K H0 A0 hs U F σ H->Fly X pins H ea C s->Qlr sub x U hl=some o->Fits X.K H0 A0 hs Dd o→
   wpAny (model X.prog X.w) X.A (handleBy (.ref ea) X.env hds) (SP X pins Dd) X.xe s:=by
 intro hds hl h
 have test:∀{y:Str}{np pos:Pos}{nm:Option Str}{b₀:Stmt}{suite:List Stmt}{r:List ExceptHandler}{b:Bool}{σ:L2.St}{H:Hp}{s:Shared},Gl X y->(y == ("__debug__" :Str))=false->sub x y=some b->Inv X pins σ H s->Fly X pins H ea C s→
   (b=true->codeAny (model X.prog X.w) (X.A.mark (some (.ref ea))) (.handlers (.ref ea) [.ExceptHandler none nm (b₀::suite) pos] X.env) (λr s₂=>match r with
     | .ok f=>(match nm with
      | none=>SP X pins Dd f s₂
      | some n=>wpAny (model X.prog X.w) X.A (do bindName X.env n .none;unbindBehindTheSuite X.env n pos) (λ_ s₃=>SP X pins Dd f s₃) X.xe s₂)
     | .error x=>cameBackBy (model X.prog X.w) X.A X.env X.xe x s₂) s)→
   (b=false->wpAny (model X.prog X.w) X.A (handleBy (.ref ea) X.env r) (SP X pins Dd) X.xe s)->wpAny (model X.prog X.w) X.A (handleBy (.ref ea) X.env (.ExceptHandler (some (.Name y np)) nm (b₀::suite) pos::r)) (SP X pins Dd) X.xe s:=by
  intro y np pos nm b₀ suite r b σ H s hg hdb e1 I fly ht hf;obtain⟨C',c,k1,k2,k3⟩:=hsub x y b e1;cases QiX hC k1;obtain⟨B,a0,fl,_⟩:=fly;obtain⟨ob,hob,hc⟩:=fl.there;have LT:PySem.W.Looks (model X.prog X.w) s.heap (typeOf (.ref ea)) (.ref C):=hc▸(PySem.W.Looks.ld hob).andThen .now;refine wpAny_handleBy_cons (codeAny_handlers_test (QuA (X:=HS.inH X ea) (I.inH (ea:=ea)) hg hdb k2 ((PySem.W.exm_one I.kIn LT k3).here ?_))) (by intro q;cases q);cases b with
  | true=>exact ht rfl
  | false=>exact hf rfl
 induction h with
 | nil=>intro F σ H s I rel fly e q;cases e
 | @bare y np pos b₀ suite r hr f hg hdb hS t ih=>
  intro F σ H s I rel fly e q;refine Qg e λb e1 e=>?_;refine test hg hdb e1 I fly (λhb=>?_) λhb=>?_
  ·subst hb;rw[if_pos rfl]at e;obtain⟨B,a0,fl,cov,old,pb⟩:=fly;refine codeAny_handlers_suite (lands_againW fl λh' fl' up=>?_);have I1:=QlE (s':={s with heap:=h'}) I rfl I.bare hx fl.1 fl'.1 up cov old pb;exact wpAny_mono (hS ea H0 A0 pins _ σ H Dd (I1.inH (ea:=ea)) ⟨U,hs,F,o,rel,e,q⟩) (λf s2 hq=>SP.QgT I.ok hq) λ_ _ z=>z.elim
  ·subst hb;rw[if_neg Zah]at e;exact ih I rel fly e q
 | @as y n np pos b₀ suite r hr f i hg hdb hi hl hS t ih=>
  intro F σ H s I rel fly e q;refine Qg e λb e1 e=>?_;refine test hg hdb e1 I fly (λhb=>?_) λhb=>?_
  ·subst hb;rw[if_pos rfl]at e;obtain⟨o1,e2,e3⟩:=Zh.mp e;subst e3;obtain⟨B,a0,fl,cov,old,pb⟩:=fly;refine codeAny_handlers_suite_as (lands_againW fl λh' fl' up=>?_);have I1:=QlE (s':={s with heap:=h'}) I rfl I.bare hx fl.1 fl'.1 up cov old pb;obtain⟨hn,I2⟩:=Qx0 I1 hx fl' cov old pb;have sm:QS H (upd H ea (.ext (QdI ea C))):=λb u eb=>by rw[QR (λz=>by rw[z,hn]at eb;cases eb)];exact eb
   refine QhJ (X:=HS.inH X ea) (v:= .ref ea) (I2.inH (ea:=ea)) hN hi (.inl hl) rfl (λs3 I3=>?_) (.inr hl);obtain⟨F',rel'⟩:=(rel.ext sm).QDi (i:=i) (d:= .exc x) (v:= .ref ea) (by rw[Rp];exact⟨⟨ea,rfl,C,hC,Qaa⟩,rfl⟩) rfl;refine wpAny_mono (hS ea H0 A0 pins _ _ _ ⟨λσ' H'=>Dd.nx (σ'.set i none) H',Dd.rt,λσ' H'=>Dd.bk (σ'.set i none) H',λσ' H'=>Dd.ct (σ'.set i none) H'⟩ I3 ⟨_,hs,F',o1,rel',e2,?_⟩) (λf s4 hq=>?_) λ_ _ z=>z.elim
   ·cases o1 with
    | nx U1=>exact λσ' H' F' rel'=>q _ _ _ rel'.QmT
    | bk U1=>exact λσ' H' F' rel'=>q _ _ _ rel'.QmT
    | ct U1=>exact λσ' H' F' rel'=>q _ _ _ rel'.QmT
    | rt d fr=>exact q
   ·cases f with
    | next=>obtain⟨σ',H',I4,q4⟩:=hq;exact QlO (I4.QgT I.ok) hN hi hl λs5 I5=>⟨_,H',I5,q4⟩
    | brk=>obtain⟨σ',H',I4,q4⟩:=hq;exact QlO (I4.QgT I.ok) hN hi hl λs5 I5=>⟨_,H',I5,q4⟩
    | cont=>obtain⟨σ',H',I4,q4⟩:=hq;exact QlO (I4.QgT I.ok) hN hi hl λs5 I5=>⟨_,H',I5,q4⟩
    | ret u=>obtain⟨v,σ',H',I4,r4,q4⟩:=hq;exact QlO (I4.QgT I.ok) hN hi hl λs5 I5=>⟨v,_,H',I5,r4,q4⟩
  ·subst hb;rw[if_neg Zah]at e;exact ih I rel fly e q
noncomputable abbrev Cx.chg(X:Cx)(xe:Value->Shared->Prop)(pn:List (Addr×Obj)):Cx:={X with xe:=xe,pn:=pn}
theorem _root_.L2.Inv.chg{xe:Value->Shared->Prop}(I:Inv X pins σ H s):Inv (Cx.chg X xe (X.pn++pins)) [] σ H s:=
 ⟨⟨I.ok.mod,I.ok.kind,I.ok.glob,I.ok.blt,I.ok.above,I.ok.inj,I.ok.has,I.ok.cab,I.ok.hd,I.ok.frames,I.ok.stk,I.ok.exf,I.ok.bs,I.ok.bsz,I.ok.noex,I.ok.exfs,I.ok.Qet,I.ok.frf⟩,I.os,I.bare,I.base,I.loc,I.cell,I.free,I.freeC,λp hp=>I.pin p (by simpa using hp),I.hok,I.len⟩
theorem _root_.L2.Inv.QlY{xe:Value->Shared->Prop}{pins':List (Addr×Obj)}(ok:X.Ok)(I:Inv (Cx.chg X xe (X.pn++pins)) pins' σ H s):Inv X pins σ H s:=
 ⟨ok,I.os,I.bare,I.base,I.loc,I.cell,I.free,I.freeC,λp hp=>I.pin p (Zf _ hp),I.hok,I.len⟩
theorem QA6{sub:Str->Str->Option Bool}{body:List Stmt}{h₀:ExceptHandler}{hds:List ExceptHandler}{hl:List Hd}{f:DS}{fx:DX}{pos:Pos}(hN:X.N.Nodup)(hx:X.ex=[])(hst:X.stack=X.env::X.outer)(hf:X.env.frame=some X.env.locals)(hsub:Qsm X.K sub)
  (hb:∀xe pn,PassesOwn (model X.prog X.w) X.A X.env xe->SS (Cx.chg X xe pn) body f/\RzS (Cx.chg X xe pn) body fx) (hh:Qhi X (h₀::hds) hl):S1 X (.Try body (h₀::hds) [] [] pos) (QeM f fx sub hl):=λH0 A0 pins s σ H Dd I=>exK λU hs F o rel e q=>by
 refine wpAny_Try_except ?_;have pass:PassesOwn (model X.prog X.w) X.A X.env (λe s₁=>wpAny (model X.prog X.w) X.A (noteFrame e X.env) (λ_ s₂=>wpAny (model X.prog X.w) X.A (setFlight e none) (λ_ s₃=>wpAny (model X.prog X.w) X.A (handleBy e X.env (h₀::hds)) (SP X pins Dd) X.xe s₃) X.xe s₂) X.xe s₁):=PassesOwn.looking;obtain⟨b1,b2⟩:=hb _ (X.pn++pins) pass;unfold QeM at e;split at e
 ·rename_i o' eo;cases e;refine thn (b1 H0 A0 [] s σ H Dd I.chg ⟨U,hs,F,o,rel,eo,q⟩) λfl s1 hq=>?_;cases fl with
  | next=>obtain⟨σ',H',I1,q1⟩:=hq;exact wpAny_execs_nil ⟨σ',H',I1.QlY I.ok,q1⟩
  | brk=>obtain⟨σ',H',I1,q1⟩:=hq;exact⟨σ',H',I1.QlY I.ok,q1⟩
  | cont=>obtain⟨σ',H',I1,q1⟩:=hq;exact⟨σ',H',I1.QlY I.ok,q1⟩
  | ret u=>obtain⟨v,σ',H',I1,r1,q1⟩:=hq;exact⟨v,σ',H',I1.QlY I.ok,r1,q1⟩
 ·obtain⟨⟨x,U'⟩,e1,e⟩:=bind1 e;refine thn (b2 H0 A0 [] s σ H ⟨λ_ _=>False,λ_ _=>False,λ_ _=>False,λ_ _=>False⟩ I.chg ⟨U,hs,F,x,U',rel,e1,λC ea s' hC T=>?_⟩) λfl s1 hq=>?_
  ·refine QqI (X:=Cx.chg X _ (X.pn++pins)) (E:=X.xe) (Qk:=λs₃=>wpAny (model X.prog X.w) X.A (handleBy (.ref ea) X.env (h₀::hds)) (SP X pins Dd) X.xe s₃) T hx hst hf λpins' σ' H' F' s'' rel' I' fly=>?_;obtain⟨B,a0,fl,cov,old,pb⟩:=fly;exact Qtu hN hx hsub hC hh (I'.QlY I.ok) rel' ⟨B,a0,fl,cov,old,λp hp=>pb p (Zf _ hp)⟩ e q
  ·cases fl with
   | next=>obtain⟨σ',H',I1,q1⟩:=hq;exact q1.elim
   | brk=>obtain⟨σ',H',I1,q1⟩:=hq;exact q1.elim
   | cont=>obtain⟨σ',H',I1,q1⟩:=hq;exact q1.elim
   | ret u=>obtain⟨v,σ',H',I1,r1,q1⟩:=hq;exact q1.elim
end
end HS
namespace HS
open PySem PySem.Spec L2 PyProof.Rows PySem.W
structure Qil (K:Frag) (C:Addr):Prop where
 cl:(clsIn K C).isSome=true
 ga:findIn K (.ref C) "__getattribute__" =some (some (.builtin "BaseException.__getattribute__"))
 hk:findIn K (.ref C) "__getattr__" =some none
 ca:findIn K (.ref C) "__class__" =some (some (.builtin "object.__class__"))
 mo:mroIn K C (.type "object")=some true
 be:subIn K (.ref C) (.type "BaseException")=some true
section
variable {prog:Program}{w:World}{A:Around}{E:Value->Shared->Prop}{s:Shared}{K:Frag}{a C:Addr}
theorem Qi2{M:Model}{h:Heap}(x:QdI a C h):Looks M h (typeOf (.ref a)) (.ref C):=by
 obtain⟨o,vs,e,c,_⟩:=x;exact c▸(Looks.ld e).andThen .now
theorem Qya{R:Result->Shared->Prop}{tp:Value}(z:Qil K C)(X:K.In s.heap)(x:QdI a C s.heap)(h:R (.ok (.ret (.ref C))) s):
  codeAny (model prog w) A (.call (.builtin "getset_descriptor.__get__") ⟨[.builtin "object.__class__",.ref a,tp],[]⟩) R s:=by
 obtain⟨hh,g,dr,t,os⟩:=s;have T0:=Qi2 (M:=model prog w) x;have T1:=looks_mroIn (M:=model prog w) X z.mo
 refine codeAny_call_builtin KF.slot_gs.plain KF.entry_gs
  (KF.slot_gs.check _ _ _ _ _ _ _ _ KF.type_class (KF.args_gs _ _ _) ?_)
 unfold Builtin.«getset_descriptor.__get__» Builtin.Getset_descriptor.descrGet;rw[dga_obj];refine wpAny_bind (wpAny_pure ?_)
 unfold Builtin.Getset_descriptor.descrGetter Builtin.Getset_descriptor.descrCheckInstance
  Builtin.Getset_descriptor.descrNameAndClass isInstance
 simp only[KF.owner_class]
 repeat lk
 refine⟨Code.quiet_builtin _ (by decide+kernel),
  codeAny_builtin KF.entry_class ?_⟩
 unfold Builtin.«object.__class__» shownTypeOf;repeat lk
 exact h
theorem Quf{tk:Tok}{Q:Fin->Shared->Prop}(z:Qil K C)(X:K.In s.heap)(x:QdI a C s.heap)(h:Q (.done (.ret (.ref C))) s):
  wpAny (model prog w) A (Builtin.«object.__getattribute__» ⟨[.ref a,.str "__class__" tk],[]⟩) Q E s:=by
 obtain⟨hh,g,dr,t,os⟩:=s;have T0:=Qi2 (M:=model prog w) x;have T1:=looks_findIn (M:=model prog w) X z.ca;have f5:=F.typeOf_object_class;have f6:=F.slot_gs_get.lookup;have f7:=F.slot_gs_set.lookup;obtain⟨o,vs,hx,hc,hd⟩:=id x;have hT5:(⟨hh,g,dr,t,os⟩:Shared).TypeIs (.builtin "object.__class__") "getset_descriptor" :=f5
 repeat (any_goals (first | assumption | (with_reducible refine wpAny_loadPart_at hx ?_;rw[hc]) | with_reducible refine T1.at ?_ | wp_step))
 refine Qya z X x ?_
 repeat (any_goals (first | assumption | wp_step))
theorem QtN{M:Model}{nameV:Value}{Q:Unit->Shared->Prop}(z:Qil K C)(X:K.In s.heap)(x:QdI a C s.heap)(h:Q () s):wpAny M A (checkBuiltinCall "BaseException.__getattribute__" ⟨[.ref a,nameV],[]⟩) Q E s:=by
 obtain⟨hh,g,dr,t,os⟩:=s;have k1:builtinKind "BaseException.__getattribute__" =some .slot:=by decide+kernel
 have k2:splitId "BaseException.__getattribute__" =some ("BaseException","__getattribute__"):=by decide+kernel
 have T0:=Qi2 (M:=M) x;have T1:=looks_subIn (M:=M) X z.be;have T2:Looks M hh (isInstance (.ref a) (.type "BaseException")) true:=T0.andThen T1;have k3:=F.args_bexc_ga (.ref a) nameV;simp only[checkBuiltinCall,k1,k2];refine wpAny_bind (T2.at ?_);rw[if_neg (by decide)];have k4:Q () ⟨hh,g,dr,t,os⟩:=h
 repeat (any_goals (first | assumption | wp_step))
theorem QAV{tk:Tok}{Q:Value->Shared->Prop}(z:Qil K C)(X:K.In s.heap)(x:QdI a C s.heap)(h:Q (.ref C) s):wpAny (model prog w) A (getAttrBy (.ref a) (.str "__class__" tk) false) Q E s:=by
 obtain⟨hh,g,dr,t,os⟩:=s;have T0:=Qi2 (M:=model prog w) x;have T1:=looks_findIn (M:=model prog w) X z.ga;have T2:=looks_findIn (M:=model prog w) X z.hk;have f3:=PySem.F.attr_ValueError.ga.bind (.ref a);have n2:(Value.builtin "BaseException.__getattribute__" == Value.builtin "object.__getattribute__")=false:=by decide+kernel
 have n1:(onTheHeap (Value.ref C) && Value.builtin "BaseException.__getattribute__" == Value.builtin "object.__getattribute__")=false:=by rw[n2];rfl
 obtain⟨o,vs,hx,hc,hd⟩:=id x
 repeat (any_goals (first | assumption | (with_reducible refine wpAny_loadPart_at hx ?_;rw[hc]) | with_reducible refine T1.at ?_ | with_reducible refine T2.at ?_ | wp_step))
 refine codeAny_call_builtin PySem.F.attr_ValueError.ga.plain F.entry_bexc_ga (QtN z X x (Quf z X x ?_));have k4:Q (.ref C) ⟨hh,g,dr,t,os⟩:=h
 repeat (any_goals (first | assumption | wp_step))
theorem Qxb{Q:Option Value->Shared->Prop}(z:Qil K C)(X:K.In s.heap)(x:QdI a C s.heap)(h:Q (some (.ref C)) {s with toks:=s.toks+1}):wpAny (model prog w) A (getAttr? (.ref a) "__class__") Q E s:=by
 obtain⟨hh,g,dr,t,os⟩:=s;have k4:Q (some (.ref C)) ⟨hh,g,dr,t+1,os⟩:=h;have X':K.In (⟨hh,g,dr,t+1,os⟩:Shared).heap:=X;have x':QdI a C (⟨hh,g,dr,t+1,os⟩:Shared).heap:=x;unfold getAttr? getAttrBy?
 repeat (any_goals (first | assumption | with_reducible apply QAV z X' x' | wp_step))
theorem Qps(z:Qil K C):KitX K (.ref a) (.ref C) (QdI a C) where
 ty:=λ_ _ _ x=>Qi2 x
 it:=λ_ _ X _=>by
  have h0:=z.cl;unfold clsIn at h0;split at h0
  ·rename_i ho;intro A' Q' E' s' k q;unfold isType loadHead;refine wpAny_bind ?_;exact wpAny_loadPart (k _ _ (X _ _ ho)) (wpAny_pure q)
  ·cases h0
 ne:=λh tp dd its n sl X htp=>by
  have h0:=z.cl;refine Bool.eq_false_iff.mpr λq=>?_;obtain rfl:C=tp:=Value.ref.inj (beq_iff_eq.mp q);unfold clsIn at h0;split at h0
  ·rename_i ho;have e:=X _ _ ho;rw[htp]at e;cases e
  ·cases h0
 ca:=λX x k=>Qxb z X x k
end
end HS
namespace HS
open PySem PySem.Spec L2 PyProof.Rows
def Qyh(K:Fgg)(x y:Str)(b:Bool):Prop:=∃C c,ClsAt K x C/\PySem.W.KtsName K y c/\PySem.W.exmOne K (.ref C) c=some b/\PySem.W.kitOne K (.ref C) c=some b/\Qil K C
def Qck(K:Fgg)(sub:Str->Str->Option Bool):Prop:=∀x y b,sub x y=some b->Qyh K x y b
theorem Qck.ok{K:Fgg}{sub:Str->Str->Option Bool}(h:Qck K sub):Qsm K sub:=λx y b e=>by
 obtain⟨C,c,h1,h2,h3,_⟩:=h x y b e;exact⟨C,c,h1,h2,h3⟩
noncomputable def vC:Value->V
 | .ref a=> .ref a
 | .type n=> .ty n
 | _=> .non
theorem QuT{K:Fgg}{C:Addr}{c:Value}{b:Bool}(h:PySem.W.kitOne K (.ref C) c=some b):RelV (vC c) c:=by
 cases c with
 | ref a=>exact rfl
 | type n=>exact rfl
 | _=>
  unfold PySem.W.kitOne at h;split at h
  ·rename_i q;have:=beq_iff_eq.mp q;cases this
  ·cases h
noncomputable def anyS(sub:Str->Str->Option Bool)(x:Str):List Str->Option Bool
 | []=>some false
 | y::r=>(sub x y).bind λb=>(anyS sub x r).map λd=>b || d
noncomputable def QhN(sub:Str->Str->Option Bool)(ys:List Str)(fa:DE):DE:=λU=>(fa U).bind λr=>match r.d with
 | .exc x=>(anyS sub x ys).map λb=>⟨.bl b,true,[]⟩
 | _=>none
section
variable {X:Cx}{a:Expr}{fa:DE}{p p2 pos:Pos}{sub:Str->Str->Option Bool}
noncomputable def QDy(K:Fgg):List V->Hp->VK->Prop:=λxs H Q=>∃C a y,xs=[.ref a,y]/\H a=some (.ext (QdI a C))/\Qil K C∧
 ((∃c b,y=vC c/\PySem.W.kitOne K (.ref C) c=some b/\Q (.bl b) H)∨∃tp cs b,y= .ref tp/\H tp=some (.tup (cs.map vC))/\(∀c∈cs,RelV (vC c) c)/\PySem.W.kitAny K (.ref C) cs=some b/\Q (.bl b) H)
theorem QoX{v:V}{c c':Value}(hv:v=vC c)(h:RelV (vC c) c)(h':RelV v c'):c'=c:=by
 subst hv;cases c with
 | ref a=>exact h'
 | type n=>exact h'
 | none=>cases h';rfl
 | _=>cases h
theorem QpR:∀{cs:List Value}{us:List Value},(∀c∈cs,RelV (vC c) c)->QM (cs.map vC) us->us=cs
 | [],_,_,.nil=>rfl
 | c::cs,_,h,.cons r t=>by
  rw[QoX rfl (h c Zl) r,QpR (λc hc=>h c (Zc _ hc)) t]
theorem Qw8:QcT X (.builtin "isinstance") (QDy X.K):=by
 intro pins s σ H xs us Q I r h;obtain⟨C,a,y,rfl,hH,z,h⟩:=h;obtain⟨u,w,rfl,ru,rw'⟩:=vals2 r;cases(show u=Value.ref a from ru);have xo:QdI a C s.heap:=(show Qb6 X.prog X.w H s.heap a (.ext (QdI a C))from I.hok a _ hH).1;rcases h with⟨c,b,rfl,k,q⟩ | ⟨tp,cs,b,rfl,ht,hr,k,q⟩
 ·cases QoX rfl (QuT k) rw';exact ZaQ (Qps z) I.kIn xo k (λz=>nomatch z) λtk=>⟨.bl b,H,I.tok _,rfl,q⟩
 ·cases(show w=Value.ref tp from rw');obtain⟨_,its,rv,o,e1,e2,n,e3⟩:=(show Qb6 X.prog X.w H s.heap tp (.tup (cs.map vC))from I.hok tp _ ht);have hits:=QpR hr rv;subst hits;obtain⟨oc,od,odat,osl⟩:=o;dsimp only at e2 e3;subst e2 e3;exact PySem.W.kia_tup (Qps z) I.kIn xo e1 k (λz=>nomatch z) λtk=>⟨.bl b,H,I.tok _,rfl,q⟩
theorem QAh{y:Str}{c:Value}{np:Pos}(hg:Gl X y)(hdb:(y == ("__debug__" :Str))=false)(k:PySem.W.KtsName X.K y c)(hr:RelV (vC c) c):PE X (.Name y np) (tC (vC c)):=λpins s σ H Q I h=>QuA I hg hdb k ⟨vC c,H,I,hr,h⟩
theorem QxM{y:Str}(hsub:Qck X.K sub)(hg:Gl X "isinstance")(hm:X.mg "isinstance" =none)(hy:Gl X y)(hdb:(y == ("__debug__" :Str))=false)(ha:SE X a fa)(he:starEach [a,.Name y p2] X.env=(false,eval a X.env)::starEach [.Name y p2] X.env):
  SE X (.Call (.Name "isinstance" p) [a,.Name y p2] [] pos) (QhN sub [y] fa):=λH0 A0 pins s σ H Q I=>exK λU hs F r' rel e q=>by
 refine Qg e λr e1 e=>?_;split at e
 ·rename_i x hd;obtain⟨b,eb,rfl⟩:=Zh.mp e;have eb':sub x y=some b:=by
   unfold anyS at eb;refine Qg eb λb' h1 h2=>?_;cases b' with
   | true=>cases h2;exact h1
   | false=>cases h2;exact h1
  obtain⟨C,c,k1,k2,k3,k4,k5⟩:=hsub x y b eb';refine QkG Qw8 hg hm ZbF (Qap (ha H0 A0) (Qap (QAh hy hdb k2 (QuT k4)) Qc1) he) (by decide) (by decide) he (by rfl) pins s σ H Q I ?_;refine⟨U,hs,F,r,rel,e1,λv H1 G p=>?_⟩;have rp:=p.rp;rw[hd,Rp]at rp;obtain⟨⟨ea,rfl,C',hC',hH⟩,rfl⟩:=rp;cases QiX k1 hC';exact⟨C,ea,_,rfl,hH,k5,.inl ⟨c,b,rfl,k4,q _ H1 [] (.flat p.same .Qec)⟩⟩
 ·cases e
end
def QgZ(X:Cx)(hΓ:List (Str×FnR)):Prop:=True
theorem QgZ.inH{X:Cx}{hΓ:List (Str×FnR)}{ea:Addr}(h:QgZ X hΓ):QgZ (HS.inH X ea) hΓ:=h
def Qm0(P:Program)(w:World)(K:Fgg)(mg:Str->Option Value)(base:Heap)(k:Nat)(Γ:List (Str×FnR)):Prop:=True
theorem Qm0.nil{P:Program}{w:World}{K:Fgg}{mg:Str->Option Value}{base:Heap}{k:Nat}:Qm0 P w K mg base k []:=trivial
theorem QCo{X:Cx}{hΓ:List (Str×FnR)}{k:Nat}(hr:Qbx k X.A)(t:Qm0 X.prog X.w X.K X.mg X.base k hΓ):QgZ X hΓ:=trivial
noncomputable def QAT:Const->Option DE
 | .bool b=>some (dC (.bl b))
 | .str x=>some (dC (.str x))
 | _=>none
noncomputable def eqH:CmpOp->Option (D->D->Option D)
 | .Eq=>some gEq
 | .NotEq=>some gNe
 | _=>none
noncomputable def QDA:List Expr->Option (Expr×Expr)
 | [a,y]=>some (a,y)
 | _=>none
noncomputable def Qzy(Y:Th):Expr->Option (List Str)
 | .Name y _=>if Y.gl y=true then some [y]else none
 | _=>none
mutual
noncomputable def QdE(n:Nat)(Y:Th)(sub:Str->Str->Option Bool)(hΓ:List (Str×FnR))(e:Expr):Option DE:=match n with
 | 0=>none
 | n+1=>match e with
  | .Name x _=>(Y.slot x).map Ql
  | .Constant v _ _=>QAT v
  | .UnaryOp o a _=>match o with
   | .Not=>(QdE n Y sub hΓ a).map QmX
   | _=>none
  | .BoolOp o es p=>match es with
   | []=>none
   | a::r=>match r with
    | []=>QdE n Y sub hΓ a
    | b::r=>match o with
     | .And=>(QdE n Y sub hΓ a).bind λfa=>(QdE n Y sub hΓ (.BoolOp .And (b::r) p)).map λfb=>QcY fa fb
     | .Or=>none
  | .Compare a os bs _=>match os with
   | []=>none
   | o::os=>match os with
    | _::_=>none
    | []=>match bs with
     | []=>none
     | b::bs=>match bs with
      | _::_=>none
      | []=>(eqH o).bind λg=>(QdE n Y sub hΓ a).bind λfa=>(QdE n Y sub hΓ b).map λfb=>dOp g fa fb
  | .Call f as kw _=>match kw with
   | _::_=>none
   | []=>(QbR f).bind λx=>if Y.gl x=true then if x= "isinstance" then(QDA as).bind λp=>(Qzy Y p.2).bind λys=>(QdE n Y sub hΓ p.1).map λfa=>QhN sub ys fa
    else none
    else none
  | _=>none
end
theorem QBH{n:Nat}{Y:Th}{sub:Str->Str->Option Bool}{hΓ:List (Str×FnR)}{e:Expr}{f:DE}(h:QdE n Y sub hΓ e=some f)(es:List Expr)(env:Env):starEach (e::es) env=(false,eval e env)::starEach es env:=by
 cases n with
 | zero=>exact nn h
 | succ n=>cases e<;>first | rfl | exact nn h
theorem Qxq{n:Nat}{Y:Th}{sub:Str->Str->Option Bool}{hΓ:List (Str×FnR)}{e:Expr}{f:DE}(h:QdE n Y sub hΓ e=some f)(op:CmpOp):behindInMarks op e=false:=by
 cases n with
 | zero=>exact nn h
 | succ n=>cases e<;>first | (cases op<;>rfl) | exact nn h
theorem QDz{X:Cx}{Y:Th}{sub:Str->Str->Option Bool}{a e:Expr}{fa:DE}{ys:List Str}{p pos:Pos}(ok:CtxB X Y)(hs:Qck X.K sub)(g1:Y.gl "isinstance" =true)(h:Qzy Y e=some ys)(ha:SE X a fa)(he:starEach [a,e] X.env=(false,eval a X.env)::starEach [e] X.env):SE X (.Call (.Name "isinstance" p) [a,e] [] pos) (QhN sub ys fa):=by
 obtain⟨a1,a2,a3⟩:=Qer ok g1;cases e with
 | Name y p2=>
  change(if Y.gl y=true then some [y]else none)=some ys at h;split at h
  ·rename_i g2;cases h;obtain⟨b1,b2,b3⟩:=Qer ok g2;exact QxM hs a1 (ok.mg _ (by decide+kernel)) b1 b2 ha he
  ·cases h
 | _=>exact nomatch (show(none:Option (List Str))=some _ from h)
structure QzT (n:Nat):Prop where
 E:∀X Y sub hΓ e f,CtxB X Y->Qck X.K sub->QgZ X hΓ->QdE n Y sub hΓ e=some f->SE X e f
theorem QBa{n:Nat}(ih:QzT n)(X:Cx)(Y:Th)(sub:Str->Str->Option Bool)(hΓ:List (Str×FnR))(e:Expr)(f:DE)(ok:CtxB X Y)(hs:Qck X.K sub)(hu:QgZ X hΓ)(h:QdE (n+1) Y sub hΓ e=some f):SE X e f:=by
 have ihE:=λe f=>ih.E X Y sub hΓ e f ok hs hu;cases e with
 | Name x p=>exact mapR (show Option.map _ _=some _ from h) λi h1=>Qdz (Qaw ok h1)
 | Constant v k p=>
  change QAT v=some f at h;cases v with
  | bool b=>cases h;exact Qlu Qxm (λ_ _=> .Qec) rfl
  | str x=>cases h;exact Qlu QtZ (λ_ _=> .str_mk) rfl
  | _=>exact nn h
 | UnaryOp o a p=>
  cases o with
  | Not=>exact mapR (show Option.map _ _=some _ from h) λfa h1=>Qtf (ihE _ fa h1)
  | _=>exact nn h
 | BoolOp o es p=>
  cases es with
  | nil=>exact nn h
  | cons a r=>
   cases r with
   | nil=>exact QpF (ihE _ f h)
   | cons b r=>
    cases o with
    | And=>exact bindR h λfa fb h1 h2=>QuL (ihE _ fa h1) (ihE _ fb h2)
    | Or=>exact nn h
 | Compare a os bs p=>
  rcases os with _ | ⟨o,_ | ⟨o2,os⟩⟩
  ·exact nn h
  ·rcases bs with _ | ⟨b,_ | ⟨b2,bs⟩⟩
   ·exact nn h
   ·refine Qg (show(eqH o).bind _=some _ from h) λg hg h=>?_;refine bindR h λfa fb h1 h2=>?_;cases o with
    | Eq=>cases hg;exact Qp9 (Qs9 ok.units) Qxn (ihE _ fa h1) (ihE _ fb h2) (Qxq h2 _)
    | NotEq=>cases hg;exact Qp9 (Qub ok.units) Qxt (ihE _ fa h1) (ihE _ fb h2) (Qxq h2 _)
    | _=>exact nomatch (show(none:Option (D->D->Option D))=some _ from hg)
   ·exact nn h
  ·exact nn h
 | Call fn as kw p=>
  cases kw with
  | cons _ _=>exact nn h
  | nil=>
   refine Qg (show(QbR fn).bind _=some _ from h) λx hx h=>QoC (G:=λt=>SE X (.Call t as [] p) f) hx λnp=>?_;split at h
   ·rename_i hg;split at h
    ·rename_i hi;subst hi;refine Qg h λq hq h=>?_;rcases as with _ | ⟨a,_ | ⟨y,_ | ⟨z,as⟩⟩⟩
     ·cases hq
     ·cases hq
     ·cases hq;exact bindR h λys fa h1 h2=>QDz ok hs hg h1 (ihE _ fa h2) (QBH h2 _ _)
     ·cases hq
    ·cases h
   ·cases h
 | _=>exact nn h
theorem Qxe:∀n,QzT n
 | 0=>⟨λ_ _ _ _ _ _ _ _ _ h=>nomatch (show(none:Option DE)=some _ from h)⟩
 | n+1=>⟨QBa (Qxe n)⟩
noncomputable def QuW(Y:Th)(sub:Str->Str->Option Bool)(hΓ:List (Str×FnR))(st:Stmt):Option DS:=match st with
 | .Assign ts e _=>(QvD ts).bind λx=>(Y.QbU x).bind λi=>if QjZ e=false/\Qj4 e=true then(QdE 20 Y sub hΓ e).map λfa=>Qo i fa else none
 | _=>none
theorem QuI{X:Cx}{Y:Th}{sub:Str->Str->Option Bool}{hΓ:List (Str×FnR)}{st:Stmt}{f:DS}(ok:CtxB X Y)(hs:Qck X.K sub)(hu:QgZ X hΓ)(h:QuW Y sub hΓ st=some f):S1 X st f:=by
 cases st with
 | Assign ts e p=>
  refine Qg (show(QvD ts).bind _=some _ from h) λx hx h'=>?_;clear h;rcases ts with _ | ⟨t,_ | ⟨t2,ts⟩⟩
  ·cases hx
  ·refine QoC (G:=λt=>S1 X (.Assign [t] e p) f) hx λq=>?_;refine Qg h' λi hi h=>?_;split at h
   ·rename_i hc;refine mapR h λfa h1=>?_;obtain⟨a1,a2,a3⟩:=QcI ok hi;exact QlC λH0 A0=>Qga (by rw[ok.N];exact ok.nd) a1 a2 ((Qxe 20).E X Y sub hΓ _ fa ok hs hu h1 H0 A0) (QdS hc.2) a3
   ·cases h
  ·cases hx
 | _=>exact nn h
noncomputable def Qp2(Y:Th)(sub:Str->Str->Option Bool)(hΓ:List (Str×FnR)):List Stmt->Option DS
 | []=>some Qh
 | st::r=>(QuW Y sub hΓ st).bind λf=>(Qp2 Y sub hΓ r).map λg=>Qd f g
theorem Qn4{X:Cx}{Y:Th}{sub:Str->Str->Option Bool}{hΓ:List (Str×FnR)}(ok:CtxB X Y)(hs:Qck X.K sub)(hu:QgZ X hΓ):∀(sts:List Stmt) (f:DS),Qp2 Y sub hΓ sts=some f->SS X sts f
 | [],f,h=>by cases(show some Qh=some f from h);exact Quy
 | st::r,f,h=>bindR h λf g h1 h2=>Qrv (QuI ok hs hu h1) (Qn4 ok hs hu r g h2)
noncomputable def hd1(Y:Th)(y:Str)(f:DS):Option Str->Option Hd
 | none=>some (y,none,f)
 | some nm=>if look nm Y.sc=some .local then(Y.QbU nm).map λi=>(y,some i,f)else none
noncomputable def Qo2(Y:Th)(sub:Str->Str->Option Bool)(hΓ:List (Str×FnR)):List ExceptHandler->Option (List Hd)
 | []=>some []
 | .ExceptHandler t nm bs _::r=>match bs with
  | []=>none
  | b::bs=>t.bind λt=>(QbR t).bind λy=>if Y.gl y=true then(Qp2 Y sub hΓ (b::bs)).bind λf=>(hd1 Y y f nm).bind λq=>(Qo2 Y sub hΓ r).map λl=>q::l else none
theorem QwR{X:Cx}{Y:Th}{ea:Addr}(ok:CtxB X Y):CtxB (inH X ea) Y:=⟨ok.N,ok.nd,ok.lc,ok.ce,ok.fe,ok.gl,ok.units,ok.mg,ok.cs⟩
theorem Qn1{X:Cx}{Y:Th}{sub:Str->Str->Option Bool}{hΓ:List (Str×FnR)}(ok:CtxB X Y)(hs:Qck X.K sub)(hu:QgZ X hΓ):∀(hds:List ExceptHandler) (hl:List Hd),Qo2 Y sub hΓ hds=some hl->Qhi X hds hl
 | [],f,h=>by cases(show some []=some f from h);exact .nil
 | .ExceptHandler t nm bs p::r,l,h=>by
  cases bs with
  | nil=>exact nomatch (show(none:Option (List Hd))=some _ from h)
  | cons b bs=>
   refine Qg (show t.bind _=some _ from h) λt ht h=>?_;cases ht;refine Qg h λy hy h=>QoC (G:=λt=>Qhi X (.ExceptHandler (some t) nm (b::bs) p::r) l) hy λnp=>?_;split at h
   ·rename_i hc;obtain⟨g1,g2,_⟩:=Qer ok hc;refine Qg h λf h1 h=>?_;refine bindR h λq l hq h2=>?_;have hS:=λea=>Qn4 (QwR (ea:=ea) ok) hs hu.inH _ f h1;have tl:=Qn1 ok hs hu r l h2;cases nm with
    | none=>cases(show some (y,none,f)=some q from hq);exact .bare g1 g2 hS tl
    | some nm=>
     change(if look nm Y.sc=some .local then(Y.QbU nm).map λi=>(y,some i,f)else none)=some q at hq;split at hq
     ·rename_i hn;refine mapR (M:=λq=>Qhi X (.ExceptHandler (some (.Name y np)) (some nm) (b::bs) p::r) (q::l)) hq λi hi=>?_;obtain⟨a1,a2,a3⟩:=QcI ok hi;exact .as g1 g2 a1 (ok.lc nm hn) hS tl
     ·cases hq
   ·cases h
noncomputable def Qwj(n:Nat)(Y:Th)(YX:ThX)(sub:Str->Str->Option Bool)(hΓ:List (Str×FnR))(st:Stmt):Option DS:=match st with
 | .Try body (h::hs) [] [] _=>(QaC n Y body).bind λf=>(Qe7 n Y YX body).bind λfx=>(Qo2 Y sub hΓ (h::hs)).map λhl=>QeM f fx sub hl
 | _=>none
theorem QyD{X:Cx}{Y:Th}{xe:Value->Shared->Prop}{pn:List (Addr×Obj)}(ok:Q7 X Y)(ht:∀st,Y.tr st=none)(hp:PassesOwn (model X.prog X.w) X.A X.env xe):Q7 (Cx.chg X xe pn) Y:=
 ⟨⟨ok.N,ok.nd,ok.lc,ok.ce,ok.fe,ok.gl,ok.units,ok.mg,ok.cs⟩,ok.calm,hp,ok.fns,λst f h=>by rw[ht st]at h;cases h⟩
theorem QyE{X:Cx}{Y:Th}{YX:ThX}{sub:Str->Str->Option Bool}{hΓ:List (Str×FnR)}{n:Nat}{st:Stmt}{f:DS}(ok:Q7 X Y)(ht:∀st,Y.tr st=none)(xk:XOk X YX)(hs:Qck X.K sub)(hu:QgZ X hΓ)(h:Qwj n Y YX sub hΓ st=some f):S1 X st f:=by
 unfold Qwj at h;split at h
 ·rename_i body h0 hds pos;refine Qg h λfb h1 h=>?_;obtain⟨fx,hl,h2,h3,rfl⟩:=Qbh h;have hN:X.N.Nodup:=by rw[ok.N];exact ok.nd
  refine QA6 hN xk.ex xk.stk xk.fr hs.ok (λxe pn hp=>?_) (Qn1 ok.toCtxB hs hu _ hl h3);have ok':=QyD (pn:=pn) ok ht hp;have xk':XOk (Cx.chg X xe pn) YX:=⟨xk.ex,xk.stk,xk.fr,xk.fx,xk.cl⟩;exact⟨(Qkd n).Ss _ _ _ fb ok' h1,(Qsa n).Xs _ _ _ _ fx ok' xk' h2⟩
 ·cases h
noncomputable def thT(n:Nat)(st:Stmt)(Γ:List (Str×FnR))(cs:List (Str×Int))(YX:ThX)(sub:Str->Str->Option Bool)(hΓ:List (Str×FnR)):Th:={Qf7 st Γ cs with tr:=Qwj n (Qf7 st Γ cs) YX sub hΓ}
section
variable {P:Program}{w:World}{K:Fgg}{mg:Str->Option Value}{base:Heap}
theorem QrG{h:Heap}{x:Str}{st:Stmt}{ps:List Str}{k n m:Nat}{Γ:List (Str×FnR)}{Γx:List (Str×(Nat×(List D->Option Str)))}{cls:List Str}{cs:List (Str×Int)}{sub:Str->Str->Option Bool}{hΓ:List (Str×FnR)}{g:DS}(X:K.In h)(G:h.Ns mainGlobals mg)(F:Fact K x st)(S:Qcn (namesOf (Qr st)) ps (Qr st))(B:QaG x st ps)(M:QeW mg cs)(tab:Qcg P w K mg base k Γ)(tabx:Qfr P w K mg base k Γx)
  (hcl:∀x∈cls,QiJ K x) (hs:Qck K sub) (tabh:Qm0 P w K mg base k hΓ) (hc:QaC n (thT m st Γ cs ⟨Γx,cls⟩ sub hΓ) (Qbm st)=some g):Known P w K mg base (k+1) x ⟨ps.length,[],Qu (namesOf (Qr st)).length g⟩:=by
 obtain⟨f,fd,Fn,a⟩:=F.ex;refine⟨f,fd,ps,?_,Zbh X G a,Fn.kp,λm hm=>⟨[],[],Fn.binds (B ·),.nil,λH=>by simp[Rps]⟩⟩;refine Fn.ok S (QqR rfl) λcdv A outer s H vs Q E hr h=>?_;obtain⟨ds,L,d,fr,rps,hl,hd,q⟩:=h;have ok:=QuH (P:=P) (w:=w) (K:=K) (base:=base) (qual:=x) (f:=f) (outer:=outer) (H:=H) (E:=E) S M tab hr;have xk:XOk (Qfh CX0 P w K mg base (namesOf (Qr st)) x (Qr st) f cdv A outer s H E).nox ⟨Γx,cls⟩:=⟨rfl,rfl,rfl,λz r e=>by
  obtain⟨f',fd',ps',h1,h2,h3,h4,h5⟩:=tabx z r e;exact⟨k,f',fd',ps',h1,hr,h2,h3,h4,h5⟩,hcl⟩
 have ok2:Q7 (Qfh CX0 P w K mg base (namesOf (Qr st)) x (Qr st) f cdv A outer s H E).nox (thT m st Γ cs ⟨Γx,cls⟩ sub hΓ):=
  ⟨⟨ok.N,ok.nd,ok.lc,ok.ce,ok.fe,ok.gl,ok.units,ok.mg,ok.cs⟩,ok.calm,ok.pass,ok.fns,λst' f' h'=>QyE ok (λ_=>rfl) xk hs (QCo hr tabh) h'⟩
 refine⟨_,(Qkd n).Ss _ _ _ g ok2 hc H L,?_⟩;obtain⟨F0,rel⟩:=QiH (N:=namesOf (Qr st)) rps;unfold Qu at hd;refine Qg hd λo ho hd=>?_;refine⟨_,[],F0,o,rel,ho,?_⟩;cases o with
 | nx U=>
  cases hd;exact λσ H' F' rel'=>q .non H' [] ⟨rel'.same,.Qp1,λa ha=>by simp at ha,λ_=>⟨Zbb,rfl,λa ha=>by simp at ha⟩⟩
 | bk U=>cases hd
 | ct U=>cases hd
 | rt d' fr'=>
  cases hd;exact λv H' G r=>q v H' G r
end
end HS
namespace HS
open PySem PySem.Spec L2 PyProof.Rows
section
variable {K:Fgg}{x y:Str}{C C':Addr}{v:Bool}
theorem Qy8(a:PySem.W.nsIn K mainGlobals x=some (some (.ref C)))(b:PySem.W.excIn K C [.type "ValueError",.type "Exception",.type "BaseException",.type "object"] "ValueError.__new__" =true):QiJ K x:=⟨⟨C,a,b⟩⟩
def XK1(K:Fgg)(x:Str):Prop:=∃C,ClsAt K x C/\Qil K C
theorem QBV(a:PySem.W.nsIn K mainGlobals x=some (some (.ref C)))(h1:PySem.W.isClsIn K C=true)(h2:PySem.W.findIn K (.ref C) "__getattribute__" =some (some (.builtin "BaseException.__getattribute__")))(h3:PySem.W.findIn K (.ref C) "__getattr__" =some none)
  (h4:PySem.W.findIn K (.ref C) "__class__" =some (some (.builtin "object.__class__"))) (h5:PySem.W.mroIn K C (.type "object")=some true) (h6:PySem.W.subIn K (.ref C) (.type "BaseException")=some true):XK1 K x:=⟨C,a,h1,h2,h3,h4,h5,h6⟩
def Qos(K:Fgg)(x y:Str)(b:Bool):Prop:=∃C c,ClsAt K x C/\PySem.W.KtsName K y c/\PySem.W.exmOne K (.ref C) c=some b/\PySem.W.kitOne K (.ref C) c=some b
theorem Qwn(a:PySem.W.nsIn K mainGlobals x=some (some (.ref C)))(b:PySem.W.nsIn K mainGlobals y=some (some (.ref C')))(c:PySem.W.exmOne K (.ref C) (.ref C')=some v)(d:PySem.W.kitOne K (.ref C) (.ref C')=some v):Qos K x y v:=⟨C,_,a,.inl b,c,d⟩
theorem Qyt(a:PySem.W.nsIn K mainGlobals x=some (some (.ref C)))(b:PySem.W.nsIn K mainGlobals "ValueError" =some none)(c:PySem.W.exmOne K (.ref C) (.type "ValueError")=some v)(d:PySem.W.kitOne K (.ref C) (.type "ValueError")=some v):Qos K x "ValueError" v:=
 ⟨C,_,a,.inr ⟨b,PyProof.Rows.Boot.«ValueError»,by decide⟩,c,d⟩
noncomputable def Qna(K:Fgg)(x:Str):List (Str×Bool)->Prop
 | []=>True
 | q::r=>Qos K x q.1 q.2/\Qna K x r
noncomputable def SubL(K:Fgg):List (Str×List (Str×Bool))->Prop
 | []=>True
 | q::r=>(XK1 K q.1/\Qna K q.1 q.2)/\SubL K r
noncomputable def Qxy(tab:List (Str×List (Str×Bool))):Str->Str->Option Bool:=λx y=>(look x tab).bind λr=>look y r
theorem QkE{α:Type}:∀{x:Str}{l:List (Str×α)}{a:α},look x l=some a->(x,a)∈l
 | x,[],a,h=>by cases h
 | x,(y,b)::r,a,h=>by
  unfold look at h;split at h
  ·rename_i e;cases h;subst e;exact Zl
  ·exact Zc _ (QkE h)
theorem Qna.mem:∀{r:List (Str×Bool)},Qna K x r->∀q∈r,Qos K x q.1 q.2
 | [],_,q,h=>by simp at h
 | p::r,h,q,hq=>by
  rcases Zi.mp hq with rfl | hq
  ·exact h.1
  ·exact Qna.mem h.2 q hq
theorem SubL.mem:∀{t:List (Str×List (Str×Bool))},SubL K t->∀q∈t,XK1 K q.1/\Qna K q.1 q.2
 | [],_,q,h=>by simp at h
 | p::r,h,q,hq=>by
  rcases Zi.mp hq with rfl | hq
  ·exact h.1
  ·exact SubL.mem h.2 q hq
theorem QxF{tab:List (Str×List (Str×Bool))}(h:SubL K tab):Qck K (Qxy tab):=λx y b e=>by
 refine Qg e λr h1 h2=>?_;obtain⟨⟨C,k1,k2⟩,k3⟩:=h.mem _ (QkE h1);obtain⟨C',c,m1,m2,m3,m4⟩:=k3.mem _ (QkE h2);cases QiX k1 m1;exact⟨C,c,k1,m2,m3,m4,k2⟩
noncomputable def QzI(K:Fgg):List Str->Prop
 | []=>True
 | x::r=>QiJ K x/\QzI K r
theorem Qry:∀{l:List Str},QzI K l->∀x∈l,QiJ K x
 | [],_,x,h=>by simp at h
 | y::l,h,x,hx=>by
  rcases Zi.mp hx with rfl | hx
  ·exact h.1
  ·exact Qry h.2 x hx
end
end HS
namespace HS
open PySem L2
noncomputable def pairD(p:Int×Int):D:= .tup [.int p.1,.int p.2]
noncomputable def Qdn(p:Int×Int×Bool):D:= .tup [.int p.1,.int p.2.1,.bl p.2.2]
noncomputable def Qe0(ns:List Int):D:= .lst (ns.map .int)
noncomputable def Qay(ps:Lpp):D:= .lst (ps.map pairD)
noncomputable def Qz(m:Int)(R L:Lpp):D:= .tup [.int m,Qay R,Qay L]
theorem Qca{α:Type}{f:α->D}(h:∀a,(f a).flat=true):∀l:List α,Qam (l.map f)=true
 | []=>rfl
 | a::l=>by simp[Qam,h a,Qca h l]
@[simp] theorem QDk(i:Int):(D.int i).flat=true:=rfl
@[simp] theorem QDM(i:Bool):(D.bl i).flat=true:=rfl
@[simp] theorem QDd:D.non.flat=true:=rfl
@[simp] theorem QDj(x:Str):(D.str x).flat=true:=rfl
@[simp] theorem QC9(xs:List D):(D.lst xs).flat=false:=rfl
@[simp] theorem QCV(xs:List D):(D.tup xs).flat=Qam xs:=rfl
@[simp] theorem QCU:Qam []=true:=rfl
@[simp] theorem QB8(d:D)(ds:List D):Qam (d::ds)=(d.flat && Qam ds):=rfl
@[simp] theorem QCS(p:Int×Int):(pairD p).flat=true:=rfl
@[simp] theorem QDK(p:Int×Int×Bool):(Qdn p).flat=true:=rfl
@[simp] theorem QCQ(ns:List Int):(Qe0 ns).flat=false:=rfl
@[simp] theorem QCF(ns:Lpp):(Qay ns).flat=false:=rfl
@[simp] theorem QBG(ps:Lpp):Qam (ps.map pairD)=true:=Qca (λ_=>rfl) _
@[simp] theorem QrP(ps:List (Int×Int×Bool)):Qam (ps.map Qdn)=true:=Qca (λ_=>rfl) _
@[simp] theorem QsP(ns:List Int):Qam (ns.map .int)=true:=Qca (λ_=>rfl) _
@[simp] theorem QCT(xs ys:List D):Qam (xs++ys)=(Qam xs && Qam ys):=QcZ xs ys
def Run(f:DS)(U:En)(Q:Out->Prop):Prop:=∃o,f U=some o/\Q o
noncomputable def Nx(Q:En->Prop):Out->Prop
 | .nx U=>Q U
 | _=>False
noncomputable def Rt(Q:D->Bool->Prop):Out->Prop
 | .rt d fr=>Q d fr
 | _=>False
theorem Run.mono(h:Run f U Q)(m:∀o,Q o->Q' o):Run f U Q':=let ⟨o,h1,h2⟩:=h;⟨o,h1,m o h2⟩
theorem Qj(h:Q (.nx U)):Run Qh U Q:=⟨_,rfl,h⟩
theorem run_seq(h:Run f U (Nx λU'=>Run g U' Q)):Run (Qd f g) U Q:=by
 obtain⟨o,h1,h2⟩:=h;cases o with
 | nx U'=>
  obtain⟨o',h3,h4⟩:=h2;exact⟨o',by simp[Qd,h1,h3],h4⟩
 | _=>exact False.elim h2
theorem Qv(h:Run f U λo=>match o with | .nx U'=>Run g U' Q | o=>Q o):Run (Qd f g) U Q:=by
 obtain⟨o,h1,h2⟩:=h;cases o with
 | nx U'=>
  obtain⟨o',h3,h4⟩:=h2;exact⟨o',by simp[Qd,h1,h3],h4⟩
 | bk U'=>exact⟨_,by simp[Qd,h1],h2⟩
 | ct U'=>exact⟨_,by simp[Qd,h1],h2⟩
 | rt d fr=>exact⟨_,by simp[Qd,h1],h2⟩
theorem QA(h:fa U=some r)(q:Q (.nx (asg i r U))):Run (Qo i fa) U Q:=⟨_,by simp[Qo,h],q⟩
theorem Qa6(h:fa U=some r)(q:Q (.rt r.d (r.norm.fr && decide r.norm.M.Nodup))):Run (QC fa) U Q:=⟨_,by simp[QC,h],q⟩
theorem QB(h:g U=some b)(q1:b=true->Run f1 U Q)(q2:b=false->Run f2 U Q):Run (sIf g f1 f2) U Q:=by
 cases b with
 | true=>obtain⟨o,h1,h2⟩:=q1 rfl;exact⟨o,by simp[sIf,h,h1],h2⟩
 | false=>obtain⟨o,h1,h2⟩:=q2 rfl;exact⟨o,by simp[sIf,h,h1],h2⟩
theorem QN(h:Run f (QaU k ds) (Rt λd' fr'=>d'=d/\fr'=fr)):Qu k f ds=some (d,fr):=by
 obtain⟨o,h1,h2⟩:=h;unfold Qu;cases o with
 | rt d' fr'=>obtain⟨rfl,rfl⟩:=h2;rw[h1];rfl
 | _=>exact False.elim h2
theorem Qo4{α:Type}{t:Tg}{fb:DS}{toD:α->D}{Q:Out->Prop}(I:Nat->En->Prop):∀(xs ys:List α) (U:En),I ys.length U→
  (∀i x U,(ys++xs)[i]? =some x->ys.length<=i->I i U->∃U1,QbE t (toD x) U=some U1/\Run fb U1 λo=>match o with | .nx U2=>I (i+1) U2 | .ct U2=>I (i+1) U2 | .bk U2=>Q (.nx U2) | .rt d fr=>Q (.rt d fr))→
  (∀U,I (ys++xs).length U->Q (.nx U))->Run (Qdd t fb (xs.map toD)) U Q
 | [],ys,U,h0,_,fin=>⟨_,rfl,fin U (by simpa using h0)⟩
 | x::xs,ys,U,h0,turn,fin=>by
  obtain⟨U1,h1,o,h2,h3⟩:=turn ys.length x U (by simp) (Zj _) h0;have next:∀U2,I (ys.length+1) U2->Run (Qdd t fb (xs.map toD)) U2 Q:=λU2 hi=>
   Qo4 I xs (ys++[x]) U2 (by simpa using hi) (λi y U' e hl=>turn i y U' (by simpa using e) (by simp at hl;omega)) (λU' h=>fin U' (by simpa using h))
  cases o with
  | nx U2=>obtain⟨o',e1,e2⟩:=next U2 h3;exact⟨o',by simp[Qdd,h1,h2,e1],e2⟩
  | ct U2=>obtain⟨o',e1,e2⟩:=next U2 h3;exact⟨o',by simp[Qdd,h1,h2,e1],e2⟩
  | bk U2=>exact⟨_,by simp[Qdd,h1,h2],h3⟩
  | rt d fr=>exact⟨_,by simp[Qdd,h1,h2],h3⟩
theorem Qav{α:Type}{fi:DI}{t:Tg}{fb:DS}{toD:α->D}{U:En}{ir:IR}{Q:Out->Prop}(xs:List α)(I:Nat->En->Prop)(h:fi U=some ir)(hx:ir.items=xs.map toD)(h0:I 0 (Qba ir.M U))
  (turn:∀i x U,xs[i]? =some x->I i U->∃U1,QbE t (toD x) U=some U1/\Run fb U1 λo=>match o with | .nx U2=>I (i+1) U2 | .ct U2=>I (i+1) U2 | .bk U2=>Q (.nx U2) | .rt d fr=>Q (.rt d fr))
  (fin:∀U,I xs.length U->Q (.nx U)):Run (QaW fi t fb) U Q:=by
 obtain⟨o,h1,h2⟩:=Qo4 (t:=t) (fb:=fb) (toD:=toD) (Q:=Q) I xs [] (Qba ir.M U) h0 (λi x U e _=>turn i x U (by simpa using e)) (λU h=>fin U (by simpa using h));exact⟨o,by simp[QaW,h,hx,h1],h2⟩
theorem Qn9{α:Type}{t:Tg}{ft:DT}{fe:DE}{Uc:En}{toD:α->D}{keep:α->Bool}{out:α->D}:∀(xs:List α) (acc:List D),
  (∀x∈xs,∃U1,QbE t (toD x) Uc=some U1/\ft U1=some (keep x)/\(keep x=true->∃r,fe U1=some r/\r.d=out x/\r.norm.fr=true))→
  (xs.map toD).foldlM (QgC t ft fe Uc) (acc,true)=some (acc++(xs.filter keep).map out,true)
 | [],acc,_=>by simp
 | x::xs,acc,h=>by
  obtain⟨U1,h1,h2,h3⟩:=h x Zl;have ih:=λacc=>Qn9 xs acc (λy hy=>h y (Zc _ hy));cases hk:keep x with
  | false=>
   have e:QgC t ft fe Uc (acc,true) (toD x)=some (acc,true):=by simp[QgC,h1,h2,hk]
   simp[ZbT,e,ih,hk]
  | true=>
   obtain⟨r,h4,h5,h6⟩:=h3 hk;have e:QgC t ft fe Uc (acc,true) (toD x)=some (acc++[out x],true):=by simp[QgC,h1,h2,hk,h4,h5,h6]
   simp[ZbT,e,ih,hk]
theorem QfG{α:Type}{fi:DI}{t:Tg}{cap:List (Option Nat)}{ft:DT}{fe:DE}{U:En}{ir:IR}{toD:α->D}{keep:α->Bool}{out:α->D}(xs:List α)(h:fi U=some ir)(hx:ir.items=xs.map toD)
  (turn:∀x∈xs,∃U1,QbE t (toD x) (QfE cap U)=some U1/\ft U1=some (keep x)/\(keep x=true->∃r,fe U1=some r/\r.d=out x/\r.norm.fr=true)):
  QG fi t cap ft fe U=some ⟨.lst ((xs.filter keep).map out),true,[]⟩:=by
 unfold QG;rw[h,Za,hx,Qn9 xs [] turn];simp
theorem QE{α:Type}{fi:DI}{t:Tg}{cap:List (Option Nat)}{fe:DE}{U:En}{ir:IR}{toD:α->D}{out:α->D}(xs:List α)(h:fi U=some ir)(hx:ir.items=xs.map toD)
  (turn:∀x∈xs,∃U1,QbE t (toD x) (QfE cap U)=some U1/\∃r,fe U1=some r/\r.d=out x/\r.norm.fr=true):
  QG fi t cap QO fe U=some ⟨.lst (xs.map out),true,[]⟩:=by
 have:=QfG (keep:=λ_=>true) (ft:=QO) xs h hx (cap:=cap) (t:=t) (fe:=fe) (out:=out) λx hx=>by
  obtain⟨U1,h1,h2⟩:=turn x hx;exact⟨U1,h1,rfl,λ_=>h2⟩
 rw[this,List.filter_eq_self.mpr λ_ _=>rfl]
@[simp] theorem QDL(d:D):R.norm ⟨d,true,[]⟩=⟨d,true,[]⟩:=by unfold R.norm;split<;>rfl
@[simp] theorem Q4(i:Nat)(d:D)(U:En):asg i ⟨d,true,[]⟩ U=U.set i (some (d,true)):=by unfold asg;simp[kill]
theorem rsa{i:Nat}{fa:DE}{g:DS}{U:En}{d:D}{Q:Out->Prop}(h:fa U=some ⟨d,true,[]⟩)(q:Run g (U.set i (some (d,true))) Q):Run (Qd (Qo i fa) g) U Q:=run_seq (QA h (by rw[Q4];exact q))
theorem QeF{n k k1:Nat}(h:(List.range n)[k]? =some k1):k<n/\k=k1:=by
 obtain⟨h1,h2⟩:=Zk.mp h;simp at h1 h2;exact⟨h1,h2⟩
theorem QdO{i:Nat}{d:D}{fr:Bool}{M:List Nat}{U:En}(h:d.flat=true):asg i ⟨d,fr,M⟩ U=U.set i (some (d,true)):=by
 unfold asg R.norm;simp[h,kill]
theorem QcK{i:Nat}{U:En}{d:D}{b:Bool}(h:U[i]? =some (some (d,b))):Ql i U=some (if d.flat then⟨d,true,[]⟩else if b then⟨d,true,[i]⟩else⟨d,false,[]⟩):=by
 unfold Ql;rw[h];dsimp only;split
 ·simp_all
 ·split<;>simp_all
theorem QzD{i:Nat}{U:En}{n:Int}{b:Bool}(h:U[i]? =some (some (.int n,b))):Ql i U=some (reI n):=by rw[QcK h];rfl
@[simp] theorem Qcc(d:D)(U:En):dC d U=some ⟨d,true,[]⟩:=rfl
theorem QaN{g:D->D->Option D}{fa fb:DE}{U:En}{ra rb:R}{d:D}(ha:fa U=some ra)(hb:fb U=some rb)(h:g ra.d rb.d=some d):dOp g fa fb U=some ⟨d,true,[]⟩:=by simp[dOp,ha,hb,h]
theorem Qn{fa:DE}{fs:DA}{U:En}{r:R}{rs:RA}(ha:fa U=some r)(hs:fs U=some rs):Qa fa fs U=some ⟨r.d::rs.ds,r.fr && rs.fr,r.M++rs.M⟩:=by simp[Qa,ha,hs]
@[simp] theorem QP(U:En):Qc U=some ⟨[],true,[]⟩:=rfl
noncomputable def vf(d:D)(b:Bool)(i:Nat):R:=if d.flat then⟨d,true,[]⟩else if b then⟨d,true,[i]⟩else⟨d,false,[]⟩
@[simp] theorem QDQ(d:D)(b:Bool)(i:Nat):(vf d b i).d=d:=by unfold vf;split;rfl;split<;>rfl
@[simp] theorem QwU(i j:Int)(h:0<=j):QdM i j=i % j:=by unfold QdM;rw[if_pos h]
@[simp] theorem Qlq(i j:Int)(h:0<=j):Qep i j=i / j:=by unfold Qep;rw[if_pos h]
theorem Qcm{i j:Int}(h:i.natAbs<2^64):Qd3 i j=true:=by unfold Qd3;simp[h]
theorem QcP{i j:Int}(h:j.natAbs<2^64):Qd3 i j=true:=by unfold Qd3;simp[h]
theorem QdT{i j:Int}(h1:Builtin.Int.intBits i<=2^20)(h2:Builtin.Int.intBits j<=2^20):Qd3 i j=true:=by
 unfold Qd3;rw[decide_eq_true h1,decide_eq_true h2,Bool.and_self,Bool.or_true]
theorem QjF:(sizeLine:Nat)=16777216:=sizeLine_eq
noncomputable def Qb(m:Nat)(f:Mt1):D:= .lst ((List.range m).map λi=> .int (f i))
noncomputable def Qe(m n:Nat)(f:Mt2):D:= .lst ((List.range m).map λi=>Qb n (f i))
@[simp] theorem QDl(m:Nat)(f:Mt1):(Qb m f).flat=false:=rfl
@[simp] theorem QDp(m n:Nat)(f:Mt2):(Qe m n f).flat=false:=rfl
@[simp] theorem Qt3(m:Nat)(f:Mt1):Qam ((List.range m).map λi=>D.int (f i))=true:=Qca (f:=λi=>D.int (f i)) (λ_=>rfl) _
noncomputable def up(f:Mt1)(i:Nat)(v:Int):Nat->Int:=λj=>if j=i then v else f j
noncomputable def up2(f:Mt2)(i j:Nat)(v:Int):Nat->Nat->Int:=λk=>if k=i then up (f k) j v else f k
theorem Qct{n:Nat}{i:Int}(h0:0<=i)(h:i<n):ixN n i=some i.toNat:=by
 unfold ixN;rw[if_pos ⋯,if_pos ⋯]
theorem QjO{α:Type}{xs:List α}{i:Int}(h0:0<=i)(h:i<xs.length):atI xs i=xs[i.toNat]? :=by
 unfold atI;rw[Qct h0 h];rfl
theorem Qiq{α:Type}{m:Nat}{f:Nat->α}{i:Nat}{v:α}:((List.range m).map f).set i v=(List.range m).map λj=>if j=i then v else f j:=by
 apply ZaT;intro k;rw[ZbL];simp only[Zq,ZC,Zs];by_cases hk:k<m
 ·rw[ZK hk];by_cases e:i=k
  ·subst e;simp[hk]
  ·simp[e,Ne.symm e]
 ·rw[Zu (by simp;omega)];by_cases e:i=k
  ·subst e;simp[hk]
  ·simp[e]
theorem Qnm{m:Nat}{f:Mt1}{i:Nat}{v:Int}:((List.range m).map λj=>D.int (f j)).set i (.int v)=(List.range m).map λj=>D.int (up f i v j):=by
 rw[Qiq];congr 1;funext j;unfold up;split<;>rfl
theorem Qra{m:Nat}{f:Mt1}{i:Int}(h0:0<=i)(h:i<m):atI ((List.range m).map λj=>D.int (f j)) i=some (.int (f i.toNat)):=by
 rw[QjO h0 (by simpa using h),Zs,ZK ⋯];rfl
theorem Qq3{m n:Nat}{f:Mt2}{i:Int}(h0:0<=i)(h:i<m):atI ((List.range m).map λj=>Qb n (f j)) i=some (Qb n (f i.toNat)):=by
 rw[QjO h0 (by simpa using h),Zs,ZK ⋯];rfl
theorem Qlh{x m:Nat}{f:Mt1}{fi fa:DE}{U:En}{i:Int}{v:Int}{ri ra:R}{Q:Out->Prop}(hx:U[x]? =some (slT (Qb m f)))(hi:fi U=some ri)(ei:ri.d= .int i)(ha:fa U=some ra)(ea:ra.d= .int v)(h0:0<=i)(h:i<m)
  (q:Q (.nx (U.set x (slT (Qb m (up f i.toNat v)))))):Run (QcQ x QaQ fi fa) U Q:=by
 refine⟨_,?_,q⟩;have hn:ra.norm=(reI v):=by unfold R.norm;rw[ea];rfl
 unfold QcQ;rw[ha,Za,hx];simp only[QaQ,Za,hi,ei,QbY,Qb,Zq,ZC,Qct h0 h,hn,ea,QbN,Qnm];simp[kill]
theorem Qwm{g:D->D->Option D}{x m:Nat}{f:Mt1}{fi fa:DE}{U:En}{i w:Int}{ri ra:R}{Q:Out->Prop}(hx:U[x]? =some (slT (Qb m f)))(hi:fi U=some ri)(ei:ri.d= .int i)(ha:fa U=some ra)(h0:0<=i)(h:i<m)
  (hg:g (.int (f i.toNat)) ra.d=some (.int w)) (q:Q (.nx (U.set x (slT (Qb m (up f i.toNat w)))))):Run (Qeg g x QaQ fi fa) U Q:=by
 refine⟨_,?_,q⟩;have hj:((List.range m).map λj=>D.int (f j))[i.toNat]? =some (.int (f i.toNat)):=by rw[Zs,ZK ⋯];rfl
 unfold Qeg;rw[hx];simp only[QaQ,Za,hi,ei,QbY,Qb,Zq,ZC,Qct h0 h,hj,ha,hg,QbN,Qnm,ZU]
theorem Qpt{g:D->D->Option D}{x m n:Nat}{f:Mt2}{fp fi fa:DE}{U:En}{i j w:Int}{rp ri ra:R}{Q:Out->Prop}(hx:U[x]? =some (slT (Qe m n f)))(hp:fp U=some rp)(ep:rp.d= .int i)(hi:fi U=some ri)(ei:ri.d= .int j)(ha:fa U=some ra)
  (h0:0<=i) (h:i<m) (k0:0<=j) (k:j<n) (hg:g (.int (f i.toNat j.toNat)) ra.d=some (.int w)) (q:Q (.nx (U.set x (slT (Qe m n (up2 f i.toNat j.toNat w)))))):Run (Qeg g x (QdC QaQ fp) fi fa) U Q:=by
 refine⟨_,?_,q⟩;have hj:((List.range n).map λk=>D.int (f i.toNat k))[j.toNat]? =some (.int (f i.toNat j.toNat)):=by rw[Zs,ZK ⋯];rfl
 have hd:QbY (Qe m n f) [i]=some (Qb n (f i.toNat)):=by
  simp only[QbY,Qe,D.items,Za,Qq3 h0 h]
 have hu:QbN [i] (Qe m n f) (.lst (((List.range n).map λk=>D.int (f i.toNat k)).set j.toNat (.int w)))=Qe m n (up2 f i.toNat j.toNat w):=by
  simp only[QbN,Qe,Zq,ZC,Qct h0 h,Qnm];rw[Qiq];congr 2;funext k;unfold up2;split
  ·rename_i e;subst e;rfl
  ·rfl
 unfold Qeg;rw[hx];simp only[QdC,QaQ,Za,hp,ep,Zcf,hi,ei,hd,Qb,Zq,ZC,Qct k0 k,hj,ha,hg,ZU];rw[hu]
theorem Qbl{n:Nat}(h:fa U=some r)(e:r.d= .int n)(hn:n<=16777216):Qa7 fa U=some ⟨(List.range n).map λ(k:Nat)=> .int (k:Int),[]⟩:=by
 unfold Qa7;rw[h,Za,e];dsimp only;rw[if_pos ⟨⋯,⋯⟩];simp[Qi5]
theorem Qrh{α:Type}(x:α):∀n:Nat,(List.replicate n [x]).flatten=(List.range n).map λ_=>x
 | 0=>rfl
 | n+1=>by
  rw[Zam,Zar,Qrh x n,ZbZ,ZH,Zaw];rfl
theorem QhG{n:Nat}(h:fb U=some r)(e:r.d= .int n)(hn:n<=16777216):QY (QX (Qa (dC (.int z)) Qc)) fb U=some (reT (Qb n (λ_=>z))):=by
 have h1:QX (Qa (dC (.int z)) Qc) U=some (reT (.lst [.int z])):=rfl;unfold QY;rw[h1,Za,h,Za,e];dsimp only;rw[if_pos ⟨by simp[QjF];omega,⋯,⋯,rfl⟩];simp only[ZQ,Qrh];rfl
noncomputable def Qnr:DS:=(Qd (Qo 2 (QG (QW vv0) (.tp [1,2]) [none,none,none] QO (Qar (Qa vv1 (Qa vv2 Qc))))) (Qd (Qo 3 (QG (QW vv0) (.tp [1,2]) [none,none,none] QO (Qar (Qa vv2 (Qa vv1 Qc))))) (Qd (QC (QL (QL vv2 vv3) (dList (Qa vv1 Qc)))) Qh)))
theorem QrB(ha:fa U=some ra)(ea:ra.d=Qay A)(hb:fb U=some rb)(eb:rb.d=Qay B)(hl:A.length+B.length<=16777216):QL fa fb U=some (reT (Qay (A++B))):=by
 unfold QL;rw[ha,Za,hb,Za,ea,eb];simp only[Qay,Zq,QjF,if_pos hl,Qbv];simp
theorem Qwr(h:fs U=some rs)(e:rs.ds=[Qay A])(_:True=True):dList fs U=some (reT (Qay A)):=by
 unfold dList;rw[h,Za,e];simp[Qay,Qbv]
theorem Qy(h:fa U=some r)(q:Q r.d (r.norm.fr && decide r.norm.M.Nodup)):Run (Qd (QC fa) g) U (Rt Q):=Qv (Qa6 h q)
theorem Qu0{R L:Lpp}(hl:R.length+R.length+L.length<=16777216):Qu 4 Qnr [Qay R,Qay L]=slT (Qay (R++R.map Prod.swap++L)):=by
 refine QN ?_;refine run_seq (QA (QE R rfl rfl λx _=>⟨[none,slI x.1,slI x.2],rfl,⟨pairD x,true,[]⟩,rfl,rfl,rfl⟩) ?_);refine run_seq (QA (QE R rfl rfl λx _=>⟨[none,slI x.1,slI x.2],rfl,⟨pairD x.swap,true,[]⟩,rfl,rfl,rfl⟩) ?_);have e1:(R.map λx=>pairD x.swap)=(R.map Prod.swap).map pairD:=by simp[Zaw,Function.comp_def]
 rw[e1];exact Qy (QrB (QrB rfl rfl rfl rfl (by simpa using(by omega:R.length+R.length<=16777216))) rfl (Qwr rfl rfl rfl) rfl (by simpa using hl)) ⟨rfl,rfl⟩
theorem Qi(h:fs U=some r)(hd:den (r.ds++dfl)=some (d,true))(hl:r.ds.length+dfl.length=n):Qf n den dfl fs U=some ⟨d,true,[]⟩:=by
 unfold Qf;rw[h,Za,if_pos hl,hd];simp
theorem Q2(h:fa U=some r)(e:r.d= .lst xs):QW fa U=some ⟨xs,r.M⟩:=by
 unfold QW;rw[h,Za,e]
noncomputable def stepT(m:Nat)(f:Mt2)(s:Int×Int):Nat->Nat->Int:=
 let f1:=if s.1<m then up2 f s.1.toNat s.1.toNat (f s.1.toNat s.1.toNat-1)else f
 if s.1<m/\s.2<m then up2 f1 s.1.toNat s.2.toNat (f1 s.1.toNat s.2.toNat+1)else f1
noncomputable def Qw(m:Nat)(S:Lpp):Nat->Nat->Int:=S.foldl (stepT m) λ_ _=>0
noncomputable def Qgq(QdV:Den):DS:=(Qd (Qo 1 (Qal (Qm vv0 kk0))) (Qd (Qo 2 (QG (Qa7 vv1) (.nm 1) [none,none,some 1] QO (QY (QX (Qa kk0 Qc)) vv2))) (Qd (QaW (QW (Qf 2 QdV [] (Qa (Qm vv0 kk1) (Qa (Qm vv0 kk2) Qc)))) (.tp [3,4]) (Qd (sIf (QF (dOp gLt vv3 vv1)) (Qd (Qeg QaL 2 (QdC QaQ vv3) vv3 kk1) Qh) Qh) (Qd (sIf (Qih (QF (dOp gLt vv3 vv1)) (QF (dOp gLt vv4 vv1))) (Qd (Qeg (gI λi j=>some (.int (i+j))) 2 (QdC QaQ vv3) vv4 kk1) Qh) Qh) Qh))) (Qd (QC vv2) Qh))))
theorem QwQ{QdV:Den}{m:Nat}{R L S:Lpp}(hm:m<=16777216)(hs:QdV [Qay R,Qay L]=slT (Qay S))(hS:∀s∈S,0<=s.1/\0<=s.2):Qu 5 (Qgq QdV) [Qz m R L]=slT (Qe m m (Qw m S)):=by
 refine QN ?_;refine run_seq (QA rfl ?_);refine run_seq (QA (QE (List.range m) (Qbl rfl rfl hm) rfl λx _=>⟨[none,slI x,slI m],rfl,_,QhG rfl rfl hm,rfl,rfl⟩) ?_);refine run_seq (Qav S (λi U=>∃j1 j2,U=[slF (Qz m R L),slI m,slT (Qe m m (Qw m (S.take i))),j1,j2]) (ir:=⟨S.map pairD,[]⟩) ?_ rfl ⟨none,none,rfl⟩ ?_ ?_)
 ·exact Q2 (Qi (r:=⟨[Qay R,Qay L],false,[]⟩) rfl hs rfl) rfl
 ·rintro i s U hi ⟨j1,j2,rfl⟩;refine⟨_,rfl,?_⟩;obtain⟨s1,s2⟩:=hS s (Zax hi);refine run_seq (Run.mono (Q:=Nx λU=>U=[slF (Qz m R L),slI m,slT (Qe m m (if s.1<m then up2 (Qw m (S.take i)) s.1.toNat s.1.toNat (Qw m (S.take i) s.1.toNat s.1.toNat-1)else Qw m (S.take i))),slI s.1,slI s.2]) ?_ ?_)
  ·refine QB rfl (λh=>?_) (λh=>?_)
   ·have h:=of_decide_eq_true h;rw[if_pos h];exact run_seq (Qpt rfl rfl rfl rfl rfl rfl s1 h s1 h rfl (Qj rfl))
   ·have h:=of_decide_eq_false h;rw[if_neg h];exact Qj rfl
  ·intro o ho;cases o with
   | nx U=>
    subst ho;have fin:Qw m (S.take (i+1))=stepT m (Qw m (S.take i)) s:=by
     unfold Qw;rw[List.take_add_one,hi,List.foldl_append];rfl
    refine run_seq (Run.mono (Q:=Nx λU=>U=[slF (Qz m R L),slI m,slT (Qe m m (stepT m (Qw m (S.take i)) s)),slI s.1,slI s.2]) ?_ ?_)
    ·refine QB (b:=decide (s.1<m/\s.2<m)) ?_ (λh=>?_) (λh=>?_)
     ·by_cases h:s.1<(m:Int)
      ·simp[Qih,QF,dOp,Ql,gLt,gI,D.tru,h]
      ·simp[Qih,QF,dOp,Ql,gLt,gI,D.tru,h]
     ·have h:=of_decide_eq_true h;refine run_seq (Qpt rfl rfl rfl rfl rfl rfl s1 h.1 s2 h.2 rfl (Qj ?_));unfold stepT;rw[if_pos h];rfl
     ·have h:=of_decide_eq_false h;refine Qj ?_;unfold stepT;rw[if_neg h];rfl
    ·intro o ho;cases o with
     | nx U=>
      subst ho;exact Qj ⟨_,_,by rw[fin]⟩
     | _=>exact False.elim ho
   | _=>exact False.elim ho
 ·rintro U ⟨j1,j2,rfl⟩;rw[List.take_length];exact Qy rfl ⟨rfl,rfl⟩
noncomputable def hit(i j:Nat)(s:Int×Int):Int:=(if s.1=i/\s.2=j then 1 else 0)-(if s.1=i/\i=j then 1 else 0)
theorem Qrc:up2 f a b v i j=if i=a/\j=b then v else f i j:=by
 unfold up2 up;by_cases h1:i=a
 ·by_cases h2:j=b
  ·simp[h1,h2]
  ·simp[h1,h2]
 ·simp[h1]
theorem QuM(hi:i<m)(hj:j<m)(h1:0<=s.1)(h2:0<=s.2):stepT m f s i j=f i j+hit i j s:=by
 unfold stepT hit;have e1:(s.1=(i:Int))↔(i=s.1.toNat):= ⋯
 have e2:(s.2=(j:Int))↔(j=s.2.toNat):= ⋯
 simp only[e1,e2];by_cases c1:s.1<(m:Int)
 ·by_cases c2:s.2<(m:Int)
  ·simp only[c1,c2,and_self,if_true,Qrc];generalize s.1.toNat=a;generalize s.2.toNat=b;by_cases d1:i=a
   ·subst d1;by_cases d2:j=b
    ·subst d2;by_cases d3:i=j
     ·subst d3;simp
     ·have d4:¬j=i:=λz=>d3 z.symm;simp[d3,d4]
    ·by_cases d3:i=j
     ·subst d3;simp[d2];omega
     ·have d4:¬j=i:=λz=>d3 z.symm;simp[d2,d3,d4]
   ·simp[d1]
  ·have d2:¬(j=s.2.toNat):= ⋯
   simp only[c1,c2,and_false,if_false,if_true,Qrc,d2];generalize s.1.toNat=a;by_cases d1:i=a
   ·subst d1;by_cases d3:i=j
    ·subst d3;simp;omega
    ·have d4:¬j=i:=λz=>d3 z.symm;simp[d3,d4]
   ·simp[d1]
 ·have d1:¬(i=s.1.toNat):= ⋯
  simp[c1,d1]
theorem Qn5(hi:i<m)(hj:j<m):∀(S:Lpp) (f:Mt2),(∀s∈S,0<=s.1/\0<=s.2)->S.foldl (stepT m) f i j=f i j+(S.map (hit i j)).sum
 | [],f,_=>by simp
 | s::S,f,h=>by
  obtain⟨h1,h2⟩:=h s Zl;rw[List.foldl_cons,Qn5 hi hj S _ (λt ht=>h t (Zc _ ht)),QuM hi hj h1 h2,ZH,ZaG];omega
theorem QdG(hi:i<m)(hj:j<m)(h:∀s∈S,0<=s.1/\0<=s.2):Qw m S i j=(S.map (hit i j)).sum:=by
 unfold Qw;rw[Qn5 hi hj S _ h];simp
noncomputable def isI(i:Nat)(a:Int):Int:=if a=i then 1 else 0
noncomputable def Qcy(R L:Lpp)(i:Nat):Int:=(R.map λr=>isI i r.1+isI i r.2).sum+(L.map λl=>isI i l.1).sum
theorem sum_neg(S:Lpp)(i:Nat)(h:∀s∈S,s.1≠s.2):(S.map (hit i i)).sum= -(S.map λs=>isI i s.1).sum:=by
 induction S with
 | nil=>rfl
 | cons s S ih=>
  rw[ZH,ZaG,ih λt ht=>h t (Zc _ ht),ZH,ZaG];have hn:=h s Zl;unfold hit isI;by_cases e:s.1=(i:Int)
  ·have:¬(s.2=(i:Int)):=λz=>hn (e.trans z.symm);simp[e,this];omega
  ·simp[e]
noncomputable def Qt(R L:Lpp):List (Int×Int):=R++R.map Prod.swap++L
theorem QnL(R L:Lpp)(i:Nat):((Qt R L).map λs=>isI i s.1).sum=Qcy R L i:=by
 unfold Qt Qcy;rw[ZaI,ZaI,ZbI,ZbI];have:(R.map λr=>isI i r.1+isI i r.2).sum=(R.map λs=>isI i s.1).sum+((R.map Prod.swap).map λs=>isI i s.1).sum:=by
  induction R with
  | nil=>rfl
  | cons r R ih=>simp only[ZH,ZaG,ih,Prod.fst_swap];omega
 omega
def Good(m:Nat)(s:Int×Int):Prop:=0<=s.1/\0<=s.2/\s.1<=m/\s.2<=m/\s.1≠s.2
theorem Qdc{m:Nat}{R L:Lpp}(hR:∀s∈R,Good m s)(hL:∀s∈L,Good m s):∀s∈Qt R L,Good m s:=λs hs=>by
 unfold Qt at hs;rcases ZF.mp hs with hs | hs
 ·rcases ZF.mp hs with hs | hs
  ·exact hR s hs
  ·obtain⟨t,ht,rfl⟩:=ZL.mp hs;obtain⟨h1,h2,h3,h4,h5⟩:=hR t ht;exact⟨h2,h1,h4,h3,λz=>h5 z.symm⟩
 ·exact hL s hs
def Qf0(d:Den):Prop:=∀(m:Nat) (R L:Lpp),m<=1000->R.length+R.length+L.length<=1000000->(∀s∈R,Good m s)->(∀s∈L,Good m s)->d [Qz m R L]=some (Qe m m (Qw m (Qt R L)),true)
theorem Qyk:Qf0 (Qu 5 (Qgq (Qu 4 Qnr))):=λm R L hm hl hR hL=>by
 refine QwQ ⋯ (Qu0 ⋯) λs hs=>?_;obtain⟨h1,h2,_⟩:=Qdc hR hL s hs;exact⟨h1,h2⟩
noncomputable def Qkf(QaE:Den):DS:=(Qd (QC (QG (Qb9 (Qf 1 QaE [] (Qa vv0 Qc))) (.tp [1,2]) [none,none,none] QO (dOp QaL kk0 (Qm vv2 vv1)))) Qh)
theorem Qh5{α:Type}(m:Nat)(f:Nat->D):Qdg ((List.range m).map f)=(List.range m).map λi=> .tup [.int i,f i]:=by
 apply ZaT;intro k;unfold Qdg;simp only[Zs,List.getElem?_zipIdx,Nat.zero_add];by_cases hk:k<m
 ·rw[ZK hk];rfl
 ·rw[Zu (by simp;omega)];rfl
theorem Qvu{d:Den}(hd:Qf0 d){m:Nat}{R L:Lpp}(hm:m<=1000)(hl:R.length+R.length+L.length<=1000000)(hR:∀s∈R,Good m s)(hL:∀s∈L,Good m s):Qu 1 (Qkf d) [Qz m R L]=slT (Qb m (Qcy R L)):=by
 refine QN ?_;refine Qy (QE (toD:=λ(i:Nat)=> .tup [.int i,Qb m (Qw m (Qt R L) i)]) (out:=λ(i:Nat)=> .int (Qcy R L i)) (ir:=⟨Qdg ((List.range m).map λi=>Qb m (Qw m (Qt R L) i)),[]⟩) (List.range m) ?_ ?_ λi hi=>?_) ⟨rfl,rfl⟩
 ·unfold Qb9;rw[Qi (n:=1) (fs:=Qa (Ql 0) Qc) (U:=QaU 1 [Qz m R L]) (dfl:=[]) (r:=⟨[Qz m R L],false,[]⟩) rfl (hd m R L hm hl hR hL) rfl];rfl
 ·exact Qh5 (α:=Nat) m _
 ·have hi:=Zg.mp hi;refine⟨[none,slI i,slF (Qb m (Qw m (Qt R L) i))],rfl,reI (0-Qw m (Qt R L) i i),?_,?_,rfl⟩
  ·have e:Qm (Ql 2) (Ql 1) [none,slI (i:Int),slF (Qb m (Qw m (Qt R L) i))]=some (reI (Qw m (Qt R L) i i)):=by
    show((D.items (Qb m (Qw m (Qt R L) i))).bind λxs=>(atI xs (i:Int)).map λd=>(HS.R.norm ⟨d,false,[]⟩))=_;unfold Qb;rw[show D.items (.lst ((List.range m).map λj=>D.int (Qw m (Qt R L) i j)))=some ((List.range m).map λj=>D.int (Qw m (Qt R L) i j))from rfl,Za,Qra ⋯ ⋯];rfl
   exact QaN (rfl) e rfl
  ·have g:=Qdc hR hL;rw[QdG hi hi λs hs=>⟨(g s hs).1,(g s hs).2.1⟩,sum_neg _ i λs hs=>(g s hs).2.2.2.2,QnL];show D.int (0- -(Qcy R L i))=_;rw[show(0:Int)- -(Qcy R L i)=Qcy R L i by omega]
theorem QrE(a b:Int):deq (.int a) (.int b)=decide (a=b):=by
 show PyData.eqv (.int a) (.int b)=_;unfold PyData.eqv;exact Bool.beq_eq_decide_eq a b
theorem Qbu(ha:fa U=some ra)(ea:ra.d= .int a)(hb:fb U=some rb)(eb:rb.d= .int b):dOp gEq fa fb U=some (reT (.bl (decide (a=b)))):=by
 refine QaN ha hb ?_;rw[ea,eb];show some (D.bl (deq (.int a) (.int b)))=_;rw[QrE]
theorem Qc4(ha:fa U=some ra)(ea:ra.d= .int a)(hb:fb U=some rb)(eb:rb.d= .int b):dOp gNe fa fb U=some (reT (.bl (!decide (a=b)))):=by
 refine QaN ha hb ?_;rw[ea,eb];show some (D.bl (!deq (.int a) (.int b)))=_;rw[QrE]
theorem Qxo(ha:fa U=some (reT (.bl a)))(hb:fb U=some (reT (.bl b))):dOr fa fb U=some (reT (.bl (a || b))):=by
 unfold dOr;rw[ha];cases a<;>simp[D.tru,hb]
theorem Qpn(ha:fa U=some (reT (.bl a)))(hb:fb U=some (reT (.bl b))):QcY fa fb U=some (reT (.bl (a && b))):=by
 unfold QcY;rw[ha];cases a<;>simp[D.tru,hb]
theorem QQ(ha:fa U=some r)(e:r.d= .bl b):QF fa U=some b:=by
 unfold QF;rw[ha,Za,e];rfl
theorem Qc2(h:g U=some b):Qdo g U=some (!b):=by unfold Qdo;rw[h];rfl
theorem Qgj(ha:g1 U=some a)(hb:g2 U=some b):bOr g1 g2 U=some (a || b):=by
 unfold bOr;rw[ha];cases a<;>simp[hb]
theorem QyJ(ha:g1 U=some a)(hb:g2 U=some b):Qih g1 g2 U=some (a && b):=by
 unfold Qih;rw[ha];cases a<;>simp[hb]
theorem Q8(ha:fa U=some ra)(ea:ra.d= .int a)(hb:fb U=some rb)(eb:rb.d= .int b)(h:Qd3 a b=true):QY fa fb U=some (reI (a*b)):=by
 unfold QY;rw[ha,Za,hb,Za,ea,eb];simp[h]
theorem Q9(ha:fa U=some ra)(ea:ra.d= .int a)(hb:fb U=some rb)(eb:rb.d= .int b):QL fa fb U=some (reI (a+b)):=by
 unfold QL;rw[ha,Za,hb,Za,ea,eb]
theorem Qad(ha:fa U=some ra)(ea:ra.d= .int a)(hb:fb U=some rb)(eb:rb.d= .int b)(h:0<b):dOp Q3 fa fb U=some (reI (a % b)):=by
 refine QaN ha hb ?_;rw[ea,eb];show(if b≠0 then some (D.int (QdM a b))else none)=_;rw[if_pos ⋯,QwU _ _ ⋯]
theorem Qe5(ha:fa U=some ra)(ea:ra.d= .int a)(hb:fb U=some rb)(eb:rb.d= .int b)(h:0<b)(h2:b<2^64):dOp Qbb fa fb U=some (reI (a / b)):=by
 refine QaN ha hb ?_;rw[ea,eb];have:Qci b=true:=by
  unfold Qci;have h3:b.natAbs<2^8000:=Zp (by omega:b.natAbs<2^64) (Zr (by decide) (by decide));simp only[Zm,decide_eq_true_eq];exact⟨⋯,h3⟩
 show(if Qci b=true then some (D.int (Qep a b))else none)=_;rw[if_pos this,Qlq _ _ ⋯]
theorem Qbk(h:fa U=some r):Qal fa U=some ⟨r.d,false,r.M⟩:=by unfold Qal;rw[h];rfl
theorem QmP{fa fb:DE}{U:En}{ra rb:R}{m:Nat}{f:Mt1}{i:Int}(ha:fa U=some ra)(ea:ra.d=Qb m f)(hb:fb U=some rb)(eb:rb.d= .int i)(h0:0<=i)(h:i<m):Qm fa fb U=some (reI (f i.toNat)):=by
 unfold Qm;rw[ha,Za,hb,Za,ea,eb];simp only[Qb,D.items,Za,Qra h0 h,ZU];rfl
theorem QjL{fa fb:DE}{U:En}{ra rb:R}{ns:List Int}{i:Int}{v:Int}(ha:fa U=some ra)(ea:ra.d= .lst (ns.map .int))(hb:fb U=some rb)(eb:rb.d= .int i)(h0:0<=i)(h:ns[i.toNat]? =some v):Qm fa fb U=some (reI v):=by
 have hl:i<ns.length:=by have:=(Zk.mp h).1;omega
 unfold Qm;rw[ha,Za,hb,Za,ea,eb];simp only[D.items,Za];rw[QjO h0 (by simpa using hl),Zs,h];rfl
theorem Qs4{m n:Nat}{f:Mt1}(h:n<=m):cutD ((List.range m).map λi=>D.int (f i)) none (some (n:Int))=(List.range n).map λi=>D.int (f i):=by
 unfold cutD;simp only[Zq,ZC,HT.Qo7,HT.QrJ,List.drop_zero,Nat.sub_zero,Zcg h];rw[← List.map_take,List.take_range,Zcg h]
theorem Qq1{fa fb:DE}{U:En}{ra rb:R}{m n:Nat}{f:Mt1}(ha:fa U=some ra)(ea:ra.d=Qb m f)(hb:fb U=some rb)(eb:rb.d= .int n)(h:n<=m):Qdp fa Qch (Qcf fb) U=some (reT (Qb n f)):=by
 unfold Qdp Qch Qcf;rw[ha,Za,hb,ea];simp only[Za,eb,Qb,Qs4 h,Qbv,Qt3,if_true]
theorem Qls(h:fs U=some r)(hd:den (r.ds++dfl)=some (d,fr))(hl:r.ds.length+dfl.length=n):Qf n den dfl fs U=some (if fr=true then⟨d,true,[]⟩else HS.R.norm ⟨d,false,r.M⟩):=by
 unfold Qf;rw[h,Za,if_pos hl,hd];rfl
noncomputable def QbP(t k:Int):Int:=(t+17)*(k*k+7*k+11)*69621 % 2147483647
noncomputable def QfT(m t k:Int):Int:=if QbP t k % (k+1)<k then(QbP t k % (k+1)+t) % m else m
noncomputable def Qfp(m t kind:Int)(k:Int):Int×Int×Bool:=((k+t) % m,QfT m t k,decide (kind=2) || (decide (kind=3) && decide (QbP t k / 64 % 2=1)))
noncomputable def QcG(m:Nat)(t kind:Int):List (Int×Int×Bool):=(List.range m).map λ(k:Nat)=>Qfp m t kind k
def GoodW(m:Nat)(w:Int×Int×Bool):Prop:=Good m (w.1,w.2.1)/\(w.2.2=true->w.1<m)
noncomputable def Qab(W:List (Int×Int×Bool)):D:= .lst (W.map Qdn)
@[simp] theorem QCP(W:List (Int×Int×Bool)):(Qab W).flat=false:=rfl
theorem QtW{a x n:Int}(h1:0<x)(h2:x<n):(a+x) % n≠a % n:=λh=>by
 have h3:(a+x-a) % n=0:=Int.emod_eq_emod_iff_emod_sub_eq_zero.mp h;rw[show a+x-a=x by omega,Zbs ⋯ h2]at h3;omega
theorem Qto{m:Nat}{t kind:Int}{k:Nat}(hk:k<m):GoodW m (Qfp m t kind k):=by
 have hm:(0:Int)<m:= ⋯
 have h1:=ZD ((k:Int)+t) (by omega:(m:Int)≠0);have h2:=ZA ((k:Int)+t) hm;unfold Qfp QfT;split
 ·rename_i hlt;have h3:=ZD (QbP t k) (by omega:((k:Int)+1)≠0);have h4:=ZD (QbP t k % (k+1)+t) (by omega:(m:Int)≠0);have h5:=ZA (QbP t k % (k+1)+t) hm;refine⟨⟨h1,h4,by dsimp only;omega,by dsimp only;omega,?_⟩,λ_=>by dsimp only;omega⟩;dsimp only;have h6:=QtW (a:=QbP t k % (k+1)+t) (x:=k-QbP t k % (k+1)) (n:=m) ⋯ ⋯;rw[show QbP t k % (k+1)+t+(k-QbP t k % (k+1))=k+t by omega]at h6;exact h6
 ·exact⟨⟨h1,by dsimp only;omega,by dsimp only;omega,by dsimp only;omega,by dsimp only;omega⟩,λ_=>by dsimp only;omega⟩
noncomputable def Qqp:DS:=(Qd (Qo 3 (QX Qc)) (Qd (QaW (Qa7 vv0) (.nm 4) (Qd (Qo 5 (dOp Q3 (QY (QY (QL vv1 QDf) (QL (QL (QY vv4 vv4) (QY kk7 vv4)) QC6)) Qzb) Qgo)) (Qd (Qo 6 (Qal vv0)) (Qd (sIf (QF (dOp gLt (dOp Q3 vv5 (QL vv4 kk1)) vv4)) (Qd (Qo 6 (dOp Q3 (QL (dOp Q3 vv5 (QL vv4 kk1)) vv1) vv0)) Qh) Qh) (Qd (QkH 3 QaQ (Qar (Qa (dOp Q3 (QL vv4 vv1) vv0) (Qa vv6 (Qa (dOr (dOp gEq vv2 kk2) (QcY (dOp gEq vv2 kk3) (dOp gEq (dOp Q3 (dOp Qbb vv5 QDG) kk2) kk1))) Qc))))) Qh))))) (Qd (QC vv3) Qh)))
theorem QyS(hx:U[x]? =some (slT (.lst xs)))(ha:fa U=some r)(hf:r.d.flat=true)(hl:xs.length<16777216)(q:Q (.nx (U.set x (slT (.lst (xs++[r.d])))))):Run (QkH x QaQ fa) U Q:=by
 refine⟨_,?_,q⟩;have hn:r.norm=⟨r.d,true,[]⟩:=by unfold HS.R.norm;rw[if_pos hf]
 unfold QkH;rw[hx];simp only[QaQ,Za,ha,QbY,QoE,hn,QbN,kill,QjF];simp[hl]
def Qqk(d:Den):Prop:=∀(m:Nat) (t kind:Int),0<m->m<=1000->0<=t->t<2000000->d [.int m,.int t,.int kind]=some (Qab (QcG m t kind),true)
theorem Qzl:Qqk (Qu 7 Qqp):=λm t kind h0 hm ht ht2=>by
 refine QN ?_;refine rsa (d:= .lst []) rfl ?_;refine run_seq (Qav (List.range m) (λi U=>∃j4 j5 j6,U=[slI m,slI t,slI kind,slT (.lst (((List.range i).map λ(k:Nat)=>Qfp m t kind k).map Qdn)),j4,j5,j6]) (Qbl (n:=m) (r:=reI m) rfl rfl ⋯) rfl ⟨none,none,none,rfl⟩ ?_ ?_)
 ·rintro i k U hi ⟨j4,j5,j6,rfl⟩;have hk:i<m/\i=k:=by
   obtain⟨h1,h2⟩:=Zk.mp hi;simp at h1 h2;exact⟨h1,h2⟩
  obtain⟨hk,rfl⟩:=hk;refine⟨_,rfl,?_⟩;have n1:(t+17).natAbs<2^64:= ⋯
  have n2:(69621:Int).natAbs<2^64:=by decide
  refine run_seq (QA (r:=reI (QbP t i)) ?_ ?_)
  ·exact Qad (Q8 (Q8 (Q9 (a:=t) (b:=17) rfl rfl rfl rfl) rfl (Q9 (Q9 (Q8 (a:=(i:Int)) (b:=i) rfl rfl rfl rfl (Qcm ⋯)) rfl (Q8 (a:=7) (b:=(i:Int)) rfl rfl rfl rfl (Qcm (by decide))) rfl) rfl (Qcc (.int 11) _) rfl) rfl (Qcm n1)) rfl (Qcc (.int 69621) _) rfl (QcP n2)) rfl (Qcc (.int 2147483647) _) rfl (by decide)
  ·rw[Q4];refine run_seq (QA (r:=reF (.int m)) rfl ?_);rw[QdO rfl];refine run_seq (f:=sIf _ _ _) (Run.mono (Q:=Nx λU=>U=[slI m,slI t,slI kind,slT (.lst (((List.range i).map λ(k:Nat)=>Qfp m t kind k).map Qdn)),slI i,slI (QbP t i),slI (QfT m t i)]) ?_ ?_)
   ·have e1:∀(U:En),U=[slI m,slI t,slI kind,slT (.lst (((List.range i).map λ(k:Nat)=>Qfp m t kind k).map Qdn)),slI i,slI (QbP t i),slI m]->dOp Q3 (Ql 5) (QL (Ql 4) (dC (.int 1))) U=some (reI (QbP t i % (i+1))):=by
     rintro U rfl;exact Qad (a:=QbP t i) (b:=(i:Int)+1) rfl rfl (Q9 (a:=(i:Int)) (b:=1) rfl rfl rfl rfl) rfl ⋯
    refine QB (b:=decide (QbP t i % (i+1)<i)) (QQ (QaN (e1 _ rfl) rfl rfl) rfl) (λh=>?_) (λh=>?_)
    ·have h:=of_decide_eq_true h;refine run_seq (QA (Qad (a:=QbP t i % (i+1)+t) (b:=m) (Q9 (a:=QbP t i % (i+1)) (b:=t) (e1 _ rfl) rfl rfl rfl) rfl rfl rfl ⋯) (Qj ?_));rw[Q4];unfold QfT;rw[if_pos h];rfl
    ·have h:=of_decide_eq_false h;refine Qj ?_;unfold QfT;rw[if_neg h];rfl
   ·intro o ho;cases o with
    | nx U=>
     subst ho;refine run_seq (QyS (r:=⟨Qdn (Qfp m t kind i),true,[]⟩) rfl ?_ rfl (by simp;omega) ?_)
     ·have e:=Qxo (Qbu (a:=kind) (b:=2) (fa:=Ql 2) (fb:=dC (.int 2)) (U:=[slI m,slI t,slI kind,slT (.lst (((List.range i).map λ(k:Nat)=>Qfp m t kind k).map Qdn)),slI i,slI (QbP t i),slI (QfT m t i)]) rfl rfl rfl rfl)
       (Qpn (Qbu (fa:=Ql 2) (fb:=dC (.int 3)) rfl rfl rfl rfl) (Qbu (fb:=dC (.int 1)) (Qad (fb:=dC (.int 2)) (Qe5 (fa:=Ql 5) (fb:=dC (.int 64)) rfl rfl rfl rfl (by decide) (by decide)) rfl rfl rfl (by decide)) rfl rfl rfl))
      have e2:dOp Q3 (QL (Ql 4) (Ql 1)) (Ql 0) [slI m,slI t,slI kind,slT (.lst (((List.range i).map λ(k:Nat)=>Qfp m t kind k).map Qdn)),slI i,slI (QbP t i),slI (QfT m t i)]=some (reI ((i+t) % m)):=
       Qad (Q9 rfl rfl rfl rfl) rfl rfl rfl ⋯
      unfold Qar;rw[Qn e2 (Qn rfl (Qn e (QP _)))];rfl
     ·refine Qj ⟨slI i,slI (QbP t i),slI (QfT m t i),?_⟩;show [slT (D.int m),slT (D.int t),slT (D.int kind),slT (D.lst (((List.range i).map λ(k:Nat)=>Qfp m t kind k).map Qdn++[Qdn (Qfp m t kind i)])),_,_,_]=_;rw[Zch,ZaI,ZaI];rfl
    | _=>exact False.elim ho
 ·rintro U ⟨j4,j5,j6,rfl⟩;rw[ZC];exact Qy rfl ⟨rfl,rfl⟩
noncomputable def Qkr:DS:=(Qd (Qo 2 (QY (QX (Qa kk0 Qc)) (QL vv0 kk1))) (Qd (QaW (QW vv1) (.tp [3,4,5]) (Qd (QcQ 2 QaQ vv3 (QL (Qm vv2 vv3) kk1)) (Qd (sIf (Qdo (QF vv5)) (Qd (QcQ 2 QaQ vv4 (QL (Qm vv2 vv4) kk1)) Qh) Qh) Qh))) (Qd (Qo 6 kk1) (Qd (QaW (QW (Qdp vv2 Qch (Qcf vv0))) (.nm 7) (Qd (Qo 6 (QY vv6 vv7)) Qh)) (Qd (QC (dOp gLe vv6 QB5)) Qh)))))
theorem Qrt{x y m:Nat}{f:Mt1}{U:En}{i:Int}{b:Bool}{Q:Out->Prop}(hx:U[x]? =some (slT (Qb m f)))(hy:U[y]? =some (some (.int i,b)))(h0:0<=i)(h:i<m)
  (q:Q (.nx (U.set x (slT (Qb m (up f i.toNat (f i.toNat+1))))))):Run (QcQ x QaQ (Ql y) (QL (Qm (Ql x) (Ql y)) (dC (.int 1)))) U Q:=by
 have e1:Ql y U=some (reI i):=QzD hy;have e2:=QcK hx;exact Qlh hx e1 rfl (Q9 (QmP e2 (by simp) e1 rfl h0 h) rfl (Qcc (.int 1) _) rfl) rfl h0 h q
def QpG(d:Den):Prop:=∀(m:Nat) (W:List (Int×Int×Bool)),m<=1000->W.length<=100000->(∀w∈W,GoodW m w)->∃b,d [.int m,Qab W]=some (.bl b,true)
theorem Run.nx(h:Run f U (Nx Q))(m:∀U,Q U->Q' U):Run f U (Nx Q'):=h.mono λo ho=>by
 cases o with
 | nx U=>exact m U ho
 | _=>exact ho.elim
theorem QbO(h:Run f U (Nx P))(k:∀U',P U'->Run g U' Q):Run (Qd f g) U Q:=run_seq (h.nx k)
theorem Que{m:Nat}{W:List (Int×Int×Bool)}{r1 r2:Option (D×Bool)}(hg:∀w∈W,GoodW m w):
  Run (QaW (QW (Ql 1)) (.tp [3,4,5]) (Qd (QcQ 2 QaQ (Ql 3) (QL (Qm (Ql 2) (Ql 3)) (dC (.int 1)))) (Qd (sIf (Qdo (QF (Ql 5))) (Qd (QcQ 2 QaQ (Ql 4) (QL (Qm (Ql 2) (Ql 4)) (dC (.int 1)))) Qh) Qh) Qh)))
   [slI m,slF (Qab W),slT (Qb (m+1) λ_=>0),none,none,none,r1,r2] (Nx λU=>∃f j3 j4 j5,(∀k,0<=f k/\f k<=2*(W.length:Int))/\U=[slI m,slF (Qab W),slT (Qb (m+1) f),j3,j4,j5,r1,r2]):=by
 refine Qav W (λi U=>∃f j3 j4 j5,(∀k,0<=f k/\f k<=2*(i:Int))/\U=[slI m,slF (Qab W),slT (Qb (m+1) f),j3,j4,j5,r1,r2]) rfl rfl ⟨λ_=>0,none,none,none,λk=>⟨by simp,by simp⟩,rfl⟩ ?_ ?_
 ·rintro i w U hi ⟨f,j3,j4,j5,hf,rfl⟩;obtain⟨⟨h1,h2,h3,h4,h5⟩,h6⟩:=hg w (Zax hi);refine⟨_,rfl,?_⟩;refine run_seq (Qrt rfl rfl h1 ⋯ ?_);have hf1:∀k,0<=up f w.1.toNat (f w.1.toNat+1) k/\up f w.1.toNat (f w.1.toNat+1) k<=2*(i:Int)+1:=λk=>by
   have a:=hf k;have b:=hf w.1.toNat
   unfold up;split<;>omega
  refine run_seq (QB (Qc2 (QQ rfl rfl)) (λ_=>run_seq (Qrt rfl rfl h2 ⋯ (Qj (Qj ⟨_,_,_,_,λk=>?_,rfl⟩)))) (λ_=>Qj (Qj ⟨_,_,_,_,λk=>?_,rfl⟩)))
  ·have a:=hf1 k;have b:=hf1 w.2.1.toNat
   unfold up at a b ⊢;split<;>omega
  ·have a:=hf1 k;omega
 ·rintro U ⟨f,j3,j4,j5,hf,rfl⟩;exact⟨f,j3,j4,j5,hf,rfl⟩
theorem Qtt{n:Nat}{f:Mt1}{a b c d e g:Option (D×Bool)}{fi:DI}(hi:fi [a,b,c,d,e,g,slI 1,none]=some ⟨(List.range n).map λ(k:Nat)=> .int (f k),[]⟩)(hf:∀k,0<=f k/\f k<2^64):
  Run (QaW fi (.nm 7) (Qd (Qo 6 (QY (Ql 6) (Ql 7))) Qh)) [a,b,c,d,e,g,slI 1,none] (Nx λU=>∃(z:Int) (j:Option (D×Bool)),U=[a,b,c,d,e,g,slI z,j]):=by
 refine Qav (List.range n) (λi U=>∃(z:Int) (j:Option (D×Bool)),U=[a,b,c,d,e,g,slI z,j]) hi rfl ⟨1,none,rfl⟩ ?_ ?_
 ·rintro i k U _ ⟨z,j,rfl⟩;have:=hf k;exact⟨_,rfl,run_seq (QA (Q8 rfl rfl rfl rfl (QcP ⋯)) (Qj ⟨z*f k,_,rfl⟩))⟩
 ·rintro U ⟨z,j,rfl⟩;exact⟨z,j,rfl⟩
theorem QxD:QpG (Qu 8 Qkr):=λm W hm hl hg=>by
 have key:Run Qkr (QaU 8 [.int m,Qab W]) (Rt λd fr=>∃b,d= .bl b/\fr=true):=by
  refine rsa (QhG (n:=m+1) (Q9 rfl rfl rfl rfl) rfl ⋯) ?_;refine QbO (Que hg) ?_;rintro U ⟨f,j3,j4,j5,hf,rfl⟩;refine rsa rfl ?_;refine QbO (Qtt (Q2 (Qq1 rfl rfl rfl rfl ⋯) rfl) λk=>⟨(hf k).1,by have:=(hf k).2;omega⟩) ?_;rintro U ⟨z,j,rfl⟩;exact Qy (QaN rfl rfl rfl) ⟨_,rfl,rfl⟩
 obtain⟨o,h1,h2⟩:=key;cases o with
 | rt d fr=>
  obtain⟨b,rfl,rfl⟩:=h2;exact⟨b,by unfold Qu;rw[h1];rfl⟩
 | _=>exact h2.elim
noncomputable def Qko(QbK:Den):DS:=(Qd (QaW (QW vv1) (.nm 4) (Qd (Qo 5 (dOp Q3 (QY vv4 QmV) Qgo)) (Qd (Qo 6 (dOp Q3 vv5 (QL vv2 kk1))) (Qd (Qo 7 (dOp Q3 (QL (QL vv6 kk1) (dOp Q3 (dOp Qbb vv5 kk9) vv2)) (QL vv2 kk1))) (Qd (Qo 8 (Qar (Qa vv6 (Qa vv7 (Qa (QcY (dOp gLt vv6 vv2) (dOr (dOp gEq vv3 kk2) (QcY (dOp gEq vv3 kk3) (dOp gEq (dOp Q3 (dOp Qbb vv5 QDv) kk3) kk1)))) Qc))))) (Qd (sIf (bOr (Qih (QF (dOp gNe vv3 kk2)) (QF (dOp gNe vv3 kk3))) (QF (Qf 2 QbK [] (Qa vv2 (Qa (QL vv0 (QX (Qa vv8 Qc))) Qc))))) (Qd (Qo 0 (QL vv0 (QX (Qa vv8 Qc)))) Qh) Qh) Qh)))))) (Qd (QC vv0) Qh))
noncomputable def QcH(c:Int):Int:=c*48271 % 2147483647
noncomputable def mStart(m c:Int):Int:=QcH c % (m+1)
noncomputable def Qln(m c:Int):Int:=(mStart m c+1+QcH c / 9 % m) % (m+1)
noncomputable def Qfo(m kind c:Int):Int×Int×Bool:=(mStart m c,Qln m c,decide (mStart m c<m) && (decide (kind=2) || (decide (kind=3) && decide (QcH c / 72 % 3=1))))
theorem QuB{m:Nat}(hm:0<m)(kind c:Int):GoodW m (Qfo m kind c):=by
 have h1:=ZD (QcH c) (by omega:(m:Int)+1≠0);have h2:=ZA (QcH c) (by omega:(0:Int)<m+1);have h3:=ZD (QcH c / 9) (by omega:(m:Int)≠0);have h4:=ZA (QcH c / 9) (by omega:(0:Int)<m);have h5:=ZD (mStart m c+1+QcH c / 9 % m) (by omega:(m:Int)+1≠0);have h6:=ZA (mStart m c+1+QcH c / 9 % m) (by omega:(0:Int)<m+1);have h7:=QtW (a:=mStart m c) (x:=1+QcH c / 9 % m) (n:=(m:Int)+1) ⋯ ⋯;rw[← Int.add_assoc,show mStart m c % ((m:Int)+1)=mStart m c from Zbs h1 h2]at h7;refine⟨⟨h1,h5,?_,?_,λz=>h7 z.symm⟩,λh=>?_⟩
 ·show mStart m c<=m;unfold mStart;omega
 ·show Qln m c<=m;unfold Qln;omega
 ·have:(Qfo m kind c).2.2=(decide (mStart m c<m) && (decide (kind=2) || (decide (kind=3) && decide (QcH c / 72 % 3=1)))):=rfl;rw[this,Zm,decide_eq_true_eq]at h;exact h.1
theorem Qx1{fa fb:DE}{U:En}{ra rb:R}{A B:List (Int×Int×Bool)}(ha:fa U=some ra)(ea:ra.d=Qab A)(hb:fb U=some rb)(eb:rb.d=Qab B)(hl:A.length+B.length<=16777216):QL fa fb U=some (reT (Qab (A++B))):=by
 unfold QL;rw[ha,Za,hb,Za,ea,eb];simp only[Qab,Zq,QjF,if_pos hl,Qbv];simp
theorem Qwp{m:Nat}{kind c:Int}{s0 s1 s5 s6 s7 s8:Option (D×Bool)}{g:DS}{Q:Out->Prop}(hm:0<m)
  (k:Run g [s0,s1,slI m,slI kind,slI c,slI (QcH c),slI (mStart m c),slI (Qln m c),some (Qdn (Qfo m kind c),true)] Q):
  Run (Qd (Qo 5 (dOp Q3 (QY (Ql 4) (dC (.int 48271))) (dC (.int 2147483647)))) (Qd (Qo 6 (dOp Q3 (Ql 5) (QL (Ql 2) (dC (.int 1))))) (Qd (Qo 7 (dOp Q3 (QL (QL (Ql 6) (dC (.int 1))) (dOp Q3 (dOp Qbb (Ql 5) (dC (.int 9))) (Ql 2))) (QL (Ql 2) (dC (.int 1))))) (Qd (Qo 8 (Qar (Qa (Ql 6) (Qa (Ql 7) (Qa (QcY (dOp gLt (Ql 6) (Ql 2)) (dOr (dOp gEq (Ql 3) (dC (.int 2))) (QcY (dOp gEq (Ql 3) (dC (.int 3))) (dOp gEq (dOp Q3 (dOp Qbb (Ql 5) (dC (.int 72))) (dC (.int 3))) (dC (.int 1)))))) Qc))))) g))))
   [s0,s1,slI m,slI kind,slI c,s5,s6,s7,s8] Q:=by
 refine rsa (Qad (b:=2147483647) (Q8 (a:=c) (b:=48271) rfl rfl rfl rfl (QcP (by decide))) rfl rfl rfl (by decide)) ?_;refine rsa (Qad (a:=QcH c) (b:=(m:Int)+1) rfl rfl (Q9 (a:=(m:Int)) (b:=1) rfl rfl rfl rfl) rfl ⋯) ?_;refine rsa (Qad (a:=mStart m c+1+QcH c / 9 % m) (b:=(m:Int)+1) (Q9 (Q9 (a:=mStart m c) (b:=1) rfl rfl rfl rfl) rfl (Qad (a:=QcH c / 9) (b:=m) (Qe5 (a:=QcH c) (b:=9) rfl rfl rfl rfl (by decide) (by decide)) rfl rfl rfl ⋯) rfl) rfl (Q9 (a:=(m:Int)) (b:=1) rfl rfl rfl rfl) rfl ⋯) ?_;refine run_seq (QA (r:=⟨Qdn (Qfo m kind c),true,[]⟩) ?_ ?_)
 ·have e:=Qpn (U:=[s0,s1,slI m,slI kind,slI c,slI (QcH c),slI (mStart m c),slI (Qln m c),s8])
   (QaN (g:=gLt) (fa:=Ql 6) (fb:=Ql 2) rfl rfl rfl)
   (Qxo (Qbu (fa:=Ql 3) (fb:=dC (.int 2)) rfl rfl rfl rfl)
    (Qpn (Qbu (fa:=Ql 3) (fb:=dC (.int 3)) rfl rfl rfl rfl) (Qbu (fb:=dC (.int 1)) (Qad (fb:=dC (.int 3)) (Qe5 (fa:=Ql 5) (fb:=dC (.int 72)) rfl rfl rfl rfl (by decide) (by decide)) rfl rfl rfl (by decide)) rfl rfl rfl)))
  have t:Qar (Qa (Ql 6) (Qa (Ql 7) (Qa (QcY (dOp gLt (Ql 6) (Ql 2)) (dOr (dOp gEq (Ql 3) (dC (.int 2))) (QcY (dOp gEq (Ql 3) (dC (.int 3))) (dOp gEq (dOp Q3 (dOp Qbb (Ql 5) (dC (.int 72))) (dC (.int 3))) (dC (.int 1)))))) Qc))) [s0,s1,slI m,slI kind,slI c,slI (QcH c),slI (mStart m c),slI (Qln m c),s8]=some ⟨Qdn (Qfo m kind c),true,[]⟩:=by
   unfold Qar;rw[Qn rfl (Qn rfl (Qn e (QP _)))];rfl
  exact t
 ·rw[Q4];exact k
def QoP(d:Den):Prop:=∀(m:Nat) (W:List (Int×Int×Bool)) (cs:List Int) (kind:Int),0<m->m<=1000->W.length+cs.length<=10000->(∀w∈W,GoodW m w)→
 ∃W' fr,d [Qab W,.lst (cs.map .int),.int m,.int kind]=some (Qab (W++W'),fr)/\W'.length<=cs.length/\∀w∈W',GoodW m w
theorem QyO{QbK:Den}(hf:QpG QbK):QoP (Qu 9 (Qko QbK)):=λm W cs kind h0 hm hl hg=>by
 have key:Run (Qko QbK) (QaU 9 [Qab W,.lst (cs.map .int),.int m,.int kind]) (Rt λd fr=>∃W',d=Qab (W++W')/\W'.length<=cs.length/\∀w∈W',GoodW m w):=by
  refine run_seq (Qav cs (λi U=>∃W' b j4 j5 j6 j7 j8,W'.length<=i/\(∀w∈W',GoodW m w)/\U=[some (Qab (W++W'),b),slF (.lst (cs.map .int)),slI m,slI kind,j4,j5,j6,j7,j8]) rfl rfl ⟨[],false,none,none,none,none,none,Zab _,λw hw=>absurd hw (by simp),by rw[ZaO];rfl⟩ ?_ ?_)
  ·rintro i c U hi ⟨W',b,j4,j5,j6,j7,j8,hw1,hw2,rfl⟩;have hil:i<cs.length:=(Zk.mp hi).1;have gw:=QuB h0 kind c;refine⟨_,rfl,Qwp h0 ?_⟩
   have eadd:QL (Ql 0) (QX (Qa (Ql 8) Qc)) [some (Qab (W++W'),b),slF (.lst (cs.map .int)),slI m,slI kind,slI c,slI (QcH c),slI (mStart m c),slI (Qln m c),some (Qdn (Qfo m kind c),true)]=some (reT (Qab (W++W'++[Qfo m kind c]))):=
    Qx1 (QcK rfl) (by cases b<;>rfl) rfl rfl (by simp;omega)
   have gg:∀w∈W++W'++[Qfo m kind c],GoodW m w:=λw hw=>by
    rcases ZF.mp hw with h | h
    ·rcases ZF.mp h with h | h
     ·exact hg w h
     ·exact hw2 w h
    ·have:w=Qfo m kind c:=by simpa using h
     rw[this];exact gw
   obtain⟨bf,hbf⟩:=hf m (W++W'++[Qfo m kind c]) hm (by simp;omega) gg;refine run_seq (QB (Qgj (QyJ (QQ (Qc4 rfl rfl rfl rfl) rfl) (QQ (Qc4 rfl rfl rfl rfl) rfl)) (QQ (Qi (Qn rfl (Qn eadd (QP _))) hbf rfl) rfl)) (λ_=>run_seq (QA eadd (Qj ?_))) (λ_=>Qj (Qj ⟨W',b,_,_,_,_,_,⋯,hw2,rfl⟩)));rw[Q4];refine Qj ⟨W'++[Qfo m kind c],true,_,_,_,_,_,by simp;omega,λw hw=>?_,by rw[Zba];rfl⟩;rcases ZF.mp hw with h | h
   ·exact hw2 w h
   ·have:w=Qfo m kind c:=by simpa using h
    rw[this];exact gw
  ·rintro U ⟨W',b,j4,j5,j6,j7,j8,hw1,hw2,rfl⟩;exact Qy (QcK rfl) ⟨W',by cases b<;>rfl,hw1,hw2⟩
 obtain⟨o,h1,h2⟩:=key;cases o with
 | rt d fr=>
  obtain⟨W',rfl,h3,h4⟩:=h2;exact⟨W',fr,by unfold Qu;rw[h1];rfl,h3,h4⟩
 | _=>exact h2.elim
noncomputable def Qfe(w:Int×Int×Bool):Int×Int:=(if w.2.1<w.1 then w.2.1 else w.1,if w.2.1>w.1 then w.2.1 else w.1)
noncomputable def Qtr(w:Int×Int×Bool):Int×Int:=(w.1,w.2.1)
noncomputable def Qc9(W:List (Int×Int×Bool)):List (Int×Int):=(W.filter λw=> !w.2.2).map Qfe
noncomputable def QdU(W:List (Int×Int×Bool)):List (Int×Int):=(W.filter λw=>w.2.2).map Qtr
theorem Qmd{m:Nat}{W:List (Int×Int×Bool)}(h:∀w∈W,GoodW m w):∀s∈Qc9 W,Good m s/\s.1<s.2:=λs hs=>by
 obtain⟨w,hw,rfl⟩:=ZL.mp hs;obtain⟨⟨h1,h2,h3,h4,h5⟩,_⟩:=h w (ZaB.mp hw).1;simp only at h1 h2 h3 h4 h5;unfold Qfe Good;simp only;split<;>split<;>omega
theorem QlU{m:Nat}{W:List (Int×Int×Bool)}(h:∀w∈W,GoodW m w):∀s∈QdU W,Good m s/\s.1<m:=λs hs=>by
 obtain⟨w,hw,rfl⟩:=ZL.mp hs;obtain⟨h1,h2⟩:=h w (ZaB.mp hw).1;exact⟨h1,h2 (by simpa using(ZaB.mp hw).2)⟩
theorem Qtd(W:List (Int×Int×Bool)):(Qc9 W).length<=W.length:=by unfold Qc9;rw[Zq];exact List.length_filter_le _ _
theorem Quk(W:List (Int×Int×Bool)):(QdU W).length<=W.length:=by unfold QdU;rw[Zq];exact List.length_filter_le _ _
theorem QvI{fa:DE}{U:En}{r:R}{W:List (Int×Int×Bool)}(h:fa U=some r)(e:r.d=Qab W):QG (QW fa) (.tp [1,2,3]) [none,none,none,none] (Qdo (QF (Ql 3))) (Qar (Qa (dBf QlF (Qa (Ql 1) (Qa (Ql 2) Qc))) (Qa (dBf Qmo (Qa (Ql 1) (Qa (Ql 2) Qc))) Qc))) U=some (reT (Qay (Qc9 W))):=by
 rw[QfG W (Q2 h e) rfl λw _=>⟨[none,slI w.1,slI w.2.1,slT (.bl w.2.2)],rfl,Qc2 (QQ rfl rfl),λ_=>⟨⟨pairD (Qfe w),true,[]⟩,rfl,rfl,rfl⟩⟩];unfold Qay Qc9;rw[Zaw];rfl
theorem Qwq{fa:DE}{U:En}{r:R}{W:List (Int×Int×Bool)}(h:fa U=some r)(e:r.d=Qab W):QG (QW fa) (.tp [1,2,3]) [none,none,none,none] (QF (Ql 3)) (Qar (Qa (Ql 1) (Qa (Ql 2) Qc))) U=some (reT (Qay (QdU W))):=by
 rw[QfG W (Q2 h e) rfl λw _=>⟨[none,slI w.1,slI w.2.1,slT (.bl w.2.2)],rfl,QQ rfl rfl,λ_=>⟨⟨pairD (Qtr w),true,[]⟩,rfl,rfl,rfl⟩⟩];unfold Qay QdU;rw[Zaw];rfl
theorem QpI{m:Nat}{t kind:Int}:∀w∈QcG m t kind,GoodW m w:=λw hw=>by
 obtain⟨k,hk,rfl⟩:=ZL.mp hw;exact Qto (Zg.mp hk)
theorem Qqe(m:Nat)(t kind:Int):(QcG m t kind).length=m:=by simp[QcG]
theorem Qco:up f i v k=if k=i then v else f k:=rfl
theorem Qnk{fa:DE}{U:En}{r:R}{m:Int}{R L:Lpp}(h:fa U=some r)(e:r.d=Qz m R L):
  Qm fa (dC (.int 0)) U=some (reI m)/\Qm fa (dC (.int 1)) U=some ⟨Qay R,r.fr,r.M⟩/\Qm fa (dC (.int 2)) U=some ⟨Qay L,r.fr,r.M⟩:=by
 unfold Qm;rw[h];simp only[Za,e,Qcc];exact⟨rfl,rfl,rfl⟩
theorem Qfb(h:fa U=some r)(e:r.d= .lst xs):dBf Qa3 (Qa fa Qc) U=some (reI xs.length):=by
 unfold dBf;rw[Qn h (QP _),Za];simp[e,Qa3]
theorem QAM(ha:fa U=some ra)(ea:ra.d=d)(hb:fb U=some rb)(eb:rb.d=d)(hs:d.sim 8=true):dOp gNe fa fb U=some (reT (.bl false)):=by
 refine QaN ha hb ?_;rw[ea,eb];unfold gNe;rw[hs,Qo0 hs];rfl
def QpC(d:Den):Prop:=∀(m:Nat) (R L:Lpp),m<=1000->R.length+R.length+L.length<=1000000->(∀s∈R,Good m s)->(∀s∈L,Good m s)->d [Qz m R L]=some (Qb m (Qcy R L),true)
theorem Qzk(h:Qf0 d):QpC (Qu 1 (Qkf d)):=λm R L h1 h2 h3 h4=>Qvu h h1 h2 h3 h4
theorem Qur(h:0<b)(h2:b<2^200):Qci b=true:=by
 unfold Qci;have h3:b.natAbs<2^8000:=Zp (by omega:b.natAbs<2^200) (Zr (by decide) (by decide));simp only[Zm,decide_eq_true_eq];exact⟨⋯,h3⟩
def Esc(m:Nat)(W:List (Int×Int×Bool)):Prop:=∀A:Nat->Prop,(∃p,p<m/\A p)->∃w∈W,w.1<m/\A w.1.toNat/\(w.2.1=m∨¬A w.2.1.toNat)
theorem Esc.mono{m:Nat}{W W':List (Int×Int×Bool)}(h:Esc m W)(s:∀w∈W,w∈W'):Esc m W':=λA hA=>let ⟨w,hw,r⟩:=h A hA;⟨w,s w hw,r⟩
noncomputable def Qq(m:Nat)(g:Mt1):Int:=((List.range m).map g).sum
theorem Qag(m:Nat)(g:Mt1):Qq (m+1) g=Qq m g+g m:=by
 unfold Qq;rw[Zch,ZaI,ZbI];simp
theorem Qp(h:∀i,i<m->f i=g i):Qq m f=Qq m g:=by
 unfold Qq;rw[ZI λi hi=>h i (Zg.mp hi)]
theorem QaP(m:Nat)(f g:Mt1):Qq m (λi=>f i+g i)=Qq m f+Qq m g:=by
 induction m with
 | zero=>rfl
 | succ m ih=>rw[Qag,Qag,Qag,ih];omega
theorem Qez(m:Nat)(f:Mt1):Qq m (λi=> -f i)= -Qq m f:=by
 induction m with
 | zero=>rfl
 | succ m ih=>rw[Qag,Qag,ih];omega
theorem QaS(m:Nat):Qq m (λ_=>0)=0:=by
 induction m with
 | zero=>rfl
 | succ m ih=>rw[Qag,ih];rfl
theorem QU(m:Nat)(c:Int)(f:Mt1):Qq m (λi=>c*f i)=c*Qq m f:=by
 induction m with
 | zero=>simp[Qq]
 | succ m ih=>rw[Qag,Qag,ih,Zay]
theorem QdX(m n:Nat)(f:Mt2):Qq m (λi=>Qq n λj=>f i j)=Qq n λj=>Qq m λi=>f i j:=by
 induction m with
 | zero=>show 0=Qq n λj=>0;rw[QaS]
 | succ m ih=>
  rw[Qag,ih,← QaP];exact Qp λj _=>by rw[Qag]
theorem QaI(hp:p<m)(v:Int)(f:Mt1):Qq m (λi=>(if i=p then v else 0)*f i)=v*f p:=by
 induction m with
 | zero=>omega
 | succ m ih=>
  rw[Qag];by_cases h:p=m
  ·subst h;rw[if_pos rfl,Qp (g:=λ_=>0) λi hi=>by rw[if_neg ⋯];simp,QaS];simp
  ·rw[ih ⋯,if_neg (λz=>h z.symm)];simp
noncomputable def QD(m:Nat)(T:Mt2)(f c:Mt1):Nat->Int:=λj=>f j+Qq m λi=>c i*T i j
theorem QeS(h:∀i,i<m->f i=g i):Qb m f=Qb m g:=by
 unfold Qb;congr 1;refine ZI λi hi=>?_;rw[h i (Zg.mp hi)]
noncomputable def Qdw:DS:=(Qd (QaW (QW vv1) (.nm 2) (Qd (sIf (QF (dOp gNe (dBf Qa3 (Qa vv2 Qc)) (Qm vv0 kk0))) (Qd Qx Qh) Qh) Qh)) Qh)
def Qe8(d:Den):Prop:=∀(m:Nat) (R L:Lpp) (fs:List (Nat->Int)),d [Qz m R L,.lst (fs.map λf=>Qb m f)]=some (.non,true)
theorem Qyj:Qe8 (Qu 3 Qdw):=λm R L fs=>by
 have key:Run Qdw (QaU 3 [Qz m R L,.lst (fs.map λf=>Qb m f)]) (Nx λ_=>True):=by
  refine run_seq (Qav fs (λ_ U=>∃j2,U=[slF (Qz m R L),slF (.lst (fs.map λf=>Qb m f)),j2]) rfl rfl ⟨none,rfl⟩ ?_ ?_)
  ·rintro i f U _ ⟨j2,rfl⟩;refine⟨_,rfl,?_⟩;refine run_seq (QB (b:=false) (QQ (Qc4 (Qfb rfl rfl) rfl (Qnk rfl rfl).1 rfl) (by simp)) (λh=>by cases h) (λ_=>Qj (Qj ⟨_,rfl⟩)))
  ·rintro U ⟨j2,rfl⟩;exact Qj trivial
 obtain⟨o,h1,h2⟩:=key;unfold Qu;rw[h1];cases o with
 | nx U=>rfl
 | _=>exact h2.elim
noncomputable def QxY(QK:Den)(QaE:Den):DS:=(Qd (Qa8 (Qf 2 QK [] (Qa vv0 (Qa (QX (Qa vv1 (Qa vv2 Qc))) Qc)))) (Qd (Qo 3 (dList (Qa vv1 Qc))) (Qd (QaW (Qaq (Qf 1 QaE [] (Qa vv0 Qc)) vv2) (.tp [4,5]) (Qd (Qo 3 (QG (Qaq vv3 vv4) (.tp [1,2]) [none,none,none,some 5] QO (QL vv1 (QY vv3 vv2)))) Qh)) (Qd (QC vv3) Qh))))
theorem Qcz(h:fa U=some r)(q:Q (.nx U)):Run (Qa8 fa) U Q:=⟨_,by simp[Qa8,h],q⟩
theorem Qsb(f g:Nat->D):Qjl ((List.range m).map f) ((List.range m).map g)=(List.range m).map λi=> .tup [f i,g i]:=by
 generalize List.range m=l
 induction l with
 | nil=>rfl
 | cons n ns ih=>unfold Qjl at ih ⊢;simp only[ZH,List.zip_cons_cons,ih]
theorem Qf8(h:fs U=some rs)(e:rs.ds=[Qb m f]):dList fs U=some (reT (Qb m f)):=by
 unfold dList;rw[h,Za,e];simp[Qb,Qbv]
theorem Qa5(ha:fa U=some ra)(ea:ra.d= .lst ((List.range m).map f))(hb:fb U=some rb)(eb:rb.d= .lst ((List.range m).map g)):Qaq fa fb U=some ⟨(List.range m).map λi=> .tup [f i,g i],ra.M++rb.M⟩:=by
 unfold Qaq;rw[ha,Za,hb,Za,ea,eb];simp only[Qsb]
theorem Qy0(i j:Nat)(s:Int×Int):(hit i j s).natAbs<=1:=by unfold hit;split<;>split<;>decide
theorem QeT(i j:Nat):∀S:List (Int×Int),((S.map (hit i j)).sum).natAbs<=S.length
 | []=>by simp
 | s::S=>by
  have:=QeT i j S;have:=Qy0 i j s;rw[ZH,ZaG,ZR];omega
def QnD(d:Den):Prop:=∀(m:Nat) (R L:Lpp) (f c:Mt1),m<=1000->R.length+R.length+L.length<=1000000->(∀s∈R,Good m s)->(∀s∈L,Good m s)->d [Qz m R L,Qb m f,Qb m c]=some (Qb m (QD m (Qw m (Qt R L)) f c),true)
theorem Qvk(hn:Qe8 dn)(ht:Qf0 dt):QnD (Qu 6 (QxY dn dt)):=λm R L f c hm hl hR hL=>by
 have gS:=Qdc hR hL;have tb:∀i j,i<m->j<m->(Qw m (Qt R L) i j).natAbs<2^64:=λi j hi hj=>by
  rw[QdG hi hj λs hs=>⟨(gS s hs).1,(gS s hs).2.1⟩];have:=QeT i j (Qt R L);have:(Qt R L).length<=1000000:=by unfold Qt;simp;omega
  omega
 refine QN ?_;refine run_seq (Qcz (Qi rfl (hn m R L [f,c]) rfl) ?_);refine rsa (Qf8 rfl rfl) ?_;refine QbO (P:=λU=>∃j4 j5,U=[slF (Qz m R L),slF (Qb m f),slF (Qb m c),slT (Qb m (QD m (Qw m (Qt R L)) f c)),j4,j5]) ?_ ?_
 ·refine Qav (List.range m) (λk U=>∃j4 j5,U=[slF (Qz m R L),slF (Qb m f),slF (Qb m c),slT (Qb m (λj=>f j+Qq k λi=>c i*Qw m (Qt R L) i j)),j4,j5]) (Qa5 (Qi rfl (ht m R L hm hl hR hL) rfl) rfl rfl rfl) rfl ⟨none,none,?_⟩ ?_ ?_
  ·show [slF (Qz m R L),slF (Qb m f),slF (Qb m c),slT (Qb m f),none,none]=_;have:Qb m f=Qb m λj=>f j+Qq 0 λi=>c i*Qw m (Qt R L) i j:=QeS λi _=>by show f i=f i+0;omega
   rw[← this]
  ·rintro k k' U hk ⟨j4,j5,rfl⟩;obtain⟨hkm,rfl⟩:=QeF hk;refine⟨_,rfl,?_⟩;refine run_seq (QA ?_ (Qj ⟨_,_,by rw[Q4];rfl⟩))
   have e:=QE (fi:=Qaq (Ql 3) (Ql 4)) (t:= .tp [1,2]) (cap:=[none,none,none,some 5]) (fe:=QL (Ql 1) (QY (Ql 3) (Ql 2))) (U:=[slF (Qz m R L),slF (Qb m f),slF (Qb m c),slT (Qb m (λj=>f j+Qq k λi=>c i*Qw m (Qt R L) i j)),slF (Qb m (Qw m (Qt R L) k)),slI (c k)])
    (List.range m) (Qa5 rfl rfl rfl rfl) rfl λj hj=>by
     have hj:=Zg.mp hj;exact⟨[none,slI (f j+Qq k λi=>c i*Qw m (Qt R L) i j),slI (Qw m (Qt R L) k j),slI (c k)],rfl,_,Q9 rfl rfl (Q8 rfl rfl rfl rfl (QcP (tb k j hkm hj))) rfl,rfl,rfl⟩
   refine e.trans ?_;congr 2;show D.lst _=D.lst _;congr 1;refine ZI λj _=>?_;show _=D.int (f j+Qq (k+1) λi=>c i*Qw m (Qt R L) i j);rw[Qag,Int.add_assoc]
  ·rintro U ⟨j4,j5,rfl⟩;rw[ZC];exact⟨j4,j5,rfl⟩
 rintro U ⟨j4,j5,rfl⟩;exact Qy rfl ⟨rfl,rfl⟩
structure Qbi (m:Nat) (R L:Lpp):Prop where
 ex:∃W,Esc m W/\(∀w∈W,GoodW m w)/\W.length<=200/\R=Qc9 W/\L=QdU W
theorem Qbi.good{m:Nat}{R L:Lpp}(h:Qbi m R L):(∀s∈R,Good m s)/\(∀s∈L,Good m s)/\R.length<=200/\L.length<=200/\(∀s∈R,s.1<s.2)/\∀s∈L,s.1<m:=by
 obtain⟨W,_,h2,h3,rfl,rfl⟩:=h.ex;exact⟨λs hs=>(Qmd h2 s hs).1,λs hs=>(QlU h2 s hs).1,Zo (Qtd W) h3,Zo (Quk W) h3,λs hs=>(Qmd h2 s hs).2,λs hs=>(QlU h2 s hs).2⟩
theorem QnY{α:Type}(m:Nat)(g:Nat->α->Int):∀S:List α,Qq m (λj=>(S.map (g j)).sum)=(S.map λs=>Qq m λj=>g j s).sum
 | []=>by simp[QaS]
 | s::S=>by
  simp only[ZH,ZaG];rw[QaP,QnY m g S]
theorem QrK{α:Type}(c:Int)(f:α->Int):∀S:List α,c*(S.map f).sum=(S.map λs=>c*f s).sum
 | []=>by simp
 | s::S=>by simp only[ZH,ZaG,Zay,QrK c f S]
theorem Qwf:Qb m (QD m T f λ_=>0)=Qb m f:=QeS λj _=>by
 unfold QD;rw[Qp (g:=λ_=>0) λi _=>by simp,QaS];omega
theorem Qyl(h:fa U=some r)(e:r.d=Qb m f):dBf QjH (Qa fa Qc) U=some (reI (Qq m f)):=by
 unfold dBf;rw[Qn h (QP _),Za];have:Qb m f= .lst (((List.range m).map f).map .int):=by unfold Qb;rw[Zaw];rfl
 simp only[e,this,QjH,Qid,ZU];rfl
theorem QxC(ha:fa U=some ra)(ea:ra.d=d)(hb:fb U=some rb)(eb:rb.d=d)(hs:d.sim 8=true):dOp gEq fa fb U=some (reT (.bl true)):=by
 refine QaN ha hb ?_;rw[ea,eb];unfold gEq;rw[hs,Qo0 hs];rfl
structure TP (m:Nat) (T:Mt2):Prop where
 neg:∀p,p<m->T p p<0
 pos:∀i j,i<m->j<m->i≠j->0<=T i j
 bnd:∀i j,i<m->j<m->(T i j).natAbs<2^64
 wt:∃w:Nat->Int,(∀j,0<=w j)/\∀i,i<m->Qq m (λj=>T i j*w j)<= -1
inductive Leg (m:Nat) (T:Mt2) (f:Mt1):(Nat->Int)->Prop where
 | nil:Leg m T f λ_=>0
 | step {c:Mt1}{p:Nat}{t:Int}:Leg m T f c->p<m->0<=t->t*(0-T p p)<=QD m T f c p->Leg m T f (up c p (c p+t))
def Stb(m:Nat)(T:Mt2)(g:Mt1):Prop:=∀p,p<m->g p<0-T p p
theorem Qnt(hp:p<m)(j:Nat):QD m T f (up c p (c p+v)) j=QD m T f c j+v*T p j:=by
 unfold QD;have e2:(λi=>up c p (c p+v) i*T i j)=λi=>c i*T i j+(if i=p then v else 0)*T i j:=by
  funext i;unfold up;by_cases h:i=p
  ·subst h;simp only[if_true];rw[Zac]
  ·simp[h]
 rw[e2,QaP,QaI hp];omega
theorem QfO(h:∀i,i<m->f i<=g i):Qq m f<=Qq m g:=by
 induction m with
 | zero=>exact ZbM _
 | succ m ih=>
  rw[Qag,Qag];have:=ih λi hi=>h i ⋯;have:=h m ⋯;omega
theorem Qrg{m:Nat}{T:Mt2}{f c b:Mt1}(j:Nat):QD m T (λi=>2*f i+b i) (λi=>2*c i) j=2*QD m T f c j+b j:=by
 unfold QD;have e:(λi=>2*c i*T i j)=λi=>2*(c i*T i j):=by funext i;rw[Zx]
 rw[e,QU];show 2*f j+b j+2*_=2*(f j+_)+b j;omega
theorem Qcw(j:Nat)(h1:f j=g j)(h2:∀i,i<m->c i=d i):QD m T f c j=QD m T g d j:=by
 unfold QD;rw[h1,Qp λi hi=>by rw[h2 i hi]]
theorem Leg.QBC(h:Leg m T f c)(b:Mt1)(hb:∀i,0<=b i):∃d,Leg m T (λi=>2*f i+b i) d/\∀i,d i=2*c i:=by
 induction h with
 | nil=>exact⟨_,.nil,λi=>by simp⟩
 | @step c p t _ hp ht hle ih=>
  obtain⟨d,hd,e⟩:=ih;have ed:d=λi=>2*c i:=funext e;subst ed;refine⟨_,.step (t:=2*t) hd hp ⋯ ?_,λi=>?_⟩
  ·rw[Qrg];have:=hb p;have e2:2*t*(0-T p p)=2*(t*(0-T p p)):=by rw[Zx]
   omega
  ·show up (λi=>2*c i) p (2*c p+2*t) i=2*up c p (c p+t) i;unfold up;split
   ·omega
   ·rfl
theorem Leg.cast(h:Leg m T f c)(e:∀i,c i=d i):Leg m T f d:=by
 have:c=d:=funext e;rw[← this];exact h
theorem Leg.Qsz(h:Leg m T f c)(e:∀i,i<m->f i=g i):Leg m T g c:=by
 induction h with
 | nil=>exact .nil
 | @step c p t _ hp ht hle ih=>exact .step ih hp ht (by rw[← Qcw p (e p hp) (λ_ _=>rfl)];exact hle)
noncomputable def wtF(m:Nat)(w g:Mt1):Int:=Qq m λj=>g j*w j
theorem QBX(hw:∀i,i<m->Qq m (λj=>T i j*w j)<= -1)(hp:p<m)(ht:0<=t):wtF m w (QD m T f (up c p (c p+t)))<=wtF m w (QD m T f c)-t:=by
 unfold wtF;have e:(λj=>QD m T f (up c p (c p+t)) j*w j)=λj=>QD m T f c j*w j+t*(T p j*w j):=by
  funext j;rw[Qnt hp,Zac,Zx]
 rw[e,QaP,QU];have h1:t*Qq m (λj=>T p j*w j)<=t*(-1):=ZZ (hw p hp) ht;omega
theorem QuP(hw:∀j,0<=w j)(hg:∀j,j<m->0<=g j):0<=wtF m w g:=by
 have:=QfO λi hi=>ZaV (hg i hi) (hw i);rw[QaS]at this;exact this
theorem Qgx(I:Nat->En->Prop)(step:∀n U,I n U->∃b,g U=some b/\(b=false->Q (.nx U))/\(b=true->Run fb U λo=>match o with | .nx U2=>∃n',n'<n/\I n' U2 | .ct U2=>∃n',n'<n/\I n' U2 | .bk U2=>Q (.nx U2) | .rt d fr=>Q (.rt d fr))):
  ∀(n:Nat) (U:En),I n U->Run (Qcs g fb) U Q:=by
 intro n
 induction n using Nat.strongRecOn with
 | _ n ih=>
  intro U h;obtain⟨b,hb,hf,ht⟩:=step n U h;unfold Run;rw[Qup,hb,Za];cases b with
  | false=>exact⟨_,by simp,hf rfl⟩
  | true=>
   obtain⟨o,ho,hq⟩:=ht rfl;rw[if_pos rfl,ho,Za];cases o with
   | nx U2=>obtain⟨n',hn,hI⟩:=hq;exact ih n' hn U2 hI
   | ct U2=>obtain⟨n',hn,hI⟩:=hq;exact ih n' hn U2 hI
   | bk U2=>exact⟨_,rfl,hq⟩
   | rt d fr=>exact⟨_,rfl,hq⟩
theorem Qx7(ha:fa U=some ra)(ea:ra.d= .int a)(hb:fb U=some rb)(eb:rb.d= .int b)(h:0<b)(h2:b<2^200):dOp Qbb fa fb U=some (reI (a / b)):=by
 refine QaN ha hb ?_;rw[ea,eb];show(if Qci b=true then some (D.int (Qep a b))else none)=_;rw[if_pos (Qur h h2),Qlq _ _ ⋯]
theorem Qa2{i:Nat}(ha:fa U=some ra)(ea:ra.d=Qb m f)(hb:fb U=some rb)(eb:rb.d= .int i)(h:i<m):Qm fa fb U=some (reI (f i)):=by
 have:=QmP ha ea hb eb ⋯ ⋯;rw[ZQ]at this;exact this
noncomputable def QnF:DS:=(Qd (Qo 3 (dList (Qa vv1 Qc))) (Qd (Qo 4 (dList (Qa vv2 Qc))) (Qd (Qo 5 (dC (.bl true))) (Qd (Qcs (QF vv5) (Qd (Qo 5 (dC (.bl false))) (Qd (QaW (Qb9 vv0) (.tp [6,7]) (Qd (Qo 8 (dOp Qbb (Qm vv3 vv6) (dOp QaL kk0 (Qm vv7 vv6)))) (Qd (sIf (QF (dOp gGt vv8 kk0)) (Qd (Qo 5 (dC (.bl true))) (Qd (Qeg (gI λi j=>some (.int (i+j))) 4 QaQ vv6 vv8) (Qd (Qo 3 (QG (Qaq vv3 vv7) (.tp [1,2]) [none,none,none,some 8] QO (QL vv1 (QY vv3 vv2)))) Qh))) Qh) Qh))) Qh))) (Qd (QC (Qar (Qa vv3 (Qa vv4 Qc)))) Qh)))))
def Qjs(d:Den):Prop:=∀(m:Nat) (T:Mt2) (f k:Mt1),m<=1000->TP m T->Leg m T f k->(∀j,j<m->0<=QD m T f k j)->∃k',d [Qe m m T,Qb m (QD m T f k),Qb m k]=some (.tup [Qb m (QD m T f k'),Qb m k'],true)/\Leg m T f k'/\(∀j,j<m->0<=QD m T f k' j)/\Stb m T (QD m T f k')
theorem Qsu{h s:Int}(hs:0<s)(ht:¬0<h / s)(h0:0<=h):h<s:=by
 have:=Int.ediv_nonneg h0 (by omega:0<=s);have e:h / s=0:= ⋯
 have:=ZA h hs;have:=Zbx h s;rw[e]at this;omega
theorem QsQ{h s:Int}(hs:0<s):h / s*s<=h:=Int.ediv_mul_le h ⋯
theorem QsV:Qjs (Qu 9 QnF):=λm T f k hm tp hk hpos=>by
 obtain⟨w,hw0,hw⟩:=tp.wt;have key:Run QnF (QaU 9 [Qe m m T,Qb m (QD m T f k),Qb m k]) (Rt λd fr=>∃k',d= .tup [Qb m (QD m T f k'),Qb m k']/\fr=true/\Leg m T f k'/\(∀j,j<m->0<=QD m T f k' j)/\Stb m T (QD m T f k')):=by
  refine rsa (Qf8 rfl rfl) ?_;refine rsa (Qf8 rfl rfl) ?_;refine rsa rfl ?_;refine run_seq (Run.mono (Q:=Nx λU=>∃k' j5 j6 j7 j8,Leg m T f k'/\(∀j,j<m->0<=QD m T f k' j)/\Stb m T (QD m T f k')/\U=[slF (Qe m m T),slF (Qb m (QD m T f k)),slF (Qb m k),slT (Qb m (QD m T f k')),slT (Qb m k'),j5,j6,j7,j8]) ?_ ?_)
  ·refine Qgx (λn U=>∃k' bz j6 j7 j8,Leg m T f k'/\(∀j,j<m->0<=QD m T f k' j)/\(bz=false->Stb m T (QD m T f k'))/\n=(wtF m w (QD m T f k')).toNat+(if bz=true then 1 else 0)/\U=[slF (Qe m m T),slF (Qb m (QD m T f k)),slF (Qb m k),slT (Qb m (QD m T f k')),slT (Qb m k'),slT (.bl bz),j6,j7,j8]) ?_ _ _ ⟨k,true,none,none,none,hk,hpos,λh=>by(cases h),rfl,rfl⟩;rintro n U ⟨k',bz,j6,j7,j8,hL,hP,hS,rfl,rfl⟩;refine⟨bz,QQ rfl rfl,λh=>⟨k',_,_,_,_,hL,hP,hS h,rfl⟩,λhb=>?_⟩;subst hb;refine rsa rfl ?_;refine Qv (Run.mono (Q:=Nx λU=>∃k2 b2 j6 j7 j8,Leg m T f k2/\(∀j,j<m->0<=QD m T f k2 j)/\(b2=false->Stb m T (QD m T f k2))/\(wtF m w (QD m T f k2)+(if b2=true then 1 else 0)<=wtF m w (QD m T f k'))/\U=[slF (Qe m m T),slF (Qb m (QD m T f k)),slF (Qb m k),slT (Qb m (QD m T f k2)),slT (Qb m k2),slT (.bl b2),j6,j7,j8]) ?_ ?_)
   ·refine Qav (List.range m) (λi U=>∃k2 b2 j6 j7 j8,Leg m T f k2/\(∀j,j<m->0<=QD m T f k2 j)/\(b2=false->∀p,p<i->QD m T f k2 p<0-T p p)/\(wtF m w (QD m T f k2)+(if b2=true then 1 else 0)<=wtF m w (QD m T f k'))/\U=[slF (Qe m m T),slF (Qb m (QD m T f k)),slF (Qb m k),slT (Qb m (QD m T f k2)),slT (Qb m k2),slT (.bl b2),j6,j7,j8]) rfl (Qh5 (α:=Nat) m _) ⟨k',false,_,_,_,hL,hP,λ_ p hp=>absurd hp ⋯,by simp,rfl⟩ ?_ ?_
    ·rintro i p U hi ⟨k2,b2,j6,j7,j8,hL2,hP2,hS2,hW2,rfl⟩;have hp':i<m/\i=p:=by
      obtain⟨h1,h2⟩:=Zk.mp hi;simp at h1 h2;exact⟨h1,h2⟩
     obtain⟨him,rfl⟩:=hp';have hneg:=tp.neg i him;have hb:=tp.bnd i i him him;have h0:=hP2 i him;refine⟨_,rfl,?_⟩;refine rsa (Qx7 (Qa2 rfl rfl rfl rfl him) rfl (QaN rfl (Qa2 rfl rfl rfl rfl him) rfl) rfl ⋯ ⋯) ?_;generalize et:QD m T f k2 i / (0-T i i)=t;have t0:0<=t:=by rw[← et];exact Int.ediv_nonneg h0 ⋯
     refine Qv (QB (QQ rfl rfl) (λh=>?_) (λh=>?_))
     ·have h:=of_decide_eq_true h;have hle:t*(0-T i i)<=QD m T f k2 i:=by rw[← et];exact QsQ ⋯
      refine rsa rfl ?_;refine run_seq (Qwm rfl rfl rfl rfl ⋯ ⋯ rfl ?_);rw[ZQ];refine run_seq (QA (r:=reT (Qb m (QD m T f (up k2 i (k2 i+t))))) ?_ (Qj (Qj ?_)))
      ·have e:=QE (fi:=Qaq (Ql 3) (Ql 7)) (t:= .tp [1,2]) (cap:=[none,none,none,some 8]) (fe:=QL (Ql 1) (QY (Ql 3) (Ql 2))) (U:=[slF (Qe m m T),slF (Qb m (QD m T f k)),slF (Qb m k),slT (Qb m (QD m T f k2)),slT (Qb m (up k2 i (k2 i+t))),slT (.bl true),slI i,slF (Qb m (T i)),slI t])
        (List.range m) (Qa5 rfl rfl rfl rfl) rfl λj hj=>by
         have hj:=Zg.mp hj;exact⟨[none,slI (QD m T f k2 j),slI (T i j),slI t],rfl,_,Q9 rfl rfl (Q8 rfl rfl rfl rfl (QcP (tp.bnd i j him hj))) rfl,rfl,rfl⟩
       refine e.trans ?_;congr 2;show D.lst _=D.lst _;congr 1;refine ZI λj _=>?_;rw[Qnt him]
      ·rw[Q4];have hup:=QBX hw (f:=f) (c:=k2) him t0;refine⟨up k2 i (k2 i+t),true,_,_,_,.step hL2 him t0 hle,λj hj=>?_,λz=>(by cases z),?_,rfl⟩
       ·rw[Qnt him];by_cases hji:j=i
        ·subst hji;have:t*T j j= -(t*(0-T j j)):=by rw[Zan,Zaq,ZbC]
         omega
        ·have:=hP2 j hj;have:=ZaV t0 (tp.pos i j him hj (λz=>hji z.symm));omega
       ·rw[if_pos rfl];have:(0:Int)<=if b2=true then 1 else 0:=by split<;>omega
        omega
     ·have h:=of_decide_eq_false h;refine Qj (Qj ⟨k2,b2,_,_,_,hL2,hP2,λhb2 p hp=>?_,hW2,rfl⟩);by_cases hpi:p=i
      ·subst hpi;exact Qsu ⋯ (by rw[et];exact h) h0
      ·exact hS2 hb2 p ⋯
    ·rintro U ⟨k2,b2,j6,j7,j8,hL2,hP2,hS2,hW2,rfl⟩;rw[ZC]at hS2;exact⟨k2,b2,_,_,_,hL2,hP2,hS2,hW2,rfl⟩
   ·intro o ho;cases o with
    | nx U=>
     obtain⟨k2,b2,j6,j7,j8,hL2,hP2,hS2,hW2,rfl⟩:=ho;refine Qj ⟨_,?_,k2,b2,_,_,_,hL2,hP2,hS2,rfl,rfl⟩;have n1:=QuP hw0 hP2;rw[if_pos rfl];cases b2<;>simp at hW2 ⊢ <;>omega
    | _=>exact ho.elim
  ·intro o ho;cases o with
   | nx U=>
    obtain⟨k',j5,j6,j7,j8,hL,hP,hS,rfl⟩:=ho;exact Qy rfl ⟨k',rfl,rfl,hL,hP,hS⟩
   | _=>exact ho.elim
 obtain⟨o,h1,h2⟩:=key;cases o with
 | rt d fr=>
  obtain⟨k',rfl,rfl,h3,h4,h5⟩:=h2;exact⟨k',by unfold Qu;rw[h1];rfl,h3,h4,h5⟩
 | _=>exact h2.elim
def Qr4(m:Nat)(S:Lpp):Prop:=∀A:Nat->Prop,(∃p,p<m/\A p)->∃s∈S,s.1<m/\A s.1.toNat/\(s.2=m∨¬A s.2.toNat)
theorem Qs6(h:Esc m W):Qr4 m (Qt (Qc9 W) (QdU W)):=λA hA=>by
 obtain⟨w,hw,h1,h2,h3⟩:=h A hA;refine⟨(w.1,w.2.1),?_,h1,h2,h3⟩;unfold Qt;cases e:w.2.2 with
 | true=>exact Ze _ (ZL.mpr ⟨w,ZaB.mpr ⟨hw,e⟩,rfl⟩)
 | false=>
  have hr:Qfe w∈Qc9 W:=ZL.mpr ⟨w,ZaB.mpr ⟨hw,by simp[e]⟩,rfl⟩;by_cases hlt:w.2.1<w.1
  ·refine Zf _ (Ze _ (ZL.mpr ⟨Qfe w,hr,?_⟩));unfold Qfe;rw[if_pos hlt,if_neg ⋯];rfl
  ·refine Zf _ (Zf _ ?_);have:Qfe w=(w.1,w.2.1):=by
    unfold Qfe;rw[if_neg hlt];by_cases hgt:w.2.1>w.1
    ·rw[if_pos hgt]
    ·rw[if_neg hgt];rw[show w.2.1=w.1 by omega]
   rw[← this];exact hr
inductive Rk (m:Nat) (S:Lpp):Nat->Nat->Prop where
 | pit {s:Int×Int}{n:Nat}:s∈S->s.2=m->Rk m S (n+1) s.1.toNat
 | step {s:Int×Int}{k n:Nat}:s∈S->s.2≠m->Rk m S k s.2.toNat->k<n->Rk m S n s.1.toNat
theorem QoK{P:Nat->Prop}(h:∃n,P n):∃n,P n/\∀k,k<n->¬P k:=by
 obtain⟨n,hn⟩:=h
 induction n using Nat.strongRecOn with
 | _ n ih=>
  by_cases h:∃k,k<n/\P k
  ·obtain⟨k,hk,h⟩:=h;exact ih k hk h
  ·exact⟨n,hn,λk hk hx=>h ⟨k,hk,hx⟩⟩
theorem QB0(he:Qr4 m S):∀p,p<m->∃n,Rk m S n p:=λp hp=>by
 by_cases h:∃n,Rk m S n p
 ·exact h
 ·exfalso;obtain⟨s,hs,h1,h2,h3⟩:=he (λp=>¬ ∃n,Rk m S n p) ⟨p,hp,h⟩;by_cases e:s.2=m
  ·exact h2 ⟨1,.pit hs e⟩
  ·rcases h3 with h3 | h3
   ·exact e h3
   ·have:∃n,Rk m S n s.2.toNat:=ZO λz=>h3 z;obtain⟨k,hk⟩:=this;exact h2 ⟨k+1,.step hs e hk ⋯⟩
theorem QxV{m:Nat}{S:Lpp}(hg:∀s∈S,Good m s)(he:Qr4 m S):∃r:Nat->Nat,r m=0/\∀p,p<m->∃s∈S,s.1=p/\r s.2.toNat<r p:=by
 have h:∀p,∃n,(p<m->Rk m S n p/\∀k,k<n->¬Rk m S k p)/\(p=m->n=0):=λp=>by
  by_cases hp:p<m
  ·obtain⟨n,hn⟩:=QoK (QB0 he p hp);exact⟨n,λ_=>hn,λz=> ⋯⟩
  ·exact⟨0,λz=>absurd z hp,λ_=>rfl⟩
 obtain⟨r,hr⟩:=ZbW h;refine⟨r,(hr m).2 rfl,λp hp=>?_⟩;have h1:=((hr p).1 hp).1;generalize r p=n at h1;cases h1 with
 | @pit s n hs e=>
  obtain⟨g1,g2,g3,g4,g5⟩:=hg s hs;exact⟨s,hs,⋯,by rw[e,ZQ,(hr m).2 rfl];omega⟩
 | @step s k n hs e hk hkn=>
  obtain⟨g1,g2,g3,g4,g5⟩:=hg s hs;refine⟨s,hs,⋯,?_⟩;have hl:s.2.toNat<m:= ⋯
  have:=((hr s.2.toNat).1 hl).2 k;have:¬k<r s.2.toNat:=λz=>this z hk;omega
theorem Qpw(r:Nat->Nat):∀m:Nat,∃N,∀p,p<=m->r p<=N
 | 0=>⟨r 0,λp hp=>by rw[show p=0 by omega];exact Zj _⟩
 | m+1=>by
  obtain⟨N,hN⟩:=Qpw r m;refine⟨N+r (m+1),λp hp=>?_⟩;by_cases e:p=m+1
  ·subst e;omega
  ·have:=hN p ⋯;omega
theorem QtT(hi:i<m)(g:Good m s)(w:Mt1)(hw:w m=0):Qq m (λj=>hit i j s*w j)=if s.1=i then w s.2.toNat-w i else 0:=by
 obtain⟨g1,g2,g3,g4,g5⟩:=g;by_cases h:s.1=i
 ·rw[if_pos h];have e:Qq m (λj=>hit i j s*w j)=Qq m (λj=>(if j=s.2.toNat then 1 else 0)*w j+(if j=i then-1 else 0)*w j):=Qp λj _=>by
   have:hit i j s=(if j=s.2.toNat then 1 else 0)+(if j=i then-1 else 0):=by
    unfold hit;by_cases a:s.2=j
    ·by_cases b:i=j
     ·rw[if_pos ⟨h,a⟩,if_pos ⟨h,b⟩,if_pos ⋯,if_pos b.symm];omega
     ·rw[if_pos ⟨h,a⟩,if_neg (λz=>b z.2),if_pos ⋯,if_neg (λz=>b z.symm)];omega
    ·by_cases b:i=j
     ·rw[if_neg (λz=>a z.2),if_pos ⟨h,b⟩,if_neg ⋯,if_pos b.symm];omega
     ·rw[if_neg (λz=>a z.2),if_neg (λz=>b z.2),if_neg ⋯,if_neg (λz=>b z.symm)];omega
   rw[this,Zac]
  rw[e,QaP,QaI hi];by_cases hm:s.2.toNat<m
  ·rw[QaI hm];omega
  ·have e2:Qq m (λj=>(if j=s.2.toNat then 1 else 0)*w j)=0:=by
    rw[Qp λj hj=>by rw[if_neg ⋯,ZG],QaS]
   rw[e2,show s.2.toNat=m by omega,hw];omega
 ·rw[if_neg h];rw[Qp (g:=λ_=>0) λj hj=>by
   unfold hit;rw[if_neg (λz=>h z.1),if_neg (λz=>h z.1)];rw[Zbt,ZG],QaS]
theorem QlN{α:Type}{g:α->Int}{X:Int}:∀S:List α,(∀s∈S,g s<=X)->(S.map g).sum<=S.length*X
 | [],_=>by simp
 | a::S,h=>by
  have h1:=h a (by simp);have h2:=QlN S λs hs=>h s (by simp[hs]);simp only[ZH,ZaG,ZR,ZaY,Zac];rw[show((1:Nat):Int)*X=X by simp];omega
theorem Qmr{α:Type}{g:α->Int}{X Y:Int}:∀(S:List α),(∀s∈S,g s<=X)->(∃s∈S,g s<=Y)->(S.map g).sum<=S.length*X-X+Y
 | [],_,h=>by obtain⟨s,hs,_⟩:=h;exact absurd hs (by simp)
 | a::S,h,h2=>by
  obtain⟨s,hs,hy⟩:=h2;have hb:∀s∈S,g s<=X:=λs hs=>h s (by simp[hs]);simp only[ZH,ZaG,ZR,ZaY,Zac];rw[show((1:Nat):Int)*X=X by simp];rcases Zi.mp hs with e | hs
  ·subst e;have:=QlN S hb;omega
  ·have:=Qmr S hb ⟨s,hs,hy⟩;have:=h a (by simp);omega
theorem Qmg{α:Type}{g:α->Int}:∀S:List α,(∀s∈S,0<=g s)->0<=(S.map g).sum
 | [],_=>by simp
 | a::S,h=>by
  have h1:=h a (by simp);have h2:=Qmg S λs hs=>h s (by simp[hs]);simp only[ZH,ZaG];omega
theorem Qv8{m:Nat}{S:Lpp}(hg:∀s∈S,Good m s)(he:Qr4 m S)(hl:S.length<2^60):TP m (Qw m S):=by
 have hn:∀s∈S,0<=s.1/\0<=s.2:=λs hs=>⟨(hg s hs).1,(hg s hs).2.1⟩;have pos:∀i j,i<m->j<m->i≠j->0<=Qw m S i j:=λi j hi hj hij=>by
  rw[QdG hi hj hn];refine Qmg S λs _=>?_;unfold hit;rw[if_neg (λz=>hij z.2) (c:=s.1=i/\i=j)];split<;>omega
 obtain⟨r,r0,hr⟩:=QxV hg he;obtain⟨N,hN⟩:=Qpw r m;have M1:1<=S.length+1:= ⋯
 have wt:∃w:Nat->Int,(∀j,0<=w j)/\∀i,i<m->Qq m (λj=>Qw m S i j*w j)<= -1:=by
  refine⟨λv=>(((S.length+1)^N:Nat):Int)-(((S.length+1)^(N-r v):Nat):Int),λj=>?_,λi hi=>?_⟩
  ·have:=Zr M1 (Nat.sub_le N (r j));show(0:Int)<=(((S.length+1)^N:Nat):Int)-(((S.length+1)^(N-r j):Nat):Int);omega
  ·generalize hw:(λv=>(((S.length+1)^N:Nat):Int)-(((S.length+1)^(N-r v):Nat):Int))=w;have hw':∀v,w v=(((S.length+1)^N:Nat):Int)-(((S.length+1)^(N-r v):Nat):Int):=λv=>by rw[← hw]
   have wm:w m=0:=by rw[hw',r0,Nat.sub_zero];omega
   have e:Qq m (λj=>Qw m S i j*w j)=(S.map λs=>if s.1=(i:Int)then w s.2.toNat-w i else 0).sum:=by
    rw[Qp (g:=λj=>(S.map λs=>hit i j s*w j).sum) λj hj=>by
     rw[QdG hi hj hn,ZP,QrK];congr 1;exact ZI λs _=>ZP _ _]
    rw[QnY m (λj s=>hit i j s*w j) S];congr 1;exact ZI λs hs=>QtT hi (hg s hs) w wm
   rw[e];obtain⟨s0,hs0,e0,hlt⟩:=hr i hi;generalize hX:(((S.length+1)^(N-r i):Nat):Int)=X;have X1:1<=X:=by
    have:0<(S.length+1)^(N-r i):=Nat.pow_pos ⋯;omega
   have key:=Qmr (Y:=X-(S.length+1)*X) S (λs _=>by
    show(if s.1=i then w s.2.toNat-w i else 0)<=X;split
    ·rw[hw',hw' i,hX];have:0<=(((S.length+1)^(N-r s.2.toNat):Nat):Int):=Int.natCast_nonneg _;omega
    ·omega) ⟨s0,hs0,by
    show(if s0.1=i then w s0.2.toNat-w i else 0)<=_;rw[if_pos e0,hw',hw' i,hX];have hb:=hN i ⋯;have h1:(S.length+1)^(N-r i+1)<=(S.length+1)^(N-r s0.2.toNat):=Zr M1 ⋯;rw[Zca]at h1;have h2:((((S.length+1)^(N-r i)*(S.length+1):Nat)):Int)<=(((S.length+1)^(N-r s0.2.toNat):Nat):Int):=by exact_mod_cast h1
    rw[Zaj,hX,ZP,show((S.length+1:Nat):Int)=(S.length:Int)+1 by omega]at h2;omega⟩
   have:((S.length:Int)+1)*X=S.length*X+X:=by rw[Zac,ZT]
   omega
 refine⟨λp hp=>?_,pos,λi j hi hj=>?_,wt⟩
 ·obtain⟨w,w0,hw⟩:=wt;have h1:=hw p hp;by_cases hneg:Qw m S p p<0
  ·exact hneg
  ·exfalso;have:0<=Qq m (λj=>Qw m S p j*w j):=by
    have:=QfO (f:=λ_=>0) (g:=λj=>Qw m S p j*w j) λj hj=>by
     by_cases e:p=j
     ·subst e;exact ZaV ⋯ (w0 _)
     ·exact ZaV (pos p j hp hj e) (w0 _)
    rw[QaS]at this;exact this
   omega
 ·rw[QdG hi hj hn];have:=QeT i j S;omega
theorem Qbi.tp{m:Nat}{R L:Lpp}(h:Qbi m R L):TP m (Qw m (Qt R L)):=by
 have hg:=h.good;refine Qv8 (Qdc hg.1 hg.2.1) ?_ ?_
 ·obtain⟨W,h1,_,_,rfl,rfl⟩:=h.ex;exact Qs6 h1
 ·unfold Qt;simp only[Zy,Zq];omega
theorem Qbi.neg{m:Nat}{R L:Lpp}(h:Qbi m R L){i:Nat}(hi:i<m):0-Qw m (Qt R L) i i=Qcy R L i:=by
 have hg:=h.good;have hs:=Qdc hg.1 hg.2.1;rw[QdG hi hi (λs z=>⟨(hs s z).1,(hs s z).2.1⟩),sum_neg _ _ (λs z=>(hs s z).2.2.2.2),QnL];omega
theorem QnR(m:Nat)(f:Mt1):Qb m f= .lst (((List.range m).map f).map D.int):=by
 unfold Qb;rw[Zaw];rfl
theorem Qrd:∀{ns:List Int},ns≠[]->∃m,Qk8 ns=some m
 | [],h=>absurd rfl h
 | [n],_=>⟨n,rfl⟩
 | n::k::r,_=>by
  obtain⟨m,hm⟩:=Qrd (ns:=k::r) (by simp);exact⟨if m<n then m else n,by simp only[Qk8,hm,ZU]⟩
theorem Qrm:∀{ns:List Int},ns≠[]->∃m,QkI ns=some m
 | [],h=>absurd rfl h
 | [n],_=>⟨n,rfl⟩
 | n::k::r,_=>by
  obtain⟨m,hm⟩:=Qrm (ns:=k::r) (by simp);exact⟨if n<m then m else n,by simp only[QkI,hm,ZU]⟩
theorem Quv(h:0<m)(f:Mt1):(List.range m).map f≠[]:=by
 intro z;have:=congrArg List.length z;simp at this;omega
theorem Qm5(m0:0<m)(f:Mt1):∃v,(∃i,i<m/\v=f i)/\(∀i,i<m->v<=f i)/\∀{fa:DE}{U:En}{r:R},fa U=some r->r.d=Qb m f->dBf QcB (Qa fa Qc) U=some (reI v):=by
 obtain⟨v,hv⟩:=Qrd (Quv m0 f);obtain⟨h1,h2⟩:=Qkc hv;refine⟨v,?_,λi hi=>h2 _ (ZL.mpr ⟨i,Zg.mpr hi,rfl⟩),λ{fa U r} h e=>?_⟩
 ·obtain⟨i,hi,e⟩:=ZL.mp h1;exact⟨i,Zg.mp hi,e.symm⟩
 ·unfold dBf;rw[Qn h (QP _),Za];simp only[e,QnR,QcB,Qid,Za,hv,ZU]
theorem Qrb(m0:0<m)(f:Mt1):∃v,(∃i,i<m/\v=f i)/\(∀i,i<m->f i<=v)/\∀{fa:DE}{U:En}{r:R},fa U=some r->r.d=Qb m f->dBf QgF (Qa fa Qc) U=some (reI v):=by
 obtain⟨v,hv⟩:=Qrm (Quv m0 f);obtain⟨h1,h2⟩:=Qj0 hv;refine⟨v,?_,λi hi=>h2 _ (ZL.mpr ⟨i,Zg.mpr hi,rfl⟩),λ{fa U r} h e=>?_⟩
 ·obtain⟨i,hi,e⟩:=ZL.mp h1;exact⟨i,Zg.mp hi,e.symm⟩
 ·unfold dBf;rw[Qn h (QP _),Za];simp only[e,QnR,QgF,Qid,Za,hv,ZU]
noncomputable def QcW(QK:Den):DS:=(Qd (Qa8 (Qf 2 QK [] (Qa vv0 (Qa vv1 Qc)))) (Qd (QaW (QW vv1) (.nm 2) (Qd (sIf (QF (dOp gLt (dBf QcB (Qa vv2 Qc)) kk0)) (Qd Qx Qh) Qh) Qh)) Qh))
def Qj5(d:Den):Prop:=∀(m:Nat) (R L:Lpp) (fs:List (Nat->Int)),0<m->(∀f∈fs,∀j,j<m->0<=f j)->d [Qz m R L,.lst (fs.map λf=>Qb m f)]=some (.non,true)
theorem Qww(hn:Qe8 dn):Qj5 (Qu 3 (QcW dn)):=λm R L fs m0 hf=>by
 have key:Run (QcW dn) (QaU 3 [Qz m R L,.lst (fs.map λf=>Qb m f)]) (Nx λ_=>True):=by
  refine run_seq (Qcz (Qi rfl (hn m R L fs) rfl) ?_);refine run_seq (Qav fs (λ_ U=>∃j2,U=[slF (Qz m R L),slF (.lst (fs.map λf=>Qb m f)),j2]) rfl rfl ⟨none,rfl⟩ ?_ ?_)
  ·rintro i f U hi ⟨j2,rfl⟩;refine⟨_,rfl,?_⟩;obtain⟨v,⟨q,hq,e⟩,_,hv⟩:=Qm5 m0 f;have h0:=hf f (Zax hi) q hq;refine run_seq (QB (b:=false) (QQ (QaN (hv rfl rfl) rfl rfl) ?_) (λh=>by cases h) (λ_=>Qj (Qj ⟨_,rfl⟩)));show D.bl _=_;rw[decide_eq_false ⋯]
  ·rintro U ⟨j2,rfl⟩;exact Qj trivial
 obtain⟨o,h1,h2⟩:=key;unfold Qu;rw[h1];cases o with
 | nx U=>rfl
 | _=>exact h2.elim
noncomputable def Qrx(Qas:Den)(QaE:Den)(QgM:Den):DS:=(Qd (Qa8 (Qf 2 Qas [] (Qa vv0 (Qa (QX (Qa vv1 Qc)) Qc)))) (Qd (Qo 2 (Qf 1 QaE [] (Qa vv0 Qc))) (Qd (Qo 3 (QY (QX (Qa kk0 Qc)) (Qm vv0 kk0))) (Qd (Qo 4 (QY (QX (Qa kk0 Qc)) (Qm vv0 kk0))) (Qd (Qo 5 (Qar (Qa vv3 (Qa vv4 Qc)))) (Qd (Qo 6 (dBf QgF (Qa vv1 Qc))) (Qd (QaW (QfF (dOp QaL (Qot vv6) kk1) (Qii kk1) (Qii kk1)) (.nm 7) (Qd (Qo 3 (QG (Qaq (Qm vv5 kk0) vv1) (.tp [1,2]) [none,none,none,some 7] QO (QL (QY kk2 vv1) (dOp Q3 (dOp QoQ vv2 vv3) kk2)))) (Qd (Qo 4 (QG (QW (Qm vv5 kk1)) (.nm 1) [none,none] QO (QY kk2 vv1))) (Qd (Qo 5 (Qf 3 QgM [] (Qa vv2 (Qa vv3 (Qa vv4 Qc))))) Qh)))) (Qd (QC vv5) Qh))))))))
noncomputable def QeV(m:Nat)(T:Mt2)(f c:Mt1):D:= .tup [Qb m (QD m T f c),Qb m c]
structure Told (m:Nat) (T:Mt2) (f c:Mt1):Prop where
 leg:Leg m T f c
 pos:∀j,j<m->0<=QD m T f c j
 stb:Stb m T (QD m T f c)
def Qj3(d:Den):Prop:=∀(m:Nat) (R L:Lpp) (f:Mt1),0<m->m<=1000->Qbi m R L->(∀j,j<m->0<=f j/\f j<2^200)->∃c,d [Qz m R L,Qb m f]=some (QeV m (Qw m (Qt R L)) f c,true)/\Told m (Qw m (Qt R L)) f c
theorem QnG(ha:fa U=some ra)(ea:ra.d= .int ((n:Int)-1))(hb:fb U=some rb)(eb:rb.d= .int (-1))(hc:fc U=some rc)(ec:rc.d= .int (-1))(hn:n<=16777216):QfF fa fb fc U=some ⟨(List.range n).map λ(k:Nat)=> .int ((n:Int)-1-k),[]⟩:=by
 unfold QfF;rw[ha,Za,hb,Za,hc,Za,ea,eb,ec];show(if(n:Int)-1- -1<=16777216/\_ then _ else _)=_;rw[if_pos ⟨⋯,⋯,⋯,⋯,⋯⟩,show((n:Int)-1- -1).toNat=n by omega];rfl
theorem QBj{fa fb:DE}{U:En}{ra rb:R}{a:Int}{k:Nat}(ha:fa U=some ra)(ea:ra.d= .int a)(hb:fb U=some rb)(eb:rb.d= .int k):dOp QoQ fa fb U=some (reI (a / 2^k)):=by
 refine QaN ha hb ?_;rw[ea,eb];show(if(0:Int)<=k then some (D.int (a / 2^(k:Int).toNat))else none)=_;rw[if_pos ⋯,ZQ]
theorem Qvm(x:Int)(s:Nat):x / 2^s=2*(x / 2^(s+1))+x / 2^s % 2:=by
 have e:x / 2^(s+1)=x / 2^s / 2:=by rw[Int.pow_succ,Int.ediv_ediv_of_nonneg (Int.pow_nonneg (by decide))]
 rw[e];omega
theorem Qmn(e:∀j,j<m->f j=g j)(h:Told m T f c):Told m T g c where
 leg:=h.leg.Qsz e
 pos:=λj hj=>by rw[← Qcw j (e j hj) (λ_ _=>rfl)];exact h.pos j hj
 stb:=λj hj=>by rw[← Qcw j (e j hj) (λ_ _=>rfl)];exact h.stb j hj
theorem QkB(e:∀j,j<m->f j=g j):QeV m T f c=QeV m T g c:=by
 unfold QeV;rw[QeS λj hj=>Qcw j (e j hj) λ_ _=>rfl]
theorem QwL(hn:Qj5 dn)(ht:Qf0 dt)(hs:Qjs ds):Qj3 (Qu 8 (Qrx dn dt ds)):=λm R L f m0 hm hw hf=>by
 have hg:=hw.good;have tp:=hw.tp;have htoll:=ht m R L hm ⋯ hg.1 hg.2.1;generalize hT:Qw m (Qt R L)=T at tp htoll ⊢;obtain⟨top,⟨q,hq,etop⟩,hmax,evmax⟩:=Qrb m0 f;have htop0:0<=top:=by rw[etop];exact(hf q hq).1
 have hB:Builtin.Int.intBits top<=200:=by
  rw[intBits_le_iff];have:top<2^200:=by rw[etop];exact(hf q hq).2
  have e2:((2^200:Nat):Int)=(2:Int)^200:=by rw[Int.natCast_pow];rfl
  generalize (2:Int)^200=z at this e2;generalize (2:Nat)^200=z' at e2 ⊢;omega
 have hlt:∀j,j<m->f j / 2^Builtin.Int.intBits top=0:=λj hj=>by
  have h1:=(intBits_le_iff (m:=Builtin.Int.intBits top)).mp (Zj _);refine Int.ediv_eq_zero_of_lt (hf j hj).1 ?_;have h2:=hmax j hj;have e2:((2^Builtin.Int.intBits top:Nat):Int)=(2:Int)^Builtin.Int.intBits top:=by rw[Int.natCast_pow];rfl
  rw[← e2];omega
 generalize hBe:Builtin.Int.intBits top=B at hB hlt;have key:Run (Qrx dn dt ds) (QaU 8 [Qz m R L,Qb m f]) (Rt λd fr=>∃c,d=QeV m T f c/\fr=true/\Told m T f c):=by
  have hneed:=hn m R L [f] m0 (λg hg' j hj=>by rw[ZE.mp hg'];exact(hf j hj).1);refine run_seq (Qcz (Qi rfl hneed rfl) ?_);refine rsa (Qi rfl htoll rfl) ?_;refine rsa (QhG rfl rfl ⋯) ?_;refine rsa (QhG rfl rfl ⋯) ?_;refine run_seq (QA rfl ?_);refine rsa (evmax rfl rfl) ?_;refine QbO (P:=λU=>∃c j3 j4 j7,Told m T f c/\U=[slF (Qz m R L),slF (Qb m f),slT (Qe m m T),j3,j4,some (QeV m T f c,true),slI top,j7]) ?_ ?_
  ·refine Qav (List.range B) (λi U=>∃c j3 j4 j7,Told m T (λj=>f j / 2^(B-i)) c/\U=[slF (Qz m R L),slF (Qb m f),slT (Qe m m T),j3,j4,some (QeV m T (λj=>f j / 2^(B-i)) c,true),slI top,j7])
    (QnG (QaN (ra:=reI B) (by rw[← hBe];rfl) rfl rfl) rfl rfl rfl rfl rfl ⋯) rfl ⟨λ_=>0,none,none,none,?_,?_⟩ ?_ ?_
   ·refine Qmn (λj hj=>(hlt j hj).symm) ⟨.nil,λj hj=>?_,λj hj=>?_⟩
    ·unfold QD;rw[Qp λi _=>by rw[ZG],QaS];exact ZbM _
    ·unfold QD;rw[Qp λi _=>by rw[ZG],QaS];have:=tp.neg j hj;show(0:Int)+0<_;omega
   ·show _=[slF (Qz m R L),slF (Qb m f),slT (Qe m m T),none,none,some (QeV m T (λj=>f j / 2^B) λ_=>0,true),slI top,none];rw[← QkB λj hj=>(hlt j hj).symm];unfold QeV;rw[Qwf];rfl
   ·rintro i i' U hi ⟨c,j3,j4,j7,hc,rfl⟩;obtain⟨hiB,rfl⟩:=QeF hi;obtain⟨s,hsB⟩:∃s:Nat,B-i=s+1:=⟨B-i-1,⋯⟩;have es:(B:Int)-1-i=(s:Int):= ⋯
    have es2:B-(i+1)=s:= ⋯
    rw[hsB]at hc;rw[hsB,es2,es];generalize hF:(λj=>f j / 2^(s+1))=F at hc;have hF':∀j,F j=f j / 2^(s+1):=λj=>by rw[← hF]
    refine⟨_,rfl,?_⟩;have e2:∀j,2*F j+f j / 2^s % 2=f j / 2^s:=λj=>by rw[hF',← Qvm]
    have erow:∀j,2*QD m T F c j+f j / 2^s % 2=QD m T (λj=>f j / 2^s) (λi=>2*c i) j:=λj=>by
     have:=Qrg (m:=m) (T:=T) (f:=F) (c:=c) (b:=λj=>f j / 2^s % 2) j;rw[← this];exact(Qcw j (e2 j).symm λ_ _=>rfl).symm
    refine run_seq (QA (r:=reT (Qb m (QD m T (λj=>f j / 2^s) (λi=>2*c i)))) ?_ ?_)
    ·have e:=QE (fi:=Qaq (Qm (Ql 5) (dC (.int 0))) (Ql 1)) (t:= .tp [1,2]) (cap:=[none,none,none,some 7]) (fe:=QL (QY (dC (.int 2)) (Ql 1)) (dOp Q3 (dOp QoQ (Ql 2) (Ql 3)) (dC (.int 2)))) (U:=[slF (Qz m R L),slF (Qb m f),slT (Qe m m T),j3,j4,some (QeV m T F c,true),slI top,slI s])
      (List.range m) (Qa5 rfl rfl rfl rfl) rfl λj hj=>
       ⟨[none,slI (QD m T F c j),slI (f j),slI s],rfl,_,Q9 (Q8 rfl rfl rfl rfl (Qcm (by decide))) rfl (Qad (QBj rfl rfl rfl rfl) rfl rfl rfl (by decide)) rfl,rfl,rfl⟩
     refine e.trans ?_;congr 2;show D.lst _=D.lst _;congr 1;refine ZI λj _=>?_;rw[erow]
    ·rw[Q4];refine run_seq (QA (r:=reT (Qb m (λi=>2*c i))) ?_ ?_)
     ·exact QE (List.range m) (Q2 rfl rfl) rfl λj hj=>⟨[none,slI (c j)],rfl,_,Q8 rfl rfl rfl rfl (Qcm (by decide)),rfl,rfl⟩
     ·rw[Q4];obtain⟨d2,hd2,ed2⟩:=hc.leg.QBC (λj=>f j / 2^s % 2) (λj=>ZD _ (by decide));have hleg:Leg m T (λj=>f j / 2^s) (λi=>2*c i):=(hd2.cast ed2).Qsz λj _=>e2 j;have hpos:∀j,j<m->0<=QD m T (λj=>f j / 2^s) (λi=>2*c i) j:=λj hj=>by
       rw[← erow];have:=hc.pos j hj;have:=ZD (f j / 2^s) (by decide:(2:Int)≠0);omega
      obtain⟨k',h1,h2,h3,h4⟩:=hs m T _ _ hm tp hleg hpos;refine run_seq (QA (Qi rfl h1 rfl) (Qj ?_));rw[Q4];exact⟨k',_,_,_,⟨h2,h3,h4⟩,rfl⟩
   ·rintro U ⟨c,j3,j4,j7,hc,rfl⟩;rw[ZC,Nat.sub_self]at *;have e:∀j,j<m->f j / 2^0=f j:=λj _=>by rw[Int.pow_zero,Int.ediv_one]
    exact⟨c,_,_,_,Qmn e hc,by rw[QkB e]⟩
  ·rintro U ⟨c,j3,j4,j7,hc,rfl⟩;exact Qy rfl ⟨c,rfl,rfl,hc⟩
 obtain⟨o,h1,h2⟩:=key;cases o with
 | rt d fr=>
  obtain⟨c,rfl,rfl,h3⟩:=h2;exact⟨c,by unfold Qu;rw[h1];rfl,h3⟩
 | _=>exact h2.elim
theorem QtP{x:Nat}{W:List (Int×Int×Bool)}{U:En}{b:Bool}(h:U[x]? =some (some (Qab W,b))):Qpe (Ql x) (Qii (dC (.int 1))) U=some (reT (Qab W.reverse)):=by
 unfold Qpe;rw[QcK h,Za];have e:(if(Qab W).flat=true then HS.R.mk (Qab W) true []else if b=true then HS.R.mk (Qab W) true [x]else HS.R.mk (Qab W) false []).d=Qab W:=by cases b<;>rfl
 rw[e];show some (Qbv (W.map Qdn).reverse _)=_;rw[← List.map_reverse];unfold Qbv;rw[if_pos (QrP _)];rfl
theorem Qwg{m:Nat}{t kind:Int}:Esc m (QcG m t kind):=λA Z=>by
 obtain⟨p,hp,hA⟩:=Z;have ex:∃j:Nat,j<m/\A (((j:Int)+t) % m).toNat:=by
  have h1:=ZD ((p:Int)-t) (by omega:(m:Int)≠0);have h2:=ZA ((p:Int)-t) (by omega:(0:Int)<m);refine⟨(((p:Int)-t) % m).toNat,⋯,?_⟩;have e:(((((p:Int)-t) % m).toNat:Int)+t) % m=p:=by
   rw[Int.toNat_of_nonneg h1,Int.emod_add_emod,ZaE];exact Zbs ⋯ ⋯
  rw[e,ZQ];exact hA
 obtain⟨j,⟨hj,hAj⟩,hmin⟩:=QoK ex;have s1:=ZD ((j:Int)+t) (by omega:(m:Int)≠0);have s2:=ZA ((j:Int)+t) (by omega:(0:Int)<m);refine⟨Qfp m t kind j,ZL.mpr ⟨j,Zg.mpr hj,rfl⟩,?_,hAj,?_⟩
 ·exact s2
 ·show QfT m t j=m∨¬A (QfT m t j).toNat
  unfold QfT;split
  ·rename_i h;have n1:=ZD (QbP t j) (by omega:(j:Int)+1≠0);right;intro z;refine hmin (QbP t j % ((j:Int)+1)).toNat ⋯ ⟨⋯,?_⟩;rw[Int.toNat_of_nonneg n1];exact z
  ·exact .inl rfl
theorem Qnv{a:Int}{k:Nat}{U:En}(h1:a.natAbs<2^200)(h2:k<=1000):dOp QmW (dC (.int a)) (dC (.int k)) U=some (reI (a^k)):=by
 refine QaN (ra:=reI a) (rb:=reI k) rfl rfl ?_;show(if 0<=(k:Int)/\(k:Int)<=1000/\a.natAbs<2^200 then some (D.int (a^(k:Int).toNat))else none)=_;rw[if_pos ⟨⋯,⋯,h1⟩,ZQ]
theorem QrI{m:Nat}(h:fa U=some r)(e:r.d=Qb m f):dBf Qa3 (Qa fa Qc) U=some (reI m):=by
 rw[Qfb h e];simp
theorem Qmi(h:fs U=some rs)(hl:rs.ds.length<=64):QX fs U=some ⟨.lst rs.ds,rs.fr,rs.M⟩:=by
 unfold QX;rw[h,Za,if_pos hl]
theorem Qq4(n m:Nat)(f:Mt1):(Qb m f).sim (n+1)=true:=by
 unfold Qb;simp only[D.sim,List.all_map,ZaK];intro p _;cases n<;>rfl
theorem QjQ{fa fb:DE}{U:En}{ra rb:R}{m n:Nat}{f:Mt2}{i:Int}(ha:fa U=some ra)(ea:ra.d=Qe m n f)(hb:fb U=some rb)(eb:rb.d= .int i)(h0:0<=i)(h:i<m):Qm fa fb U=some ⟨Qb n (f i.toNat),ra.fr,ra.M⟩:=by
 unfold Qm;rw[ha,Za,hb,Za,ea,eb];simp only[Qe,D.items,Za,Qq3 h0 h,ZU];rfl
noncomputable def Qxf(l:List Nat):D:= .lst (l.map λ(p:Nat)=> .int (p:Int))
theorem QuK(l:List Nat):Qxf l= .lst ((l.map λ(p:Nat)=>(p:Int)).map D.int):=by unfold Qxf;rw[Zaw];rfl
noncomputable def QrQ:Option Int->D
 | none=> .non
 | some i=> .int i
@[simp] theorem QvN(o:Option Int):(QrQ o).flat=true:=by cases o<;>rfl
noncomputable def QDH(m:Nat)(F:Nat->Option Int):D:= .lst ((List.range m).map λi=>QrQ (F i))
@[simp] theorem QDr(m:Nat)(F:Nat->Option Int):(QDH m F).flat=false:=rfl
@[simp] theorem QCR(m:Nat)(F:Nat->Option Int):Qam ((List.range m).map λi=>QrQ (F i))=true:=Qca (f:=λi=>QrQ (F i)) (λ_=>QvN _) _
theorem QnU{fa fb:DE}{U:En}{ra rb:R}{i j:Int}{n:Nat}(ha:fa U=some ra)(ea:ra.d= .int i)(hb:fb U=some rb)(eb:rb.d= .int j)(hn:(n:Int)=j-i)(hl:n<=16777216)(h1: -(2^62)<=i)(h2:i<2^61):Qd2 fa fb U=some ⟨(List.range n).map λ(k:Nat)=> .int (i+k),[]⟩:=by
 unfold Qd2;rw[ha,Za,hb,Za,ea,eb];show(if j-i<=16777216/\_ then _ else _)=_;rw[if_pos ⟨⋯,⋯,⋯,⋯,⋯⟩,show(j-i).toNat=n by omega];rfl
abbrev QaM(i:Int):Prop:=Builtin.Int.intBits i<=2^20
theorem Qmt(h:i.natAbs<2^300):QaM i:=Zo (Zbk h) (by decide)
noncomputable def QvY:DS:=(Qd (QC (QG (QW vv0) (.nm 1) [none,none,some 1] QO (Qm vv1 vv2))) Qh)
def QfQ(d:Den):Prop:=∀(n m:Nat) (f:Mt2) (j:Nat),j<m->d [Qe n m f,.int j]=some (Qb n (λi=>f i j),true)
theorem Qtx:QfQ (Qu 2 QvY):=λn m f j hj=>
 QN (Qy (QE (List.range n) (Q2 rfl rfl) rfl λi _=>⟨_,rfl,reI (f i j),Qa2 rfl rfl rfl rfl hj,rfl,rfl⟩) ⟨rfl,rfl⟩)
noncomputable def QvJ(QcA:Den):DS:=(Qd (QC (QG (Qa7 (dBf Qa3 (Qa vv0 Qc))) (.nm 1) [none,none,some 0] QO (Qf 2 QcA [] (Qa vv2 (Qa vv1 Qc))))) Qh)
theorem Qd1{n:Nat}(h:fa U=some r)(e:r.d=Qe n m f):dBf Qa3 (Qa fa Qc) U=some (reI n):=by
 rw[Qfb h e];simp
def QcX(d:Den):Prop:=∀(n:Nat) (f:Mt2),n<=1000->d [Qe n n f]=some (Qe n n (λj i=>f i j),true)
theorem Qug(hc:QfQ dc):QcX (Qu 1 (QvJ dc)):=λn f hn=>
 QN (Qy (QE (List.range n) (Qbl (Qd1 rfl rfl) rfl ⋯) rfl λj hj=>⟨[none,slI j,slF (Qe n n f)],rfl,reT (Qb n (λi=>f i j)),Qi rfl (hc n n f j (Zg.mp hj)) rfl,rfl,rfl⟩) ⟨rfl,rfl⟩)
noncomputable def Qwe:DS:=(Qd (QC (dBf QjH (Qa (QG (Qaq vv0 vv1) (.tp [1,2]) [none,none,none] QO (QY vv1 vv2)) Qc))) Qh)
def QkO(d:Den):Prop:=∀(n:Nat) (a b:Mt1),(∀i,i<n->QaM (a i)/\QaM (b i))->d [Qb n a,Qb n b]=some (.int (Qq n λi=>a i*b i),true)
theorem QuR:QkO (Qu 2 Qwe):=λn a b hb=>
 QN (Qy (Qyl (QE (List.range n) (Qa5 rfl rfl rfl rfl) rfl λi hi=>⟨[none,slI (a i),slI (b i)],rfl,reI (a i*b i),Q8 rfl rfl rfl rfl (QdT (hb i (Zg.mp hi)).1 (hb i (Zg.mp hi)).2),rfl,rfl⟩) rfl) ⟨rfl,rfl⟩)
noncomputable def QtY(QhZ:Den):DS:=(Qd (QC (QG (QW vv1) (.nm 1) [none,none,some 0] QO (Qf 2 QhZ [] (Qa vv2 (Qa vv1 Qc))))) Qh)
def QhS(d:Den):Prop:=∀(n k:Nat) (a:Mt1) (f:Mt2),(∀i,i<n->QaM (a i))->(∀j i,j<k->i<n->QaM (f j i))->d [Qb n a,Qe k n f]=some (Qb k (λj=>Qq n λi=>a i*f j i),true)
theorem Qux(hs:QkO ds):QhS (Qu 2 (QtY ds)):=λn k a f ha hf=>
 QN (Qy (QE (List.range k) (Q2 rfl rfl) rfl λj hj=>⟨_,rfl,reI (Qq n λi=>a i*f j i),Qi rfl (hs n a (f j) λi hi=>⟨ha i hi,hf j i (Zg.mp hj) hi⟩) rfl,rfl,rfl⟩) ⟨rfl,rfl⟩)
noncomputable def Qs8(Q5:Den)(QbF:Den):DS:=(Qd (Qo 2 (Qf 1 Q5 [] (Qa vv1 Qc))) (Qd (QC (QG (QW vv0) (.nm 1) [none,none,some 2] QO (Qf 2 QbF [] (Qa vv1 (Qa vv2 Qc))))) Qh))
noncomputable def prodF(n:Nat)(f g:Mt2):Nat->Nat->Int:=λi j=>Qq n λk=>f i k*g k j
def QrR(n:Nat)(f:Mt2):Prop:=∀i j,i<n->j<n->QaM (f i j)
def Qgw(d:Den):Prop:=∀(n:Nat) (f g:Mt2),n<=1000->QrR n f->QrR n g->d [Qe n n f,Qe n n g]=some (Qe n n (prodF n f g),true)
theorem QsW(ht:QcX dt)(hl:QhS dl):Qgw (Qu 3 (Qs8 dt dl)):=λn f g hn hf hg=>by
 refine QN ?_;refine rsa (Qi rfl (ht n g hn) rfl) ?_;refine Qy (QE (List.range n) (Q2 rfl rfl) rfl λi hi=>⟨_,rfl,reT (Qb n (prodF n f g i)),Qi rfl (hl n n (f i) (λj i=>g i j) (λk hk=>hf i k (Zg.mp hi) hk) (λj k hj hk=>hg k j hk hj)) rfl,rfl,rfl⟩) ⟨rfl,rfl⟩
noncomputable def QgV:DS:=(Qd (sIf (QF (dOp gLt vv1 (dBf Qa3 (Qa vv0 Qc)))) (Qd (QC (Qm vv0 vv1)) Qh) Qh) (Qd (Qo 2 (QL (QY Qth vv1) kk5)) (Qd (sIf (QF (dOp gGt (dBf Qa3 (Qa vv0 Qc)) kk0)) (Qd (Qo 2 (dOp Q3 (QL (QY (Qm vv0 (dOp Q3 vv1 (dBf Qa3 (Qa vv0 Qc)))) QmV) (QY vv1 Qth)) Qgo)) Qh) Qh) (Qd (QC (dOp Q3 (QY vv2 vv2) QpO)) Qh))))
def QjV(d:Den):Prop:=∀ns:List Int,ns.length<=63->(∀k,QaM (ns.getD k 0))->∃F:Nat->Int,∀k:Nat,k<=1000->d [.lst (ns.map .int),.int k]=some (.int (F k),true)/\QaM (F k)
set_option exponentiation.threshold 400 in
theorem QvV:QjV (Qu 3 QgV):=λns hl hb=>by
 have key:∀k:Nat,k<=1000->∃v,Qu 3 QgV [.lst (ns.map .int),.int k]=slI v/\QaM v:=λk hk=>by
  have elen:∀(U:En),U[0]? =some (slF (.lst (ns.map .int)))->dBf Qa3 (Qa (Ql 0) Qc) U=some (reI ns.length):=λU h=>by
   rw[Qfb (QcK h) rfl,Zq]
  have run:Run QgV (QaU 3 [.lst (ns.map .int),.int k]) (Rt λd fr=>∃v,d= .int v/\fr=true/\QaM v):=by
   refine Qv (QB (QQ (QaN rfl (elen _ rfl) rfl) rfl) (λh=>?_) (λh=>Qj ?_))
   ·have h:=of_decide_eq_true h;obtain⟨c,hc⟩:∃c,ns[k]? =some c:=⟨_,ZaU ⋯⟩;refine Qv (Qa6 (QjL rfl rfl rfl rfl ⋯ (by simpa using hc)) ⟨c,rfl,rfl,?_⟩);have:=hb k;rw[ZaA,hc]at this;exact this
   have h:=of_decide_eq_false h;refine rsa (Q9 (Q8 rfl rfl rfl rfl (Qcm (by decide))) rfl rfl rfl) ?_;refine QbO (P:=λU=>∃v:Int,0<=v/\v<2147483647/\U=[slF (.lst (ns.map .int)),slI k,slI v]) ?_ ?_
   ·refine QB (QQ (QaN (elen _ rfl) rfl rfl) rfl) (λh2=>?_) (λh2=>Qj ⟨7919*k+5,⋯,⋯,rfl⟩);have h2:=of_decide_eq_true h2;have x0:=ZD (k:Int) (by omega:(ns.length:Int)≠0);have x1:=ZA (k:Int) h2;obtain⟨c,hc⟩:∃c,ns[((k:Int) % (ns.length:Int)).toNat]? =some c:=⟨_,ZaU ⋯⟩;refine run_seq (QA (Qad (Q9 (Q8 (QjL rfl rfl (Qad rfl rfl (elen _ rfl) rfl ⋯) rfl x0 hc) rfl rfl rfl (QcP (by decide))) rfl (Q8 rfl rfl rfl rfl (QcP (by decide))) rfl) rfl rfl rfl (by decide)) (Qj ?_));rw[Q4];exact⟨_,ZD _ (by decide),ZA _ (by decide),rfl⟩
   rintro U ⟨v,v0,v1,rfl⟩;have y0:=ZD (v*v) (by decide:(2147483629:Int)≠0);have y1:=ZA (v*v) (by decide:(0:Int)<2147483629);refine Qy (Qad (Q8 rfl rfl rfl rfl (Qcm ⋯)) rfl rfl rfl (by decide)) ⟨v*v % 2147483629,rfl,rfl,Qmt (by
    have:(v*v % 2147483629).natAbs<2147483629:= ⋯
    exact ZbY this (by decide))⟩
  obtain⟨o,h1,h2⟩:=run;cases o with
  | rt d fr=>
   obtain⟨v,rfl,rfl,h3⟩:=h2;exact⟨v,by unfold Qu;rw[h1];rfl,h3⟩
  | _=>exact h2.elim
 refine⟨λk=>if h:k<=1000 then(key k h).choose else 0,λk hk=>?_⟩;dsimp only;rw[dif_pos hk];exact(key k hk).choose_spec
theorem Qk9(ha:fa U=some ra)(ea:ra.d=Qb m f)(hb:fb U=some rb)(eb:rb.d=Qb k g)(hl:m+k<=1000):QL fa fb U=some (reT (Qb (m+k) (λi=>if i<m then f i else g (i-m)))):=by
 have e:Qb (m+k) (λi=>if i<m then f i else g (i-m))= .lst (((List.range m).map λi=>D.int (f i))++((List.range k).map λi=>D.int (g i))):=by
  unfold Qb;rw[List.range_add,ZaI,Zaw];congr 2
  ·refine ZI λi hi=>?_;show D.int (if i<m then f i else g (i-m))=_;rw[if_pos (Zg.mp hi)]
  ·refine ZI λi hi=>?_;show D.int (if m+i<m then f (m+i)else g (m+i-m))=_;rw[if_neg ⋯,Nat.add_sub_cancel_left]
 rw[e];unfold QL;rw[ha,Za,hb,Za,ea,eb];simp only[Qb,Zq,ZC,QjF];rw[if_pos ⋯];unfold Qbv;rw[if_pos];rw[QcZ,Zm];exact⟨Qca (λ_=>rfl) _,Qca (λ_=>rfl) _⟩
noncomputable def sm:Nat->(Nat->Int)->Int
 | 0,_=>0
 | n+1,f=>sm n f+f n
theorem QbB:∀{n:Nat},(∀i,i<n->f i=g i)->sm n f=sm n g
 | 0,_=>rfl
 | n+1,h=>by unfold sm;rw[QbB λi hi=>h i ⋯,h n ⋯]
theorem Qju(x y:Int)(f g:Mt1):∀n,sm n (λi=>x*f i+y*g i)=x*sm n f+y*sm n g
 | 0=>by simp[sm]
 | n+1=>by
  unfold sm;rw[Qju x y f g n,Zay,Zay];show _+(x*f n+y*g n)=_;omega
theorem QjM:∀{n:Nat},(∀i,i<n->f i=0)->sm n f=0
 | 0,_=>rfl
 | n+1,h=>by unfold sm;rw[QjM λi hi=>h i ⋯,h n ⋯];rfl
theorem Qds:∀{n:Nat},c<n->(∀i,i<n->i≠c->f i=0)->sm n f=f c
 | 0,hc,_=> ⋯
 | n+1,hc,h=>by
  unfold sm;by_cases e:c=n
  ·rw[QjM λi hi=>h i ⋯ ⋯,e];omega
  ·rw[Qds (c:=c) ⋯ λi hi=>h i ⋯,h n ⋯ (Ne.symm e)];omega
theorem Qmp:∀{n:Nat},c<d->d<n->(∀i,i<n->i≠c->i≠d->f i=0)->sm n f=f c+f d
 | 0,_,hc,_=> ⋯
 | n+1,hcd,hd,h=>by
  unfold sm;by_cases e:d=n
  ·rw[Qds (c:=c) ⋯ λi hi ne=>h i ⋯ ne ⋯,e]
  ·rw[Qmp (c:=c) (d:=d) hcd ⋯ λi hi=>h i ⋯,h n ⋯ ⋯ ⋯];omega
theorem Qnd(x:Int)(f:Mt1):∀n,sm n (λi=>f i*x)=sm n f*x
 | 0=>by simp[sm]
 | n+1=>by unfold sm;rw[Qnd x f n,Zac]
noncomputable def skp(j c:Nat):Nat:=if c<j then c else c+1
noncomputable def sgn(j:Nat):Int:=if j % 2=0 then 1 else-1
theorem Qk3(j:Nat):sgn (j+1)= -sgn j:=by
 unfold sgn;by_cases h:j % 2=0
 ·rw[if_pos h,if_neg ⋯]
 ·rw[if_neg h,if_pos ⋯];rfl
noncomputable def det:Nat->(Nat->Nat->Int)->Int
 | 0,_=>1
 | n+1,m=>sm (n+1) λj=>sgn j*m j 0*det n λc r=>m (skp j c) (r+1)
noncomputable def cup(m:Mt2)(c:Nat)(a:Mt1):Nat->Nat->Int:=λj=>if j=c then a else m j
theorem QJ(m:Mt2)(c:Nat)(a:Mt1):cup m c a c=a:=by unfold cup;rw[if_pos rfl]
theorem QH(m:Mt2)(a:Mt1)(h:j≠c):cup m c a j=m j:=by unfold cup;rw[if_neg h]
theorem Qak(m:Mt2)(c:Nat):cup m c (m c)=m:=by
 funext j;by_cases h:j=c
 ·rw[h,QJ]
 ·rw[QH _ _ h]
theorem Qny(m:Mt2)(c:Nat)(a b:Mt1):cup (cup m c a) c b=cup m c b:=by
 funext j;by_cases h:j=c
 ·rw[h,QJ,QJ]
 ·rw[QH _ _ h,QH _ _ h,QH _ _ h]
theorem Qai(m:Mt2)(a b:Mt1)(h:c≠d):cup (cup m c a) d b=cup (cup m d b) c a:=by
 funext j;by_cases h1:j=c
 ·subst h1;rw[QH _ _ h,QJ,QJ]
 ·by_cases h2:j=d
  ·subst h2;rw[QJ,QH _ _ h1,QJ]
  ·rw[QH _ _ h2,QH _ _ h1,QH _ _ h1,QH _ _ h2]
theorem Q1:∀{n:Nat}{m k:Mt2},(∀j,j<n->∀r,r<n->m j r=k j r)->det n m=det n k
 | 0,_,_,_=>rfl
 | n+1,m,k,h=>by
  unfold det;refine QbB λj hj=>?_;rw[h j hj 0 ⋯,Q1 (n:=n) (m:=λc r=>m (skp j c) (r+1)) (k:=λc r=>k (skp j c) (r+1)) λc hc r hr=>h _ (by unfold skp;split<;>omega) _ ⋯]
theorem Qjt(m:Mt2)(c:Nat)(v:Mt1):(λc' r=>cup m c v (skp c c') (r+1))=λc' r=>m (skp c c') (r+1):=by
 funext c' r;rw[QH _ _ (by unfold skp;split<;>omega)]
theorem Qh7(m:Mt2)(v:Mt1)(h:c≠j):(λc' r=>cup m c v (skp j c') (r+1))=cup (λc' r=>m (skp j c') (r+1)) (if c<j then c else c-1) (λr=>v (r+1)):=by
 funext c' r;by_cases e:c'=if c<j then c else c-1
 ·rw[e,QJ];have:skp j (if c<j then c else c-1)=c:=by
   unfold skp;by_cases q:c<j
   ·rw[if_pos q,if_pos q]
   ·rw[if_neg q,if_neg ⋯];omega
  rw[this,QJ]
 ·rw[QH _ _ e,QH];intro z;refine e ?_;unfold skp at z;by_cases q:c'<j
  ·rw[if_pos q]at z;rw[if_pos ⋯];omega
  ·rw[if_neg q]at z;rw[if_neg ⋯];omega
theorem Qhq(x y:Int)(a b:Mt1):∀(n:Nat) (m:Mt2) (c:Nat),c<n->∀(a b:Mt1),det n (cup m c λr=>x*a r+y*b r)=x*det n (cup m c a)+y*det n (cup m c b)
 | 0,_,_,h,_,_=> ⋯
 | n+1,m,c,h,a,b=>by
  unfold det;rw[← Qju];refine QbB λj hj=>?_;by_cases e:j=c
  ·subst e;rw[Qjt,Qjt,Qjt,QJ,QJ,QJ];generalize det n _=q;generalize sgn j=s;simp only[Zay,Zac,Zx,ZN]
  ·rw[Qh7 m _ (Ne.symm e),Qh7 m _ (Ne.symm e),Qh7 m _ (Ne.symm e),QH _ _ e,QH _ _ e,QH _ _ e,Qhq x y a b n _ _ (by split<;>omega)];generalize det n _=q;generalize det n _=q';generalize sgn j*m j 0=s;simp only[Zay,ZN]
theorem QjJ(h:c<n)(a b:Mt1):det n (cup m c λr=>a r+b r)=det n (cup m c a)+det n (cup m c b):=by
 have:=Qhq 1 1 a b n m c h a b;simpa only[ZT]using this
theorem QfK(h:c<n)(x:Int)(a:Mt1):det n (cup m c λr=>x*a r)=x*det n (cup m c a):=by
 have:=Qhq x 0 a a n m c h a a;simpa only[ZG,Int.add_zero]using this
theorem Qj8:∀(n:Nat) (m:Mt2) (c:Nat),c+1<n->m c=m (c+1)->det n m=0
 | 0,_,_,h,_=> ⋯
 | n+1,m,c,h,e=>by
  unfold det;rw[Qmp (c:=c) (d:=c+1) ⋯ h]
  ·have:(λc' r=>m (skp c c') (r+1))=λc' r=>m (skp (c+1) c') (r+1):=by
    funext c' r;unfold skp;by_cases q:c'<c
    ·rw[if_pos q,if_pos ⋯]
    ·rw[if_neg q];by_cases q2:c'=c
     ·rw[if_pos ⋯,q2,e]
     ·rw[if_neg ⋯]
   rw[this,Qk3,e];generalize det n _=q;rw[Zau,Zau];omega
  ·intro j hj h1 h2;have:det n (λc' r=>m (skp j c') (r+1))=0:=by
    by_cases q:c<j
    ·refine Qj8 n _ c ⋯ ?_;funext r;show m (skp j c) (r+1)=m (skp j (c+1)) (r+1);unfold skp;rw[if_pos q,if_pos ⋯,e]
    ·refine Qj8 n _ (c-1) ⋯ ?_;funext r;show m (skp j (c-1)) (r+1)=m (skp j (c-1+1)) (r+1);unfold skp;rw[if_neg ⋯,if_neg ⋯,show c-1+1=c by omega,e]
   rw[this,ZJ]
theorem QkC(hc:c<n)(hd:d<n)(hcd:c≠d)(hz:∀k:Nat->Nat->Int,k c=k d->det n k=0)(a b:Mt1):det n (cup (cup m c a) d b)= -det n (cup (cup m c b) d a):=by
 have z:=hz (cup (cup m c λr=>a r+b r) d λr=>a r+b r) (by rw[QJ,QH _ _ hcd,QJ]);have za:=hz (cup (cup m c a) d a) (by rw[QJ,QH _ _ hcd,QJ]);have zb:=hz (cup (cup m c b) d b) (by rw[QJ,QH _ _ hcd,QJ]);rw[QjJ hd,Qai _ _ _ hcd,QjJ hc,Qai _ _ _ hcd,QjJ hc,Qai _ _ _ (Ne.symm hcd),Qai _ _ _ (Ne.symm hcd),Qai _ _ _ (Ne.symm hcd),Qai _ _ _ (Ne.symm hcd),za,zb]at z;omega
theorem QmK:∀(g n:Nat) (m:Mt2) (i:Nat),i+g+1<n->m i=m (i+g+1)->det n m=0
 | 0,n,m,i,h,e=>Qj8 n m i h e
 | g+1,n,m,i,h,e=>by
  have:=QkC (m:=m) (c:=i+g+1) ⋯ ⋯ ⋯ (λk hk=>Qj8 n k _ ⋯ hk) (m (i+g+1)) (m (i+g+1+1));rw[Qak,Qak]at this;rw[this,QmK g n _ i ⋯]
  ·rfl
  ·rw[QH _ _ ⋯,QH _ _ ⋯,QH _ _ ⋯,QJ];exact e
theorem Qff(hi:i<n)(hj:j<n)(hij:i≠j)(e:m i=m j):det n m=0:=by
 rcases Nat.lt_or_gt_of_ne hij with h | h
 ·exact QmK (j-i-1) n m i ⋯ (by rw[show i+(j-i-1)+1=j by omega];exact e)
 ·exact QmK (i-j-1) n m j ⋯ (by rw[show j+(i-j-1)+1=i by omega];exact e.symm)
theorem QdL(hc:c<n)(hd:d<n)(hcd:c≠d)(a b:Mt1):det n (cup (cup m c a) d b)= -det n (cup (cup m c b) d a):=QkC hc hd hcd (λk hk=>Qff hc hd hcd hk) a b
theorem Qd0(h:c<n)(x:Mt1)(E:Mt2):∀k,det n (cup m c λr=>sm k λs=>x s*E s r)=sm k λs=>x s*det n (cup m c (E s))
 | 0=>by
  have:=QfK (m:=m) h 0 λ_=>0;rw[ZG]at this;unfold sm;simpa using this
 | k+1=>by
  unfold sm;rw[QjJ h,Qd0 h x E k,QfK h]
theorem QoL:∀{n:Nat}(σ:Nat->Nat),(∀j,j<n+1->σ j<n)->∃i j,i<n+1/\j<n+1/\i≠j/\σ i=σ j
 | 0,σ,h=>absurd (h 0 ⋯) ⋯
 | n+1,σ,h=>by
  by_cases q:∃i,i<n+1/\σ i=σ (n+1)
  ·obtain⟨i,hi,e⟩:=q;exact⟨i,n+1,⋯,⋯,⋯,e⟩
  ·have ne:∀i,i<n+1->σ i≠σ (n+1):=λi hi e=>q ⟨i,hi,e⟩;have hv:=h (n+1) ⋯;obtain⟨i,j,hi,hj,hij,e⟩:=QoL (n:=n) (λj=>if σ (n+1)<σ j then σ j-1 else σ j) λj hj=>by
    have:=h j ⋯;have:=ne j hj;show(if σ (n+1)<σ j then σ j-1 else σ j)<n;by_cases c:σ (n+1)<σ j
    ·rw[if_pos c];omega
    ·rw[if_neg c];omega
   refine⟨i,j,⋯,⋯,hij,?_⟩;have a:=ne i hi;have b:=ne j hj;have e:(if σ (n+1)<σ i then σ i-1 else σ i)=(if σ (n+1)<σ j then σ j-1 else σ j):=e;by_cases c:σ (n+1)<σ i
   ·rw[if_pos c]at e;by_cases d:σ (n+1)<σ j
    ·rw[if_pos d]at e;omega
    ·rw[if_neg d]at e;omega
   ·rw[if_neg c]at e;by_cases d:σ (n+1)<σ j
    ·rw[if_pos d]at e;omega
    ·rw[if_neg d]at e;omega
theorem Qpr{n:Nat}{E:Mt2}{x:Mt2}:∀(k:Nat) (W:Mt2) (σ:Nat->Nat),k<=n+1->(∀j,j<n+1->σ j<n)->(∀j,j<k->W j=λr=>sm n λs=>x j s*E s r)->(∀j,k<=j->j<n+1->W j=E (σ j))->det (n+1) W=0
 | 0,W,σ,hk,hσ,_,h2=>by
  obtain⟨i,j,hi,hj,hij,e⟩:=QoL σ hσ;exact Qff hi hj hij (by rw[h2 i ⋯ hi,h2 j ⋯ hj,e])
 | k+1,W,σ,hk,hσ,h1,h2=>by
  have:=Qd0 (n:=n+1) (m:=W) (c:=k) ⋯ (x k) E n;rw[← h1 k ⋯,Qak]at this;rw[this];refine QjM λs hs=>?_;rw[Qpr k (cup W k (E s)) (λj=>if j=k then s else σ j) ⋯ (λj hj=>by show(if j=k then s else σ j)<n;by_cases e:j=k;(rw[if_pos e];exact hs);(rw[if_neg e];exact hσ j hj)) (λj hj=>by rw[QH _ _ ⋯];exact h1 j ⋯) λj h3 h4=>?_,ZJ];show cup W k (E s) j=E (if j=k then s else σ j);by_cases e:j=k
  ·rw[e,QJ,if_pos rfl]
  ·rw[QH _ _ e,if_neg e];exact h2 j ⋯ h4
noncomputable def cyc(m:Mt2)(a:Mt1)(l k:Nat):Nat->Nat->Int:=λc=>if c<k then m c else if c=k then a else if c<=l then m (c-1)else m c
theorem Qvf(m:Mt2)(a:Mt1)(hk:k<l)(hl:l<n):det n (cyc m a l k)= -det n (cyc m a l (k+1)):=by
 have h:=QdL (n:=n) (m:=cyc m a l k) (c:=k) (d:=k+1) ⋯ ⋯ ⋯ a (m k);have e1:cup (cup (cyc m a l k) k a) (k+1) (m k)=cyc m a l k:=by
  have q1:cyc m a l k k=a:=by unfold cyc;rw[if_neg ⋯,if_pos rfl]
  have q2:cyc m a l k (k+1)=m k:=by unfold cyc;rw[if_neg ⋯,if_neg ⋯,if_pos ⋯,Zbj]
  have:=Qak (cyc m a l k) k;rw[q1]at this;rw[this,← q2,Qak]
 have e2:cup (cup (cyc m a l k) k (m k)) (k+1) a=cyc m a l (k+1):=by
  funext c;by_cases h1:c=k+1
  ·subst h1;rw[QJ];unfold cyc;rw[if_neg ⋯,if_pos rfl]
  ·rw[QH _ _ h1];by_cases h2:c=k
   ·subst h2;rw[QJ];unfold cyc;rw[if_pos ⋯]
   ·rw[QH _ _ h2];unfold cyc;by_cases h3:c<k
    ·rw[if_pos h3,if_pos ⋯]
    ·rw[if_neg h3,if_neg h2,if_neg (show ¬c<k+1 by omega),if_neg h1]
 rw[e1,e2]at h;exact h
theorem Qq9(m:Mt2)(a:Mt1)(hl:l<n):∀g k,k+g=l->det n (cyc m a l k)=sgn g*det n (cup m l a)
 | 0,k,h=>by
  have:cyc m a l k=cup m l a:=by
   funext c;unfold cyc cup;by_cases h1:c=l
   ·rw[if_neg ⋯,if_pos ⋯,if_pos h1]
   ·rw[if_neg h1];by_cases h2:c<k
    ·rw[if_pos h2]
    ·rw[if_neg h2,if_neg ⋯,if_neg ⋯]
  rw[this];unfold sgn;simp
 | g+1,k,h=>by
  rw[Qvf m a ⋯ hl,Qq9 m a hl g (k+1) ⋯,Qk3,Zau]
theorem QA7(j:Nat):sgn j*sgn j=1:=by unfold sgn;split<;>rfl
noncomputable def bE(r s q:Nat):Int:=if q=0 then(if s=r then 1 else 0)else if s=q-1 then 1 else 0
theorem Qme(m:Mt2)(a:Mt1)(hr:r<n):det n m*a r=sm n λl=>det n (cup m l a)*m l r:=by
 have v0:∃v:Nat->Nat->Int,v=λj=>if j=0 then a else m (j-1):=⟨_,rfl⟩;obtain⟨v,hv⟩:=v0;have hv0:v 0=a:=by rw[hv];rfl
 have hvs:∀j,v (j+1)=m j:=λj=>by rw[hv];show(if j+1=0 then a else m (j+1-1))=_;rw[if_neg ⋯,Zbj]
 have z:det (n+1) (λj s=>if s=0 then v j r else v j (s-1))=0:=by
  have key:det (n+1) (λj q=>sm n λs=>v j s*bE r s q)=0:=
   Qpr (n+1) _ (λ_=>r) ⋯ (λ_ _=>hr) (λj _=>rfl) (λj h1 h2=> ⋯)
  rw[← key];refine Q1 λj hj s hs=>?_;by_cases e:s=0
  ·subst e;rw[if_pos rfl,Qds hr]
   ·unfold bE;rw[if_pos rfl,if_pos rfl,Zae]
   ·intro i _ ne;unfold bE;rw[if_pos rfl,if_neg ne,ZJ]
  ·rw[if_neg e,Qds (c:=s-1) ⋯]
   ·unfold bE;rw[if_neg e,if_pos rfl,Zae]
   ·intro i _ ne;unfold bE;rw[if_neg e,if_neg ne,ZJ]
 unfold det at z;have term:∀j,(sgn j*(if(0:Nat)=0 then v j r else v j (0-1))*det n λc q=>if q+1=0 then v (skp j c) r else v (skp j c) (q+1-1))=sgn j*v j r*det n λc=>v (skp j c):=λj=>by
  rw[if_pos rfl];congr 1
 have first:∀(k:Nat) (f:Mt1),sm (k+1) f=f 0+sm k λi=>f (i+1):=λk f=>by
  induction k with
  | zero=>show 0+f 0=f 0+0;omega
  | succ k ih=>show sm (k+1) f+f (k+1)=_;rw[ih];show _=f 0+(sm k (λi=>f (i+1))+f (k+1));omega
 rw[QbB λj _=>term j,first]at z;have t0:(λc=>v (skp 0 c))=m:=by funext c;unfold skp;rw[if_neg ⋯,hvs]
 have tl:∀l,l<n->sgn (l+1)*v (l+1) r*det n (λc=>v (skp (l+1) c))= -(det n (cup m l a)*m l r):=λl hl=>by
  have:(λc=>v (skp (l+1) c))=cyc m a l 0:=by
   funext c;unfold skp cyc;by_cases h0:c=0
   ·subst h0;rw[if_pos (show 0<l+1 by omega),if_neg (show ¬0<0 by omega),if_pos rfl,hv0]
   ·obtain⟨c',rfl⟩:∃c',c=c'+1:=⟨c-1,⋯⟩;rw[if_neg (show ¬c'+1<0 by omega),if_neg h0];by_cases h1:c'+1<=l
    ·rw[if_pos (show c'+1<l+1 by omega),if_pos h1,hvs,Zbj]
    ·rw[if_neg (show ¬c'+1<l+1 by omega),if_neg h1,hvs]
  rw[this,Qq9 m a hl l 0 ⋯,hvs,Qk3];have q:=QA7 l;generalize det n (cup m l a)=d at *;generalize m l r=x at *;have: -sgn l*x*(sgn l*d)= -(sgn l*sgn l*(d*x)):=by
   rw[Zau,Zau,Zx,ZN x,← Zx,ZP x d]
  rw[this,q,ZT]
 rw[t0,hv0]at z;have neg:=Qju (-1) 0 (λl=>det n (cup m l a)*m l r) (λ_=>0) n;rw[QbB (g:=λl=> -1*(det n (cup m l a)*m l r)+0*0) λl hl=>by rw[tl l hl];omega]at z;have s0:sgn 0=1:=rfl;rw[neg,s0,ZT]at z;rw[ZP];omega
theorem Qw4(m:Mt2)(u a:Mt1)(hk:k<n)(hi:i<n)(hki:k≠i):det n m*det n (cup (cup m k u) i a)=det n (cup m k u)*det n (cup m i a)-det n (cup m i u)*det n (cup m k a):=by
 have h1:det n m*det n (cup (cup m k u) i a)=det n (cup (cup m i a) k λr=>det n m*u r):=by
  rw[QfK hk,Qai _ _ _ hki]
 have h2:det n (cup (cup m i a) k λr=>det n m*u r)=det n (cup (cup m i a) k λr=>sm n λl=>det n (cup m l u)*m l r):=by
  refine Q1 λj hj r hr=>?_;by_cases e:j=k
  ·subst e;rw[QJ,QJ];exact Qme m u hr
  ·rw[QH _ _ e,QH _ _ e]
 rw[h1,h2,Qd0 hk (λl=>det n (cup m l u)) m n];have tk:det n (cup (cup m i a) k (m k))=det n (cup m i a):=by rw[Qai _ _ _ (Ne.symm hki),Qak]
 have ti:det n (cup (cup m i a) k (m i))= -det n (cup m k a):=by
  rw[QdL hi hk (Ne.symm hki),Qak]
 have tn:∀l,l<n->l≠k->l≠i->det n (cup (cup m i a) k (m l))=0:=λl hl h1 h2=>Qff hk hl (Ne.symm h1) (by rw[QJ,QH _ _ h1,QH _ _ h2]);rcases Nat.lt_or_gt_of_ne hki with h | h
 ·rw[Qmp h hi λl hl a b=>by rw[tn l hl a b,ZJ],tk,ti,Zaq];omega
 ·rw[Qmp h hk λl hl a b=>by rw[tn l hl b a,ZJ],tk,ti,Zaq];omega
noncomputable def QI(j r:Nat):Int:=if j=r then 1 else 0
theorem QeI:∀n,det n QI=1
 | 0=>rfl
 | n+1=>by
  unfold det;rw[Qds (c:=0) ⋯ λi _ ne=>by unfold QI;rw[if_neg ne,ZJ,ZG]];have:(λc r=>QI (skp 0 c) (r+1))=QI:=by
   funext c r;have e:skp 0 c=c+1:=by unfold skp;rw[if_neg ⋯]
   rw[e];unfold QI;by_cases h:c=r
   ·rw[if_pos h,if_pos ⋯]
   ·rw[if_neg h,if_neg ⋯]
  rw[this,QeI n];unfold QI sgn;simp
theorem QoJ(a:Mt1)(hi:i<n):det n (cup QI i a)=a i:=by
 have:=Qme QI a hi;rw[QeI,ZT,Qds (c:=i) hi λl _ ne=>by rw[show QI l i=0 by unfold QI;rw[if_neg ne],ZJ]]at this;rw[this,show QI i i=1 by unfold QI;rw[if_pos rfl],Zae]
structure Clr (n N k:Nat) (A m R:Mt2) (d:Int):Prop where
 le:k<=n
 det:HS.det n m=d
 nz:d≠0
 ent:∀i j,i<n->j<N->R i j=HS.det n (cup m i (A j))
 own:∀j,j<k->m j=A j
theorem Clr.start(n N:Nat)(A:Mt2):Clr n N 0 A QI (λi j=>A j i) 1:=⟨⋯,QeI n,by decide,λi j hi _=>(QoJ (A j) hi).symm,λj hj=> ⋯⟩
theorem Clr.exact{n N k:Nat}{A m R:Mt2}{d:Int}(h:Clr n N k A m R d)(hk:k<n)(kN:k<N){i j:Nat}(hi:i<n)(hj:j<N)(ne:i≠k):R k k*R i j-R i k*R k j=d*HS.det n (cup (cup m k (A k)) i (A j)):=by
 rw[h.ent k k hk kN,h.ent i j hi hj,h.ent i k hi kN,h.ent k j hk hj,← Qw4 m (A k) (A j) hk hi (Ne.symm ne),h.det]
theorem Clr.step{n N k:Nat}{A m R R':Mt2}{d:Int}(h:Clr n N k A m R d)(hk:k<n)(kN:k<N)(hp:R k k≠0)(h1:∀j,j<N->R' k j=R k j)(h2:∀i j,i<n->i≠k->j<N->∀q,R k k*R i j-R i k*R k j=d*q->R' i j=q):Clr n N (k+1) A (cup m k (A k)) R' (R k k):=by
 refine⟨hk,(h.ent k k hk kN).symm,hp,λi j hi hj=>?_,λj hj=>?_⟩
 ·by_cases e:i=k
  ·subst e;rw[h1 j hj,h.ent i j hi hj,Qny]
  ·exact h2 i j hi e hj _ (h.exact hk kN hi hj e)
 ·by_cases e:j=k
  ·subst e;rw[QJ]
  ·rw[QH _ _ e];exact h.own j ⋯
theorem Clr.tell{n N k:Nat}{A m R:Mt2}{d:Int}(h:Clr n N k A m R d){j r:Nat}(hj:j<N)(hr:r<n):d*A j r=sm n λl=>R l j*m l r:=by
 have:=Qme m (A j) hr;rw[h.det]at this;rw[this];exact QbB λl hl=>by rw[h.ent l j hl hj]
noncomputable def bnd(B:Nat):Nat->Nat
 | 0=>1
 | n+1=>(n+1)*(B*bnd B n)
theorem Qt8:∀{n:Nat},(∀i,i<n->(f i).natAbs<=C)->(sm n f).natAbs<=n*C
 | 0,_=>by simp[sm]
 | n+1,h=>by
  unfold sm;have h1:=Qt8 (n:=n) λi hi=>h i ⋯;have h2:=h n ⋯;have:=Zbu (sm n f) (f n);rw[Nat.succ_mul];omega
theorem QyV(j:Nat):(sgn j).natAbs=1:=by unfold sgn;split<;>rfl
theorem QdZ:∀{n:Nat}{m:Mt2},(∀j,j<n->∀r,r<n->(m j r).natAbs<=B)->(det n m).natAbs<=bnd B n
 | 0,_,_=>by show(1:Int).natAbs<=1;decide
 | n+1,m,h=>by
  unfold det bnd;refine Qt8 λj hj=>?_;rw[Zak,Zak,QyV,Nat.one_mul];refine ZaW (h j hj 0 ⋯) (QdZ λc hc r hr=>h _ ?_ _ ⋯);unfold skp;split<;>omega
theorem Quq(hn:n<=8):bnd (2^200) n<2^2000:=by
 have h:∀k,k<9->bnd (2^200) k<2^2000:=by decide+kernel
 exact h n ⋯
def QsA(n:Nat)(m:Mt2):Prop:=∀j,j<n->∀r,r<n->(m j r).natAbs<=2^200
def Qjy(n:Nat)(A:Mt2):Prop:=∀k,k<n->∀c:Nat->Int,(∀r,r<=k->sm (k+1) (λl=>c l*A l r)=0)->c k=0
structure QhX (n N k:Nat) (A m R:Mt2) (d:Int):Prop where
 clr:Clr n N k A m R d
 unit:∀l,k<=l->l<n->m l=QI l
 col:QsA n m
theorem QsA.put(h:QsA n m)(ha:∀r,r<n->(a r).natAbs<=2^200):QsA n (cup m i a):=λj hj r hr=>by
 by_cases e:j=i
 ·subst e;rw[QJ];exact ha r hr
 ·rw[QH _ _ e];exact h j hj r hr
theorem QhX.start(n N:Nat)(A:Mt2):QhX n N 0 A QI (λi j=>A j i) 1:=⟨Clr.start n N A,λ_ _ _=>rfl,λj _ r _=>by unfold QI;split<;>decide⟩
theorem Qig:∀{n:Nat},k<=n->(∀i,k<=i->i<n->f i=0)->sm n f=sm k f
 | 0,h,_=>by rw[Nat.le_zero.mp h]
 | n+1,h,z=>by
  by_cases e:k=n+1
  ·rw[e]
  ·show sm n f+f n=sm k f;rw[Qig (n:=n) ⋯ λi h1 h2=>z i h1 ⋯,z n ⋯ ⋯,Int.add_zero]
theorem QhX.QCA{n N k:Nat}{A m R:Mt2}{d:Int}(h:QhX n N k A m R d)(hk:k<n)(kN:k<N)(hl:Qjy n A):R k k≠0:=λz=>by
 refine h.clr.nz ?_;have:=hl k hk (λl=>if l=k then-d else R l k) λr hr=>by
  have t:=h.clr.tell kN (show r<n by omega);rw[Qig (k:=k) ⋯]at t
  ·show(sm k λl=>(if l=k then-d else R l k)*A l r)+(if k=k then-d else R k k)*A k r=0;rw[if_pos rfl,QbB (g:=λl=>R l k*m l r) λl hl=>by rw[if_neg ⋯,h.clr.own l hl],← t,Zau];omega
  ·intro l h1 h2;by_cases e:l=k
   ·rw[e,z,ZG]
   ·rw[h.unit l ⋯ h2,show QI l r=0 by unfold QI;rw[if_neg ⋯],ZJ]
 rw[if_pos rfl]at this;omega
theorem QhX.step{n N k:Nat}{A m R R':Mt2}{d:Int}(h:QhX n N k A m R d)(hk:k<n)(kN:k<N)(hA:∀j,j<N->∀r,r<n->(A j r).natAbs<=2^200)(hp:R k k≠0)(h1:∀j,j<N->R' k j=R k j)(h2:∀i j,i<n->i≠k->j<N->∀q,R k k*R i j-R i k*R k j=d*q->R' i j=q):QhX n N (k+1) A (cup m k (A k)) R' (R k k):=
 ⟨h.clr.step hk kN hp h1 h2,λl h3 h4=>by rw[QH _ _ ⋯];exact h.unit l ⋯ h4,h.col.put (hA k kN)⟩
theorem QbA(h:i.natAbs<2^2000):QaM i:=Zo (Zbk h) (by decide)
theorem Qs0(hd:d≠0)(h:a=d*q):Qep a d=q:=by
 rw[QnB,h,Int.mul_fdiv_cancel_left q hd]
theorem Qf4(ha:fa U=some ra)(ea:ra.d= .int a)(hb:fb U=some rb)(eb:rb.d= .int b):dOp QaL fa fb U=some (reI (a-b)):=by
 refine QaN ha hb ?_;rw[ea,eb];rfl
theorem QeG(ha:fa U=some ra)(ea:ra.d= .int a)(hb:fb U=some rb)(eb:rb.d= .int b)(hz:b≠0)(h2:b.natAbs<2^2000)(h:a=b*q):dOp Qbb fa fb U=some (reI q):=by
 refine QaN ha hb ?_;rw[ea,eb];show(if Qci b=true then some (D.int (Qep a b))else none)=_;have:Qci b=true:=by
  unfold Qci;simp only[Zm,decide_eq_true_eq];exact⟨hz,Zp h2 (Zr (by decide) (by decide))⟩
 rw[if_pos this,Qs0 hz h]
noncomputable def QqC:DS:=(Qd (QC (QG (Qaq vv0 vv1) (.tp [1,2]) [none,none,none,some 2,some 3,some 0,some 1] QO (dOp Qbb (dOp QaL (QY (Qm vv6 vv3) vv1) (QY (Qm vv5 vv3) vv2)) vv4))) Qh)
noncomputable def Qjv(Qed:Den)(QeY:Den):DS:=(Qd (Qo 1 (Qal vv0)) (Qd (Qo 2 kk1) (Qd (QaW (Qa7 (dBf Qa3 (Qa vv0 Qc))) (.nm 3) (Qd (Qo 1 (Qf 2 Qed [] (Qa vv1 (Qa vv3 Qc)))) (Qd (Qo 4 (Qal (Qm vv1 vv3))) (Qd (sIf (QF (dOp gEq (Qm vv4 vv3) kk0)) (Qd (QC (Qar (Qa vv1 (Qa kk0 Qc)))) Qh) Qh) (Qd (Qo 1 (QG (QW vv1) (.nm 1) [none,none,some 3,some 2,some 4] QO (Qf 4 QeY [] (Qa vv1 (Qa vv4 (Qa vv2 (Qa vv3 Qc))))))) (Qd (QcQ 1 QaQ vv3 vv4) (Qd (Qo 2 (Qal (Qm vv4 vv3))) Qh))))))) (Qd (QC (Qar (Qa vv1 (Qa vv2 Qc)))) Qh))))
theorem QeQ(h:fs U=some r)(e:den (r.ds++dfl)=some (d,false))(hn:r.ds.length+dfl.length=n):Qf n den dfl fs U=some (R.norm ⟨d,false,r.M⟩):=by
 unfold Qf;rw[h,Za,if_pos hn,e];rfl
theorem QuD{k:Nat}(hx:U[x]? =some (slT (Qe n N g)))(hi:fi U=some (reI k))(ha:fa U=some (reF (Qb N p)))(hk:k<n)
  (q:Q (.nx (U.set x (slF (Qe n N (λi j=>if i=k then p j else g i j)))))):Run (QcQ x QaQ fi fa) U Q:=by
 refine⟨_,?_,q⟩;unfold QcQ;rw[ha,Za,hx];have hn:(HS.R.mk (Qb N p) false []).norm=(reF (Qb N p)):=by unfold R.norm Qb;rfl
 simp only[QaQ,Za,hi,Qe,QbY,Zq,ZC,hn];rw[Qct (show(0:Int)<=k by omega) ⋯];simp only[Za,ZQ];have e:((List.range n).map λi=>Qb N (g i)).set k (Qb N p)=(List.range n).map λi=>Qb N (λj=>if i=k then p j else g i j):=by
  refine ZaT λi=>?_;rw[ZbL];by_cases h:k=i
  ·subst h;rw[if_pos rfl,if_pos (by simpa using hk),Zs,ZK hk];simp
  ·rw[if_neg h,Zs,Zs];by_cases h2:i<n
   ·rw[ZK h2];simp only[ZU,if_neg (Ne.symm h)]
   ·rw[Zu (by simpa using h2)];rfl
 rw[e];rfl
theorem Qcu(f:Mt1):∀n,sm n f=Qq n f
 | 0=>rfl
 | n+1=>by rw[Qag,← Qcu f n];rfl
theorem Qrw(h:∀i,i<m->0<=f i):0<=Qq m f:=by
 have:=QfO h;rw[QaS]at this;exact this
theorem Qvz{m k:Nat}{T:Mt2}(tp:TP m T){c:Mt1}(h0:∀l,k<l->c l=0)(h:∀r,r<m->r<=k->0<=Qq m (λl=>c l*T l r)):∀l,l<m->c l<=0:=by
 obtain⟨w,w0,hw⟩:=tp.wt;have p0:∀l,0<=(if 0<c l then c l else 0):=λl=>by split<;>omega
 have v0:∀r,r<m->0<=Qq m (λl=>(if 0<c l then c l else 0)*T l r):=λr hr=>by
  by_cases h1:0<c r
  ·have hrk:r<=k:=by
    by_cases z:k<r
    ·rw[h0 r z]at h1;omega
    ·omega
   have e:Qq m (λl=>(if 0<c l then c l else 0)*T l r)=Qq m (λl=>((if 0<c l then c l else 0)-c l)*T l r)+Qq m (λl=>c l*T l r):=by
    rw[← QaP m (λl=>((if 0<c l then c l else 0)-c l)*T l r) (λl=>c l*T l r)];exact Qp λl _=>by rw[← Zac];congr 1;omega
   rw[e];refine Int.add_nonneg ?_ (h r hr hrk);refine Qrw λl hl=>?_;by_cases e2:l=r
   ·subst e2;rw[if_pos h1,Zbt,ZG];exact ZbM _
   ·refine ZaV ?_ (tp.pos l r hl hr e2);split<;>omega
  ·refine Qrw λl hl=>?_;by_cases e2:l=r
   ·subst e2;rw[if_neg h1,ZG];exact ZbM _
   ·exact ZaV (p0 l) (tp.pos l r hl hr e2)
 have s1:0<=Qq m λr=>Qq m (λl=>(if 0<c l then c l else 0)*T l r)*w r:=by
  have:Qq m (λ_=>(0:Int))<=Qq m λr=>Qq m (λl=>(if 0<c l then c l else 0)*T l r)*w r:=QfO λr hr=>ZaV (v0 r hr) (w0 r);rw[QaS]at this;exact this
 have s2:(Qq m λr=>Qq m (λl=>(if 0<c l then c l else 0)*T l r)*w r)=Qq m λl=>(if 0<c l then c l else 0)*Qq m λr=>T l r*w r:=by
  have e1:(λr=>Qq m (λl=>(if 0<c l then c l else 0)*T l r)*w r)=λr=>Qq m λl=>(if 0<c l then c l else 0)*(T l r*w r):=by
   funext r;rw[ZP,← QU];exact Qp λl _=>by rw[ZP (w r),Zx]
  rw[e1,QdX];exact Qp λl _=>by rw[QU]
 have s3:(Qq m λl=>(if 0<c l then c l else 0)*Qq m λr=>T l r*w r)<=Qq m λl=> -(if 0<c l then c l else 0):=QfO λl hl=>by
  have:=ZZ (hw l hl) (p0 l);omega
 rw[Qez]at s3;intro l hl;have big:(if 0<c l then c l else 0)<=Qq m λl=>(if 0<c l then c l else 0):=by
  have:=QaI (m:=m) hl (if 0<c l then c l else 0) (λ_=>1);have h2:Qq m (λi=>(if i=l then(if 0<c l then c l else 0)else 0)*1)<=Qq m λl=>(if 0<c l then c l else 0):=QfO λi _=>by
   rw[Zae];by_cases e:i=l
   ·subst e;rw[if_pos rfl];exact ZbM _
   ·rw[if_neg e];exact p0 i
  omega
 by_cases z:0<c l
 ·rw[if_pos z]at big;omega
 ·omega
theorem QqY{m k:Nat}{T:Mt2}(tp:TP m T){c:Mt1}(h0:∀l,k<l->c l=0)(h:∀r,r<m->r<=k->Qq m (λl=>c l*T l r)=0):∀l,l<m->c l<=0:=Qvz tp h0 λr hr hk=>Int.le_of_eq (h r hr hk).symm
theorem QhB{m:Nat}{T:Mt2}(tp:TP m T):Qjy m λl r=>0-T l r:=λk hk c h=>by
 have ext:∀r,r<=k->Qq m (λl=>(if l<=k then c l else 0)*T l r)=0:=λr hr=>by
  have e:=h r hr;rw[← Qcu,Qig (k:=k+1) ⋯]
  ·have n:=Qju (-1) 0 (λl=>c l*(0-T l r)) (λ_=>0) (k+1);rw[e]at n;rw[QbB (g:=λl=> -1*(c l*(0-T l r))+0*0) λl hl=>by rw[if_pos ⋯,Zan,Zaq];omega,n];omega
  ·intro l h1 h2;rw[if_neg ⋯,ZG]
 have a:=QqY tp (λl hl=>by show(if l<=k then c l else 0)=0;rw[if_neg ⋯]) (λr _ hr=>ext r hr) k hk;have b:=QqY (k:=k) tp (λl hl=>by show(if l<=k then-c l else 0)=0;rw[if_neg ⋯]) (λr _ hr=>by
  have:=ext r hr;rw[Qp (g:=λl=> -((if l<=k then c l else 0)*T l r)) λl _=>by split<;>simp[Zau],Qez,this];rfl) k hk
 have a:(if k<=k then c k else 0)<=0:=a;have b:(if k<=k then-c k else 0)<=0:=b;rw[if_pos (Zj k)]at a b;omega
noncomputable def Qsv:DS:=(Qd (QC (QG (QW vv0) (.nm 1) [none,none] QO (dOp QaL kk0 vv1))) Qh)
def Qj6(d:Den):Prop:=∀(n:Nat) (a:Mt1),d [Qb n a]=some (Qb n λi=>0-a i,true)
theorem QAl:Qj6 (Qu 1 Qsv):=λn a=>QN (Qy (QE (List.range n) (Q2 rfl rfl) rfl λi _=>⟨[none,slI (a i)],rfl,reI (0-a i),rfl,rfl,rfl⟩) ⟨rfl,rfl⟩)
noncomputable def Qqs(QaK:Den)(QaE:Den):DS:=(Qd (QC (QG (QW (Qf 1 QaE [] (Qa vv0 Qc))) (.nm 1) [none,none] QO (Qf 1 QaK [] (Qa vv1 Qc)))) Qh)
def QfZ(d:Den):Prop:=∀(m:Nat) (R L:Lpp),m<=1000->R.length+R.length+L.length<=1000000->(∀s∈R,Good m s)->(∀s∈L,Good m s)->d [Qz m R L]=some (Qe m m λi j=>0-Qw m (Qt R L) i j,true)
theorem QuY(ho:Qj6 dop)(ht:Qf0 dt):QfZ (Qu 1 (Qqs dop dt)):=λm R L hm hl hR hL=>by
 have et:=ht m R L hm hl hR hL;generalize Qw m (Qt R L)=T at *;exact QN (Qy (QE (List.range m) (Q2 (Qi rfl et rfl) rfl) rfl λi _=>⟨[none,slF (Qb m (T i))],rfl,reT (Qb m λj=>0-T i j),Qi rfl (ho m (T i)) rfl,rfl,rfl⟩) ⟨rfl,rfl⟩)
noncomputable def QkZ:DS:=(Qd (Qo 1 kk0) (Qd (QaW (QW vv0) (.nm 2) (Qd (Qo 3 (Qal vv2)) (Qd (Qcs (QF (dOp gNe vv3 kk0)) (Qd (Qo 4 (dOp Q3 vv1 vv3)) (Qd (Qo 1 (Qal vv3)) (Qd (Qo 3 (Qal vv4)) Qh)))) Qh))) (Qd (QC (dBf Qi6 (Qa vv1 Qc))) Qh)))
theorem Qvj:(t∣b/\t∣QdM a b)↔(t∣a/\t∣b):=by
 have e:QdM a b=a-b*Qep a b:=by
  rw[QnB,show QdM a b=a.fmod b from Qno a b,Int.fmod_def]
 rw[e];constructor
 ·rintro⟨h1,h2⟩;refine⟨?_,h1⟩;have:=ZaJ h2 (Zaz (c:=Qep a b) h1);rwa[ZaE]at this
 ·rintro⟨h1,h2⟩;exact⟨h2,Zbl h1 (Zaz h2)⟩
theorem Qy6(h:b≠0):(QdM a b).natAbs<b.natAbs:=by
 rw[show QdM a b=a.fmod b from Qno a b];by_cases hb:0<b
 ·have h1:=Zcb a hb;have h2:=Int.fmod_lt_of_pos a hb;omega
 ·have hb':0< -b:= ⋯
  have h1:=Zcb (-a) hb';have h2:=Int.fmod_lt_of_pos (-a) hb';have h3:=Int.neg_fmod_neg a b;omega
def QhT(d:Den):Prop:=∀(xs:List Int),∃g:Int,d [Qe0 xs]=some (.int g,true)/\0<=g/\∀t,t∣g↔∀x∈xs,t∣x
theorem Qs2:QhT (Qu 5 QkZ):=λxs=>by
 have key:Run QkZ [slF (Qe0 xs),none,none,none,none] λo=>match o with | .rt d fr=>fr=true/\∃g,d= .int g/\0<=g/\∀t,t∣g↔∀x∈xs,t∣x | _=>False:=by
  refine rsa rfl ?_;refine Qv (Qav xs (λk U=>∃g j2 j3 j4,(∀t,t∣g↔∀x∈xs.take k,t∣x)/\U=[slF (Qe0 xs),slI g,j2,j3,j4]) (Q2 rfl rfl) rfl ⟨0,none,none,none,λt=>by simp,rfl⟩ ?_ ?_)
  ·rintro k x U hk ⟨g,j2,j3,j4,hg,rfl⟩;refine⟨[slF (Qe0 xs),slI g,slI x,j3,j4],rfl,?_⟩;refine run_seq (QA rfl ?_);rw[QdO rfl];refine QbO (P:=λU=>∃g' j4,(∀t,t∣g'↔(t∣g/\t∣x))/\U=[slF (Qe0 xs),slI g',slI x,slI 0,j4]) ?_ ?_
   ·refine Qgx (λn U=>∃g' r j4,n=r.natAbs/\(∀t,(t∣g'/\t∣r)↔(t∣g/\t∣x))/\U=[slF (Qe0 xs),slI g',slI x,slI r,j4]) ?_ x.natAbs _ ⟨g,x,j4,rfl,λ_=>Iff.rfl,rfl⟩;rintro n U ⟨g',r,j4,rfl,hd,rfl⟩;refine⟨!decide (r=0),QQ (Qc4 rfl rfl rfl rfl) rfl,λh=>?_,λh=>?_⟩
    ·have hr:r=0:=by simpa using h
     subst hr;exact⟨g',j4,λt=>by rw[← hd t];simp,rfl⟩
    ·have hr:r≠0:=by simpa using h
     refine rsa (QaN rfl rfl (by show(if r≠0 then some (D.int (QdM g' r))else none)=_;rw[if_pos hr])) ?_;refine run_seq (QA rfl ?_);rw[QdO rfl];refine run_seq (QA rfl (Qj ?_));rw[QdO rfl];exact⟨_,Qy6 hr,r,QdM g' r,_,rfl,λt=>Qvj.trans (hd t),rfl⟩
   ·rintro U ⟨g',j4,hd,rfl⟩;refine Qj ⟨g',_,_,_,λt=>?_,rfl⟩;rw[hd t,hg t,List.take_succ,hk];simp only[ZF,Option.toList_some,ZE];exact⟨λ⟨a,b⟩ y hy=>hy.elim (a y) λe=>e▸b,λa=>⟨λy hy=>a y (.inl hy),a x (.inr rfl)⟩⟩
  ·rintro U ⟨g,j2,j3,j4,hg,rfl⟩;rw[List.take_length]at hg;refine Qy rfl ⟨rfl,_,rfl,by split<;>omega,λt=>?_⟩;rw[← hg t];split
   ·exact Int.dvd_neg
   ·exact Iff.rfl
 obtain⟨o,h1,h2⟩:=key;cases o with
 | rt d fr=>
  obtain⟨rfl,g,rfl,g0,hg⟩:=h2;exact⟨g,by show Option.bind (QkZ [slF (Qe0 xs),none,none,none,none]) outD=_;rw[h1];rfl,g0,hg⟩
 | _=>exact h2.elim
noncomputable def Qd4(QdW:Den):DS:=(Qd (Qo 1 (Qf 1 QdW [] (Qa vv0 Qc))) (Qd (sIf (QF (dOp gEq (Qm vv1 kk1) kk0)) (Qd Qx Qh) Qh) (Qd (QC vv1) Qh)))
noncomputable def Qp7(Q5:Den)(QaT:Den)(QcA:Den)(QdK:Den):DS:=(Qd (Qo 2 (dBf Qa3 (Qa vv0 Qc))) (Qd (sIf (QF (dOp gNe (dBf Qa3 (Qa vv1 Qc)) vv2)) (Qd Qx Qh) Qh) (Qd (Qo 3 (Qf 1 QaT [] (Qa (QG (Qaq (Qf 1 Q5 [] (Qa vv0 Qc)) vv1) (.tp [1,2]) [none,none,none] QO (QL vv1 (QX (Qa vv2 Qc)))) Qc))) (Qd (Qo 4 (Qf 2 QcA [] (Qa (Qm vv3 kk0) (Qa vv2 Qc)))) (Qd (Qo 5 (Qf 1 QdK [] (Qa (QL vv4 (QX (Qa (Qm vv3 kk1) Qc))) Qc))) (Qd (sIf (QF (dOp gLt (Qm vv3 kk1) kk0)) (Qd (Qo 5 (dOp QaL kk0 vv5)) Qh) Qh) (Qd (QC (Qar (Qa (QG (QW vv4) (.nm 1) [none,none,some 5] QO (dOp Qbb vv1 vv2)) (Qa (dOp Qbb (Qm vv3 kk1) vv5) Qc)))) Qh)))))))
theorem Qf3(ha:fa U=some ra)(ea:ra.d=Qb m f)(hb:fb U=some (reI x))(hm:m<=1000):QL fa (QX (Qa fb Qc)) U=some (reT (Qb (m+1) (up f m x))):=by
 have hb:QX (Qa fb Qc) U=some (reT (.lst [.int x])):=(Qmi (Qn hb (QP _)) (by simp)).trans rfl;unfold QL;rw[ha,Za,hb,Za,ea];simp only[Qb,Zq,ZC,QjF];rw[if_pos (by simp;omega)];unfold Qbv;rw[if_pos (by rw[QcZ,Zm];exact⟨Qca (λ_=>rfl) _,rfl⟩)];congr 3;rw[Zch,ZaI];congr 1
 ·refine ZI λi hi=>?_;rw[Qco,if_neg (by have:=Zg.mp hi;omega)]
 ·show _=[D.int (up f m x m)];rw[Qco,if_pos rfl]
theorem Qla(n:Nat)(f:Mt1):Qb n f=Qe0 ((List.range n).map f):=by unfold Qb Qe0;rw[Zaw];rfl
def Qlb(d:Den):Prop:=∀(n:Nat) (f:Mt2) (row:Mt1),n<=8->(∀j r,j<n->r<n->(f j r).natAbs<=2^200)->(∀r,r<n->(row r).natAbs<=2^200)->Qjy n f->∃tops q,d [Qe n n f,Qb n row]=some (.tup [Qb n tops,.int q],true)/\0<q/\q.natAbs<2^2000/\(∀r,r<n->q*row r=sm n λl=>tops l*f l r)/\(∀l,l<n->(tops l).natAbs<2^2000)/\(q≠1->∃l,l<n/\¬q∣tops l)
noncomputable def Qol(Q6:Den)(Qaj:Den):DS:=(Qd (Qo 2 (Qf 2 Qaj [] (Qa (Qf 1 Q6 [] (Qa vv0 Qc)) (Qa vv1 Qc)))) (Qd (QC (QG (QW (Qm vv2 kk0)) (.nm 1) [none,none,some 2] QO (dOp Qbb vv1 (Qm vv2 kk1)))) Qh))
theorem QmC(ha:fa U=some ra)(ea:ra.d= .int a)(hb:fb U=some rb)(eb:rb.d= .int b)(h:0<b)(h2:b.natAbs<2^2000):dOp Qbb fa fb U=some (reI (a / b)):=by
 refine QaN ha hb ?_;rw[ea,eb];show(if Qci b=true then some (D.int (Qep a b))else none)=_;have:Qci b=true:=by
  unfold Qci;simp only[Zm,decide_eq_true_eq];exact⟨⋯,Zp h2 (Zr (by decide) (by decide))⟩
 rw[if_pos this,Qlq _ _ ⋯]
theorem Qu3(h:∀i,i<m-> -C<=f i/\f i<=C): -(m*C)<=Qq m f/\Qq m f<=m*C:=by
 induction m with
 | zero=>simp[Qq]
 | succ m ih=>
  rw[Qag];have h1:=ih λi hi=>h i ⋯;have h2:=h m ⋯;have e:((m+1:Nat):Int)*C=m*C+C:=by rw[ZaY,Zac];simp
  omega
theorem QuX{m:Nat}{T:Mt2}(hm:m<=8)(hT:∀i j,i<m->j<m->(T i j).natAbs<2^64){f tops:Mt1}{q:Int}(q0:0<q)(h:∀r,r<m->q*f r=sm m λl=>tops l*(0-T l r)):∀r,r<m-> -(2^67)<=QD m T f (λl=>tops l / q) r/\QD m T f (λl=>tops l / q) r<=2^67:=λr hr=>by
 have e:q*QD m T f (λl=>tops l / q) r=Qq m λl=> -(tops l % q)*T l r:=by
  unfold QD;rw[Zay,h r hr,Qcu,← QU,← QaP];refine Qp λl _=>?_;have:=Zbx (tops l) q;have e2:q*(tops l / q*T l r)=(q*(tops l / q))*T l r:=by rw[Zx]
  rw[e2,show q*(tops l / q)=tops l-tops l % q by omega,Zan,Zaq,Int.sub_mul,Zau];omega
 have b:=Qu3 (f:=λl=> -(tops l % q)*T l r) (C:=q*2^64) λl hl=>by
  have h1:=ZD (tops l) (by omega:q≠0);have h2:=ZA (tops l) q0;have h3:=hT l r hl hr;have h4:tops l % q*(T l r)<=q*2^64/\ -(q*2^64)<=tops l % q*(T l r):=by
   have a1:tops l % q*T l r<=tops l % q*2^64:=ZZ ⋯ h1;have a2:tops l % q*2^64<=q*2^64:=ZaF ⋯ (by decide);have a3:tops l % q*(-(2^64))<=tops l % q*T l r:=ZZ ⋯ h1;rw[Zaq]at a3;omega
  rw[Zau];omega
 rw[← e]at b;have hm':(m:Int)*(q*2^64)<=8*(q*2^64):=ZaF ⋯ ⋯;generalize QD m T f (λl=>tops l / q) r=x at b ⊢;constructor
 ·refine ZO λz=>?_;have:=ZZ (show x<= -(2^67)-1 by omega) (show 0<=q by omega);rw[Zci,Zaq,Zae]at this;omega
 ·refine ZO λz=>?_;have:=ZZ (show(2^67+1:Int)<=x by omega) (show 0<=q by omega);rw[Zay,Zae]at this;omega
noncomputable def Qma(QeZ:Den):DS:=(Qd (QC (QG (QW (Qf 1 QeZ [] (Qa vv0 Qc))) (.nm 1) [none,none] QO (QY kk2 vv1))) Qh)
def Qjo(d:Den):Prop:=∀(m:Nat) (R L:Lpp),m<=1000->R.length+R.length+L.length<=1000000->(∀s∈R,Good m s)->(∀s∈L,Good m s)->d [Qz m R L]=some (Qb m λi=>2*Qcy R L i,true)
theorem QrU(hs:QpC ds):Qjo (Qu 1 (Qma ds)):=λm R L hm hl hR hL=>
 QN (Qy (QE (List.range m) (Q2 (Qi rfl (hs m R L hm hl hR hL) rfl) rfl) rfl λi _=>⟨[none,slI (Qcy R L i)],rfl,reI (2*Qcy R L i),Q8 rfl rfl rfl rfl (Qcm (by decide)),rfl,rfl⟩) ⟨rfl,rfl⟩)
theorem Qpb(hN:n<=N)(hA:∀j,j<N->∀r,r<n->(A j r).natAbs<=2^200)(hl:Qjy n A):∀k,k<=n->∃m R d,QhX n N k A m R d
 | 0,_=>⟨_,_,_,QhX.start n N A⟩
 | k+1,hk=>by
  obtain⟨m,R,d,C⟩:=Qpb hN hA hl k ⋯;have pv:=C.QCA (show k<n by omega) ⋯ hl;have ex:∀i j,∃q,i<n->i≠k->j<N->R k k*R i j-R i k*R k j=d*q:=λi j=>by
   by_cases h:i<n/\i≠k/\j<N
   ·exact⟨_,λh1 h2 h3=>C.clr.exact ⋯ ⋯ h1 h3 h2⟩
   ·exact⟨0,λh1 h2 h3=>absurd ⟨h1,h2,h3⟩ h⟩
  refine⟨_,λi j=>if i=k then R k j else(ex i j).choose,_,C.step ⋯ ⋯ hA pv (λj _=>by rw[if_pos rfl]) λi j hi ne hj q hq=>?_⟩;rw[if_neg ne];exact Zaa C.clr.nz (((ex i j).choose_spec hi ne hj).symm.trans hq)
theorem Qo3{n N:Nat}(n8:n<=8){A:Mt2}{g v:Mt1}(hA:∀j,j<n->∀r,r<n->(A j r).natAbs<=2^200)(hl:Qjy n A)(hg:∀r,r<n->(g r).natAbs<=2^200)(h:∀r,r<n->g r=sm n λl=>v l*A l r):∀l,l<n->(v l).natAbs<2^2000:=λl hln=>by
 obtain⟨m,R,d,C⟩:=Qpb (Zj n) hA hl n (Zj n);have e1:det n (cup A l g)=v l*det n A:=by
  have e:det n (cup A l g)=det n (cup A l λr=>sm n λi=>v i*A i r):=by
   refine Q1 λj hj r hr=>?_;by_cases q:j=l
   ·subst q;rw[QJ,QJ];exact h r hr
   ·rw[QH _ _ q,QH _ _ q]
  rw[e,Qd0 hln v A n,Qds hln λi hi ne=>by rw[Qff hln hi (Ne.symm ne) (by rw[QJ,QH _ _ ne]),ZJ],Qak]
 have e2:det n A=d:=by
  rw[← C.clr.det];exact Q1 λj hj r _=>by rw[C.clr.own j hj]
 have b:=ZV (QdZ (m:=cup A l g) λj hj r hr=>by
  by_cases q:j=l
  ·subst q;rw[QJ];exact hg r hr
  ·rw[QH _ _ q];exact hA j hj r hr) (Quq n8)
 rw[e1,e2,Zak]at b;have dz:=C.clr.nz;have:=Zbm (v l).natAbs (show 0<d.natAbs by omega);omega
noncomputable def Qcj(m:Nat)(T:Mt2)(v:Mt1):Nat->Int:=λj=>2*(0-T j j)-QD m T (λj=>2*(0-T j j)) v j
theorem Qn7(j:Nat):Qcj m T v j= -Qq m λi=>v i*T i j:=by
 unfold Qcj QD;show 2*(0-T j j)-(2*(0-T j j)+_)=_;omega
def Rec(m:Nat)(T:Mt2)(v x:Mt1):Prop:=∃(y u:Mt1),(∀j,j<m->0<=y j)/\Told m T (λj=>y j+Qcj m T v j) u/\∀j,j<m->x j=QD m T (λj=>y j+Qcj m T v j) u j
structure Dbl (m:Nat) (T:Mt2) (v:Mt1):Prop where
 told:Told m T (λj=>2*(0-T j j)) v
theorem Dbl.big(h:Dbl m T v)(hj:j<m):(0-T j j)+1<=Qcj m T v j/\Qcj m T v j<=2*(0-T j j):=by
 have h1:=h.told.stb j hj;have h2:=h.told.pos j hj;unfold Qcj;omega
noncomputable def QjX(QK:Den)(Qbf:Den)(QdR:Den)(Qan:Den)(Qbe:Den):DS:=(Qd (Qa8 (Qf 2 QK [] (Qa vv0 (Qa (QX (Qa vv1 Qc)) Qc)))) (Qd (Qo 2 (Qf 2 Qbf [] (Qa vv0 (Qa vv1 Qc)))) (Qd (Qo 3 (Qf 3 QdR [] (Qa vv0 (Qa vv1 (Qa vv2 Qc))))) (Qd (Qo 4 (Qf 2 Qbe [] (Qa vv0 (Qa (Qf 1 Qan [] (Qa vv0 Qc)) Qc)))) (Qd (Qo 5 (QG (Qaq (Qf 1 Qan [] (Qa vv0 Qc)) (Qm vv4 kk0)) (.tp [1,2]) [none,none,none] QO (dOp QaL vv1 vv2))) (Qd (Qo 6 (QL (dBf QgF (Qa (QL (QX (Qa kk0 Qc)) (QG (Qaq vv3 vv5) (.tp [1,2]) [none,none,none] QO (dOp QaL kk0 (dOp Qbb vv1 vv2)))) Qc)) kk1)) (Qd (Qo 7 (QG (Qaq vv3 vv5) (.tp [1,2]) [none,none,none,some 6] QO (QL vv1 (QY vv3 vv2)))) (Qd (Qo 8 (Qf 2 Qbe [] (Qa vv0 (Qa vv7 Qc)))) (Qd (Qo 9 (QG (Qhp vv2 (Qm vv4 kk1) (Qm vv8 kk1)) (.tp [1,2,3]) [none,none,none,none,some 6] QO (QL (dOp QaL vv1 (QY vv4 vv2)) vv3))) (Qd (QC (Qar (Qa (Qm vv8 kk0) (Qa vv9 Qc)))) Qh))))))))))
theorem QBL:Qgv ((List.range m).map f) ((List.range m).map g) ((List.range m).map h)=(List.range m).map λi=> .tup [f i,g i,h i]:=by
 unfold Qgv;refine ZaT λi=>?_;by_cases hi:i<m
 ·have a:∀(k:Nat->D),((List.range m).map k)[i]? =some (k i):=λk=>by rw[Zs,ZK hi];rfl
  have e1:(((List.range m).map g).zip ((List.range m).map h))[i]? =some (g i,h i):=ZaD.mpr ⟨a g,a h⟩;have e2:(((List.range m).map f).zip (((List.range m).map g).zip ((List.range m).map h)))[i]? =some (f i,(g i,h i)):=ZaD.mpr ⟨a f,e1⟩;rw[Zs,e2,a];rfl
 ·rw[Zu (by simp;omega),Zu (by simp;omega)]
theorem QvM(ha:fa U=some ra)(ea:ra.d= .lst ((List.range m).map f))(hb:fb U=some rb)(eb:rb.d= .lst ((List.range m).map g))(hc:fc U=some rc)(ec:rc.d= .lst ((List.range m).map h)):Qhp fa fb fc U=some ⟨(List.range m).map λi=> .tup [f i,g i,h i],ra.M++(rb.M++rc.M)⟩:=by
 unfold Qhp;rw[ha,Za,hb,Za,hc,Za,ea,eb,ec];show(if _ then _ else _)=_;rw[if_pos (by simp),QBL]
def QhH(d:Den):Prop:=∀(m:Nat) (R L:Lpp) (f:Mt1),0<m->m<=8->Qbi m R L->(∀j,j<m->(f j).natAbs<=2^200)->∃k v,d [Qz m R L,Qb m f]=some (.tup [Qb m (QD m (Qw m (Qt R L)) f k),Qb m k],true)/\Dbl m (Qw m (Qt R L)) v/\Rec m (Qw m (Qt R L)) v (QD m (Qw m (Qt R L)) f k)/\Stb m (Qw m (Qt R L)) (QD m (Qw m (Qt R L)) f k)/\∀j,j<m->0<=QD m (Qw m (Qt R L)) f k j
noncomputable def Qhv(QaY:Den)(Qe1:Den)(Qe2:Den):DS:=(Qd (Qo 3 (QL kk1 (dOp Q3 (Qf 2 QaY [] (Qa vv0 (Qa kk0 Qc))) vv1))) (Qd (Qo 4 (dOp Q3 (dOp Qbb (Qf 2 QaY [] (Qa vv0 (Qa kk1 Qc))) kk6) Qus)) (Qd (Qo 5 (dOp Q3 (Qf 2 QaY [] (Qa vv0 (Qa kk1 Qc))) kk6)) (Qd (Qo 6 (QG (Qa7 (dOp Q3 (Qf 2 QaY [] (Qa vv0 (Qa kk2 Qc))) (QL vv2 kk1))) (.nm 1) [none,none,some 0] QO (Qf 2 QaY [] (Qa vv2 (Qa (QL kk3 vv1) Qc))))) (Qd (Qo 7 (Qf 4 Qe2 [] (Qa (Qf 3 Qe1 [] (Qa vv3 (Qa vv4 (Qa vv5 Qc)))) (Qa vv6 (Qa vv3 (Qa vv5 Qc)))))) (Qd (sIf (QF (dOp gEq (dOp Q3 vv4 kk2) kk1)) (Qd (Qo 7 (Qpe vv7 (Qii kk1))) Qh) Qh) (Qd (Qo 8 (QG (QW vv7) (.tp [1,2,3]) [none,none,none,none] (Qdo (QF vv3)) (Qar (Qa (dBf QlF (Qa vv1 (Qa vv2 Qc))) (Qa (dBf Qmo (Qa vv1 (Qa vv2 Qc))) Qc))))) (Qd (Qo 9 (QG (QW vv7) (.tp [1,2,3]) [none,none,none,none] (QF vv3) (Qar (Qa vv1 (Qa vv2 Qc))))) (Qd (QC (Qar (Qa vv3 (Qa vv8 (Qa vv9 Qc))))) Qh)))))))))
def Qnj(d:Den):Prop:=∀(ns:List Int) (most upto:Nat),ns.length<=63->(∀k,QaM (ns.getD k 0))->0<most->most<=8->upto<=20->∃(m:Nat) (R L:Lpp),d [.lst (ns.map .int),.int most,.int upto]=some (Qz m R L,true)/\0<m/\m<=most/\Qbi m R L
theorem QvE(hc:QjV dc)(hb:Qqk db)(hm:QoP dm):Qnj (Qu 10 (Qhv dc db dm)):=λns most upto hl hbits hm0 hm8 hup=>by
 obtain⟨F,hF⟩:=hc ns hl hbits;have b1:=ZD (F 0) (by omega:(most:Int)≠0);have b2:=ZA (F 0) (by omega:(0:Int)<most);obtain⟨m1,em1⟩:∃m:Nat,(m:Int)=1+F 0 % most:=⟨(1+F 0 % most).toNat,⋯⟩;have t1:=ZD (F 1 / 6) (by decide:(1000003:Int)≠0);have t2:=ZA (F 1 / 6) (by decide:(0:Int)<1000003);generalize et:F 1 / 6 % 1000003=t at t1 t2;generalize ek:F 1 % 6=kind;have u1:=ZD (F 2) (by omega:(upto:Int)+1≠0);have u2:=ZA (F 2) (by omega:(0:Int)<(upto:Int)+1);obtain⟨n,en⟩:∃n:Nat,(n:Int)=F 2 % ((upto:Int)+1):=⟨(F 2 % ((upto:Int)+1)).toNat,⋯⟩;have key:Run (Qhv dc db dm) (QaU 10 [.lst (ns.map .int),.int most,.int upto]) (Rt λd fr=>∃(m:Nat) (R L:Lpp),d=Qz m R L/\fr=true/\0<m/\m<=most/\Qbi m R L):=by
  have cell:∀(U:En) (k:Nat),k<=1000->U[0]? =some (slF (.lst (ns.map .int)))->Qf 2 dc [] (Qa (Ql 0) (Qa (dC (.int k)) Qc)) U=some (reI (F k)):=λU k hk h0=>Qi (Qn (QcK h0) (Qn (Qcc _ _) (QP _))) (hF k hk).1 rfl;refine rsa (Q9 rfl rfl (Qad (cell _ 0 (by decide) rfl) rfl rfl rfl ⋯) rfl) ?_;rw[← em1];refine rsa (Qad (Qe5 (cell _ 1 (by decide) rfl) rfl rfl rfl (by decide) (by decide)) rfl rfl rfl (by decide)) ?_;rw[et];refine rsa (Qad (cell _ 1 (by decide) rfl) rfl rfl rfl (by decide)) ?_;rw[ek];have m0:0<m1:= ⋯
  have m8:m1<=most:= ⋯
  have er:dOp Q3 (Qf 2 dc [] (Qa (Ql 0) (Qa (dC (.int 2)) Qc))) (QL (Ql 2) (dC (.int 1))) [slF (.lst (ns.map .int)),slI most,slI upto,slI m1,slI t,slI kind,none,none,none,none]=some (reI n):=
   (Qad (cell _ 2 (by decide) rfl) rfl (Q9 rfl rfl rfl rfl) rfl ⋯).trans (by rw[en])
  refine rsa (d:= .lst (((List.range n).map λk=>F (3+k)).map .int)) ((QE (List.range n) (Qbl er rfl ⋯) rfl λk hk=>⟨[none,slI k,slF (.lst (ns.map .int))],rfl,reI (F (3+k)),Qi (Qn rfl (Qn (Q9 (b:=k) rfl rfl rfl rfl) (QP _))) (by show dc [.lst (ns.map .int),.int (3+(k:Int))]=_;rw[show(3:Int)+k=((3+k:Nat):Int) by omega];exact(hF (3+k) (by have:=Zg.mp hk;omega)).1) rfl,rfl,rfl⟩).trans (by rw[Zaw];rfl)) ?_;generalize hcs:(List.range n).map (λk=>F (3+k))=cs;have hcl:cs.length<=20:=by rw[← hcs,Zq,ZC];omega
  have hbase:=hb m1 t kind ⋯ ⋯ t1 ⋯;obtain⟨W',fr,hmore,hw1,hw2⟩:=hm m1 (QcG m1 t kind) cs kind ⋯ ⋯ (by rw[Qqe];omega) QpI;have gW:∀w∈QcG m1 t kind++W',GoodW m1 w:=λw hw=>(ZF.mp hw).elim (QpI w) (hw2 w);have easgM:∀fr,asg 7 (if fr=true then(reT (Qab (QcG m1 t kind++W')))else R.norm ⟨Qab (QcG m1 t kind++W'),false,[6]⟩) [slF (.lst (ns.map .int)),slI most,slI upto,slI m1,slI t,slI kind,slT (.lst (cs.map .int)),none,none,none]=[slF (.lst (ns.map .int)),slI most,slI upto,slI m1,slI t,slI kind,some (.lst (cs.map .int),fr),some (Qab (QcG m1 t kind++W'),fr),none,none]:=λfr=>by cases fr<;>rfl
  refine run_seq (QA (r:=if fr=true then(reT (Qab (QcG m1 t kind++W')))else R.norm ⟨Qab (QcG m1 t kind++W'),false,[6]⟩) ?_ ?_)
  ·have eargs:Qa (Qf 3 db [] (Qa (Ql 3) (Qa (Ql 4) (Qa (Ql 5) Qc)))) (Qa (Ql 6) (Qa (Ql 3) (Qa (Ql 5) Qc))) [slF (.lst (ns.map .int)),slI most,slI upto,slI m1,slI t,slI kind,slT (.lst (cs.map .int)),none,none,none]=some ⟨[Qab (QcG m1 t kind),.lst (cs.map .int),.int m1,.int kind],true,[6]⟩:=
    Qn (Qi (r:=⟨[.int m1,.int t,.int kind],true,[]⟩) rfl hbase rfl) (rs:=⟨[.lst (cs.map .int),.int m1,.int kind],true,[6]⟩) rfl
   exact(Qls eargs hmore rfl).trans (by cases fr<;>rfl)
  refine(congrArg (λU=>Run _ U _) (easgM fr)).mpr ?_;refine QbO (P:=λU=>∃W b,(∀w∈QcG m1 t kind,w∈W)/\(∀w∈W,GoodW m1 w)/\W.length<=200/\U=[slF (.lst (ns.map .int)),slI most,slI upto,slI m1,slI t,slI kind,some (.lst (cs.map .int),fr),some (Qab W,b),none,none]) ?_ ?_
  ·have hlen:(QcG m1 t kind++W').length<=200:=by rw[Zy,Qqe];omega
   refine QB (QQ (Qbu (Qad rfl rfl rfl rfl (by decide)) rfl rfl rfl) rfl) (λ_=>?_) (λ_=>?_)
   ·refine run_seq (QA (QtP rfl) (Qj ?_));rw[Q4];exact⟨_,true,λw hw=>List.mem_reverse.mpr (Zf _ hw),λw hw=>gW w (List.mem_reverse.mp hw),by rw[ZbH];exact hlen,rfl⟩
   ·exact Qj ⟨_,fr,λw hw=>Zf _ hw,gW,hlen,rfl⟩
  ·rintro U ⟨W,b,w1,w2,w3,rfl⟩;refine rsa (QvI (QcK rfl) (by cases b<;>rfl)) ?_;refine rsa (Qwq (QcK rfl) (by cases b<;>rfl)) ?_;exact Qy rfl ⟨m1,Qc9 W,QdU W,rfl,rfl,m0,m8,⟨W,Qwg.mono w1,w2,w3,rfl,rfl⟩⟩
 obtain⟨o,h1,h2⟩:=key;cases o with
 | rt d fr=>
  obtain⟨m,R,L,rfl,rfl,h3,h4,h5⟩:=h2;exact⟨m,R,L,by unfold Qu;rw[h1];rfl,h3,h4,h5⟩
 | _=>exact h2.elim
noncomputable def QeC:DS:=(Qd (Qo 5 (QG (Qa7 vv1) (.nm 1) [none,none,some 3] QO (QY vv2 (QL vv1 kk2)))) (Qd (QaW (Qa7 (dBf Qa3 (Qa vv0 Qc))) (.nm 4) (Qd (Qo 6 (dOp Q3 vv4 vv1)) (Qd (Qo 7 (QL (QL (QY (Qm vv5 vv6) QmV) (QY (Qm vv0 vv4) vv3)) vv4)) (Qd (QcQ 5 QaQ vv6 (dOp Q3 vv7 (QL (QY kk2 vv2) kk1))) Qh)))) (Qd (QC (QG (QW vv5) (.nm 1) [none,none,some 2] QO (dOp QaL (dOp Q3 vv1 (QL (QY kk2 vv2) kk1)) vv2))) Qh)))
def Qmx(d:Den):Prop:=∀(ns:List Int) (m:Nat) (far by':Int),ns.length<=63->0<m->m<=8->0<=far->far<=10^17->0<=by'->by'<2^60->∃g,d [.lst (ns.map .int),.int m,.int far,.int by']=some (Qb m g,true)/\∀j,j<m-> -far<=g j/\g j<=far
theorem QvC:Qmx (Qu 8 QeC):=λns m far by' hl m0 m8 f0 f1 y0 y1=>by
 have key:Run QeC [slF (.lst (ns.map .int)),slI m,slI far,slI by',none,none,none,none] λo=>match o with | .rt d fr=>fr=true/\∃g,d=Qb m g/\∀j,j<m-> -far<=g j/\g j<=far | _=>False:=by
  refine rsa (QE (List.range m) (Qbl rfl rfl ⋯) rfl λk hk=>⟨[none,slI k,slI by'],rfl,reI (by'*((k:Int)+2)),Q8 rfl rfl (Q9 rfl rfl rfl rfl) rfl (Qcm ⋯),rfl,rfl⟩) ?_;have efar:∀{U:En},U[2]? =some (slI far)->QL (QY (dC (.int 2)) (Ql 2)) (dC (.int 1)) U=some (reI (2*far+1)):=λ{U} h=>Q9 (Q8 rfl rfl (QcK h) rfl (Qcm (by decide))) rfl rfl rfl;refine Qv (Qav (List.range ns.length) (λ_ U=>∃g j4 j6 j7,U=[slF (.lst (ns.map .int)),slI m,slI far,slI by',j4,slT (Qb m g),j6,j7]) (Qbl ((Qfb rfl rfl).trans (by rw[Zq])) rfl ⋯) rfl ⟨_,none,none,none,rfl⟩ ?_ ?_)
  ·rintro k k' U hk ⟨g,j4,j6,j7,rfl⟩;have hk':k<ns.length/\k=k':=by
    obtain⟨h1,h2⟩:=Zk.mp hk;simp at h1 h2;exact⟨h1,h2⟩
   obtain⟨hkn,rfl⟩:=hk';have a1:=ZD (k:Int) (by omega:(m:Int)≠0);have a2:=ZA (k:Int) (by omega:(0:Int)<m);refine⟨[slF (.lst (ns.map .int)),slI m,slI far,slI by',slI k,slT (Qb m g),j6,j7],rfl,?_⟩;refine rsa (Qad rfl rfl rfl rfl ⋯) ?_;generalize (k:Int) % m=at' at a1 a2;obtain⟨x,hx⟩:∃x,ns[k]? =some x:=⟨_,ZaU hkn⟩;refine rsa (Q9 (Q9 (Q8 (QmP rfl rfl rfl rfl a1 a2) rfl rfl rfl (QcP (by decide))) rfl (Q8 (QjL rfl rfl rfl rfl ⋯ (by rw[ZQ];exact hx)) rfl rfl rfl (QcP ⋯)) rfl) rfl rfl rfl) ?_;refine run_seq (Qlh rfl rfl rfl (Qad rfl rfl (efar rfl) rfl ⋯) rfl a1 a2 (Qj ?_));exact⟨_,_,_,_,rfl⟩
  ·rintro U ⟨g,j4,j6,j7,rfl⟩;refine Qy (QE (List.range m) (Q2 rfl rfl) rfl λj _=>⟨[none,slI (g j),slI far],rfl,reI (g j % (2*far+1)-far),Qf4 (Qad rfl rfl (efar rfl) rfl ⋯) rfl rfl rfl,rfl,rfl⟩) ⟨rfl,_,rfl,λj _=>?_⟩;have:=ZD (g j) (by omega:2*far+1≠0);have:=ZA (g j) (by omega:0<2*far+1);omega
 obtain⟨o,h1,h2⟩:=key;cases o with
 | rt d fr=>
  obtain⟨rfl,g,rfl,hg⟩:=h2;exact⟨g,by show Option.bind (QeC [slF (.lst (ns.map .int)),slI m,slI far,slI by',none,none,none,none]) outD=_;rw[h1];rfl,hg⟩
 | _=>exact h2.elim
noncomputable def QfC(Qas:Den)(Qbe:Den):DS:=(Qd (Qa8 (Qf 2 Qas [] (Qa vv0 (Qa (QX (Qa vv1 (Qa vv2 Qc))) Qc)))) (Qd (QC (Qm (Qf 2 Qbe [] (Qa vv0 (Qa (QG (Qaq vv1 vv2) (.tp [1,2]) [none,none,none] QO (QL vv1 vv2)) Qc))) kk0)) Qh))
def QpD(d:Den):Prop:=∀(m:Nat) (R L:Lpp) (a b:Mt1),0<m->m<=8->Qbi m R L->(∀j,j<m->0<=a j/\a j<=2^100)->(∀j,j<m->0<=b j/\b j<=2^100)->∃c,d [Qz m R L,Qb m a,Qb m b]=some (Qb m (QD m (Qw m (Qt R L)) (λj=>a j+b j) c),true)/\Told m (Qw m (Qt R L)) (λj=>a j+b j) c
theorem Qhy(h:fa U=some r)(e:r.d= .tup [a,b]):Qm fa (dC (.int 0)) U=some (HS.R.norm ⟨a,r.fr,r.M⟩)/\Qm fa (dC (.int 1)) U=some (HS.R.norm ⟨b,r.fr,r.M⟩):=by
 unfold Qm;rw[h];simp only[Za,e,Qcc];exact⟨rfl,rfl⟩
theorem QyA(hn:Qj5 dn)(hs:Qj3 ds):QpD (Qu 3 (QfC dn ds)):=λm R L a b m0 m8 hw ha hb=>by
 obtain⟨c,ec,tc⟩:=hs m R L (λj=>a j+b j) m0 ⋯ hw λj hj=>by
  have h1:=ha j hj;have h2:=hb j hj;have:(2:Int)^100+2^100<2^200:=by decide
  show 0<=a j+b j/\a j+b j<2^200;omega
 refine⟨c,QN ?_,tc⟩;refine run_seq (Qcz (Qi rfl (hn m R L [a,b] m0 λf hf j hj=>?_) rfl) ?_)
 ·rcases Zi.mp hf with rfl | hf
  ·exact(ha j hj).1
  ·rw[ZE.mp hf];exact(hb j hj).1
 refine Qy (Qhy (Qi (Qn rfl (Qn (QE (List.range m) (Qa5 rfl rfl rfl rfl) rfl λj _=>⟨[none,slI (a j),slI (b j)],rfl,reI (a j+b j),rfl,rfl,rfl⟩) (QP _))) ec rfl) rfl).1 ⟨rfl,rfl⟩
structure QAC (m:Nat) (T:Mt2) (f k:Mt1):Prop where
 ex:∃v,Dbl m T v/\Rec m T v (QD m T f k)
 stb:Stb m T (QD m T f k)
 nn:∀j,j<m->0<=QD m T f k j
noncomputable def Qh9(QaK:Den)(Qac:Den):DS:=(Qd (QC (Qm (Qf 2 Qac [] (Qa vv0 (Qa (Qf 1 QaK [] (Qa vv1 Qc)) Qc))) kk0)) Qh)
theorem Qli{n:Nat}(ha:fa U=some ra)(ea:ra.d=Qb m f)(hb:fb U=some rb)(eb:rb.d= .int n)(h:n<=m):Qdp fa (Qcf fb) Qch U=some (reT (Qb (m-n) λi=>f (n+i))):=by
 have cut:cutD ((List.range m).map λi=>D.int (f i)) (some (n:Int)) none=(List.range (m-n)).map λi=>D.int (f (n+i)):=by
  unfold cutD;simp only[Zq,ZC,HT.Qo7,HT.QrJ];rw[Zcg h,← List.map_drop,← List.map_take];have e:((List.range m).drop n).take (m-n)=(List.range (m-n)).map λi=>n+i:=by
   rw[Zbr (by simp)];refine ZaT λi=>?_;rw[List.getElem?_drop,Zs];by_cases hi:i<m-n
   ·rw[ZK ⋯,ZK hi];rfl
   ·rw[Zu (by simp;omega),Zu (by simp;omega)];rfl
  rw[e,Zaw];rfl
 unfold Qdp Qch Qcf;simp only[ha,hb,Za,ea,eb,Qb,cut,Qbv];have:Qam ((List.range (m-n)).map λi=>D.int (f (n+i)))=true:=by
  have:=QsP ((List.range (m-n)).map λi=>f (n+i));rw[Zaw]at this;exact this
 rw[if_pos this]
noncomputable def Qm1(Qac:Den):DS:=(Qd (QC (Qm (Qf 2 Qac [] (Qa vv0 (Qa (QG (QW vv1) (.nm 1) [none,none,some 2] QO (QY vv2 vv1)) Qc))) kk0)) Qh)
def QnC(d:Den):Prop:=∀(m:Nat) (R L:Lpp) (f:Mt1) (c:Int),0<m->m<=8->Qbi m R L->(∀j,j<m->(f j).natAbs<=10^18)->c.natAbs<=2^100->∃k,d [Qz m R L,Qb m f,.int c]=some (Qb m (QD m (Qw m (Qt R L)) (λj=>c*f j) k),true)/\QAC m (Qw m (Qt R L)) (λj=>c*f j) k
theorem Qvl(ha:QhH da):QnC (Qu 3 (Qm1 da)):=λm R L f c m0 m8 hw hf hc=>by
 obtain⟨k,v,ek,h1,h2,h3,h4⟩:=ha m R L (λj=>c*f j) m0 m8 hw λj hj=>by
  show(c*f j).natAbs<=_;rw[Zak];exact Zo (ZaW hc (hf j hj)) (by decide)
 refine⟨k,QN ?_,⟨⟨v,h1,h2⟩,h3,h4⟩⟩;exact Qy (Qhy (Qi (Qn rfl (Qn (QE (List.range m) (Q2 rfl rfl) rfl λj hj=>⟨[none,slI (f j),slI c],rfl,reI (c*f j),Q8 rfl rfl rfl rfl (QcP (ZV (hf j (Zg.mp hj)) (by decide))),rfl,rfl⟩) (QP _))) ek rfl) rfl).1 ⟨rfl,rfl⟩
def QiR(d:Den):Prop:=∀(m:Nat) (R L:Lpp) (f:Mt1),0<m->m<=8->Qbi m R L->(∀j,j<m->(f j).natAbs<=10^18)->∃k,d [Qz m R L,Qb m f]=some (Qb m (QD m (Qw m (Qt R L)) (λj=>0-f j) k),true)/\QAC m (Qw m (Qt R L)) (λj=>0-f j) k
theorem QsB(ho:Qj6 dop)(ha:QhH da):QiR (Qu 2 (Qh9 dop da)):=λm R L f m0 m8 hw hf=>by
 obtain⟨k,v,ek,h1,h2,h3,h4⟩:=ha m R L (λj=>0-f j) m0 m8 hw λj hj=>by
  have:=hf j hj;have:(10:Nat)^18<=2^200:=by decide
  show(0-f j).natAbs<=_;omega
 refine⟨k,QN ?_,⟨⟨v,h1,h2⟩,h3,h4⟩⟩;exact Qy (Qhy (Qi (Qn rfl (Qn (Qi (r:=⟨[Qb m f],false,[]⟩) rfl (ho m f) rfl) (QP _))) ek rfl) rfl).1 ⟨rfl,rfl⟩
theorem Qkb(hA:∀j,j<n->∀r,r<n->(A j r).natAbs<=2^200)(hl:Qjy n A):det n A≠0:=by
 obtain⟨m,R,d,C⟩:=Qpb (Zj n) hA hl n (Zj n);have e2:det n A=d:=by
  rw[← C.clr.det];exact Q1 λj hj r _=>by rw[C.clr.own j hj]
 rw[e2];exact C.clr.nz
theorem Qbi.small{m:Nat}{R L:Lpp}(hw:Qbi m R L){i j:Nat}(hi:i<m)(hj:j<m):(Qw m (Qt R L) i j).natAbs<=600:=by
 have g:=hw.good;have gs:=Qdc g.1 g.2.1;rw[QdG hi hj λs hs=>⟨(gs s hs).1,(gs s hs).2.1⟩];refine Zo (QeT i j _) ?_;unfold Qt;rw[Zy,Zy,Zq];omega
noncomputable def QdQ(T:Mt2):Nat->Nat->Int:=λi j=>0-T i j
theorem Qbi.big{m:Nat}{R L:Lpp}(hw:Qbi m R L):∀j,j<m->∀r,r<m->(QdQ (Qw m (Qt R L)) j r).natAbs<=2^200:=λj hj r hr=>by
 have:=hw.small hj hr;have:(600:Nat)<=2^200:=by decide
 unfold QdQ;omega
theorem Quh(hA:∀j,j<n->∀r,r<n->(A j r).natAbs<=2^200)(hl:Qjy n A):Qjy n λj i=>A i j:=λk hk c h=>by
 have nz:det (k+1) A≠0:=Qkb (λj hj r hr=>hA j ⋯ r ⋯) λk' hk'=>hl k' ⋯;have cr:=λr (hr:r<k+1)=>Qme A (λr=>if r=k then(1:Int)else 0) hr;have e1:Qq (k+1) (λr=>(if r=k then det (k+1) A else 0)*c r)=det (k+1) A*c k:=QaI ⋯ (det (k+1) A) c;have e2:Qq (k+1) (λr=>(if r=k then det (k+1) A else 0)*c r)=Qq (k+1) λr=>Qq (k+1) λl=>det (k+1) (cup A l λr=>if r=k then 1 else 0)*(c r*A l r):=Qp λr hr=>by
  have q:=cr r hr;rw[Qcu]at q;have:(if r=k then det (k+1) A else 0)=det (k+1) A*(if r=k then 1 else 0):=by split<;>simp
  rw[this,q,ZP,← QU];exact Qp λl _=>by rw[← Zx,ZP (c r),Zx]
 rw[QdX]at e2;have e3:(Qq (k+1) λl=>Qq (k+1) λr=>det (k+1) (cup A l λr=>if r=k then 1 else 0)*(c r*A l r))=0:=by
  rw[Qp λl hl'=>?_,QaS];rw[QU];have z:=h l ⋯;rw[Qcu]at z;rw[z,ZJ]
 rw[e1,e3]at e2;rcases Int.mul_eq_zero.mp e2 with z | z
 ·exact absurd z nz
 ·exact z
noncomputable def QrN:DS:=(Qd (QC (QG (Qa7 vv0) (.nm 1) [none,none,some 1] QO (dIf (QF (dOp gEq vv1 vv2)) kk1 kk0))) Qh)
def Qjr(d:Den):Prop:=∀(n p:Nat),n<=1000->d [.int n,.int p]=some (Qb n λi=>if i=p then 1 else 0,true)
theorem QxE:Qjr (Qu 2 QrN):=λn p hn=>by
 refine QN (Qy (QE (List.range n) (Qbl rfl rfl ⋯) rfl λi _=>⟨[none,slI i,slI p],rfl,reI (if i=p then 1 else 0),?_,rfl,rfl⟩) ⟨rfl,rfl⟩);unfold dIf;rw[QQ (Qbu rfl rfl rfl rfl) rfl,Za];by_cases z:i=p
 ·rw[if_pos z,if_pos (by rw[z];simp)];rfl
 ·rw[if_neg z,if_neg (by simp;omega)];rfl
inductive QvU (m:Nat) (T:Mt2) (a b:Mt1):D->Prop where
 | alike {k:Mt1}:(∀r,r<m->b r=QD m T a k r)->QvU m T a b (.tup [.str "alike",Qb m k])
 | apart {w:Mt1}{q:Int}:0<q->(∀r,r<m->(w r).natAbs<2^2000)->(∀l,l<m->q∣Qq m λr=>w r*T l r)->¬q∣(Qq m λr=>w r*(b r-a r))->QvU m T a b (.tup [.str "apart",Qb m w,.int q])
noncomputable def Qc7(QK:Den)(Q6:Den)(Qaj:Den)(Q5:Den)(Qa0:Den):DS:=(Qd (Qa8 (Qf 2 QK [] (Qa vv0 (Qa (QX (Qa vv1 (Qa vv2 Qc))) Qc)))) (Qd (Qo 3 (Qf 1 Q6 [] (Qa vv0 Qc))) (Qd (Qo 4 (Qf 2 Qaj [] (Qa vv3 (Qa (QG (Qaq vv1 vv2) (.tp [1,2]) [none,none,none] QO (dOp QaL vv1 vv2)) Qc)))) (Qd (sIf (QF (dOp gEq (Qm vv4 kk1) kk1)) (Qd (QC (Qar (Qa (dC (.str "alike")) (Qa (Qm vv4 kk0) Qc)))) Qh) Qh) (Qd (Qo 5 (QG (Qb9 (Qm vv4 kk0)) (.tp [1,2]) [none,none,none,some 4] (QF (dOp gNe (dOp Q3 vv2 (Qm vv3 kk1)) kk0)) vv1)) (Qd (Qo 6 (Qf 2 Qaj [] (Qa (Qf 1 Q5 [] (Qa vv3 Qc)) (Qa (Qf 2 Qa0 [] (Qa (Qm vv0 kk0) (Qa (Qm vv5 kk0) Qc))) Qc)))) (Qd (QC (Qar (Qa (dC (.str "apart")) (Qa (Qm vv6 kk0) (Qa (Qm vv6 kk1) Qc))))) Qh)))))))
def QmD(d:Den):Prop:=∀(m:Nat) (R L:Lpp) (a b:Mt1),0<m->m<=8->Qbi m R L->(∀j,j<m->(a j).natAbs<=2^190)->(∀j,j<m->(b j).natAbs<=2^190)->∃s,d [Qz m R L,Qb m a,Qb m b]=some (s,true)/\QvU m (Qw m (Qt R L)) a b s
set_option maxHeartbeats 0 in
theorem Qw5(hn:Qe8 dn)(ht:QfZ dt)(hs:Qlb ds)(hr:QcX dr)(hu:Qjr du):QmD (Qu 7 (Qc7 dn dt ds dr du)):=λm R L a b m0 m8 hw ha hb=>by
 have gd:=hw.good;have tp:=hw.tp;have et:=ht m R L ⋯ ⋯ gd.1 gd.2.1;have big:=hw.big;obtain⟨t,q,es,q0,_,hq,tb,lo⟩:=hs m (QdQ (Qw m (Qt R L))) (λr=>a r-b r) m8 (λj r hj hr=>big j hj r hr) (λr hr=>by
  have h1:=ha r hr;have h2:=hb r hr;have:(2:Nat)^190+2^190<=2^200:=by decide
  show(a r-b r).natAbs<=_;omega) (QhB tp)
 have neg:∀(u:Mt1) r,(sm m λl=>u l*QdQ (Qw m (Qt R L)) l r)= -Qq m λl=>u l*Qw m (Qt R L) l r:=λu r=>by
  rw[Qcu,← Qez];exact Qp λi _=>by unfold QdQ;rw[Zan,Zaq]
 have start:∀Q:D->Bool->Prop,Run (Qd (sIf (QF (dOp gEq (Qm (Ql 4) (dC (.int 1))) (dC (.int 1)))) (Qd (QC (Qar (Qa (dC (.str "alike")) (Qa (Qm (Ql 4) (dC (.int 0))) Qc)))) Qh) Qh) (Qd (Qo 5 (QG (Qb9 (Qm (Ql 4) (dC (.int 0)))) (.tp [1,2]) [none,none,none,some 4] (QF (dOp gNe (dOp Q3 (Ql 2) (Qm (Ql 3) (dC (.int 1)))) (dC (.int 0)))) (Ql 1))) (Qd (Qo 6 (Qf 2 ds [] (Qa (Qf 1 dr [] (Qa (Ql 3) Qc)) (Qa (Qf 2 du [] (Qa (Qm (Ql 0) (dC (.int 0))) (Qa (Qm (Ql 5) (dC (.int 0))) Qc))) Qc)))) (Qd (QC (Qar (Qa (dC (.str "apart")) (Qa (Qm (Ql 6) (dC (.int 0))) (Qa (Qm (Ql 6) (dC (.int 1))) Qc))))) Qh)))) [slF (Qz m R L),slF (Qb m a),slF (Qb m b),slT (Qe m m (QdQ (Qw m (Qt R L)))),slT (.tup [Qb m t,.int q]),none,none] (Rt Q)->Run (Qc7 dn dt ds dr du) (QaU 7 [Qz m R L,Qb m a,Qb m b]) (Rt Q):=λQ h=>by
  refine run_seq (Qcz (Qi (r:=⟨[Qz m R L,.lst [Qb m a,Qb m b]],false,[]⟩) rfl (hn m R L [a,b]) rfl) ?_);refine rsa (Qi (r:=⟨[Qz m R L],false,[]⟩) rfl et rfl) ?_;refine rsa (Qi (Qn (r:=⟨Qe m m (QdQ (Qw m (Qt R L))),true,[3]⟩) rfl (Qn (QE (toD:=λ(j:Nat)=> .tup [.int (a j),.int (b j)]) (out:=λ(j:Nat)=> .int (a j-b j)) (List.range m) (Qa5 (f:=λj=> .int (a j)) (g:=λj=> .int (b j)) (ra:=reF (Qb m a)) rfl rfl (rb:=reF (Qb m b)) rfl rfl) rfl λj _=>⟨[none,slI (a j),slI (b j)],rfl,reI (a j-b j),rfl,rfl,rfl⟩) (QP _))) es rfl) ?_;exact h
 by_cases one:q=1
 ·subst one;refine⟨_,QN (start _ ?_),.alike (k:=t) λr hr=>?_⟩
  ·refine Qv (QB (b:=true) (QQ (b:=true) (Qbu (a:=1) (b:=1) (ra:=reI 1) (rb:=reI 1) rfl rfl rfl rfl) rfl) (λ_=>?_) (λh=>by cases h));exact Qv (Qa6 (r:=⟨.tup [.str "alike",Qb m t],true,[4]⟩) rfl ⟨rfl,rfl⟩)
  ·have:=hq r hr;rw[neg,ZT]at this;have e:QD m (Qw m (Qt R L)) a t r=a r+Qq m λl=>t l*Qw m (Qt R L) l r:=rfl;omega
 ·obtain⟨l0,hl0,nl0⟩:=lo one
  have ec:=QfG (fi:=Qb9 (Qm (Ql 4) (dC (.int 0)))) (t:= .tp [1,2]) (cap:=[none,none,none,some 4]) (ft:=QF (dOp gNe (dOp Q3 (Ql 2) (Qm (Ql 3) (dC (.int 1)))) (dC (.int 0)))) (fe:=Ql 1) (U:=[slF (Qz m R L),slF (Qb m a),slF (Qb m b),slT (Qe m m (QdQ (Qw m (Qt R L)))),slT (.tup [Qb m t,.int q]),none,none])
   (List.range m) (ir:=⟨(List.range m).map λ(i:Nat)=> .tup [.int (i:Int),.int (t i)],[4]⟩) (by
    unfold Qb9;refine(congrArg (λz=>Option.bind z _) (Qhy rfl rfl).1).trans ?_;show some (IR.mk (Qdg _) _)=_;rw[Qh5 (α:=Int) m λi=> .int (t i)];rfl) rfl λi hi=>⟨[none,slI i,slI (t i),slF (.tup [Qb m t,.int q])],rfl,QQ (Qc4 (Qad rfl rfl (Qhy rfl rfl).2 rfl q0) rfl rfl rfl) rfl,λ_=>⟨(reI i),rfl,rfl,rfl⟩⟩
  obtain⟨p,tl,ep⟩:∃p tl,(List.range m).filter (λi=> !decide (t i % q=0))=p::tl:=by
   cases e:(List.range m).filter (λi=> !decide (t i % q=0))with
   | cons p tl=>exact⟨p,tl,rfl⟩
   | nil=>
    have:l0∈(List.range m).filter λi=> !decide (t i % q=0):=ZaB.mpr ⟨Zg.mpr hl0,by
     have:¬t l0 % q=0:=λz=>nl0 (Int.dvd_of_emod_eq_zero z);simp[this]⟩
    rw[e]at this;simp at this
  have hp:p<m/\¬t p % q=0:=by
   have:p∈(List.range m).filter λi=> !decide (t i % q=0):=by rw[ep];simp
   obtain⟨h1,h2⟩:=ZaB.mp this;exact⟨Zg.mp h1,by simpa using h2⟩
  rw[ep]at ec;obtain⟨w,x,ew,x0,_,hx,wb,_⟩:=hs m (λj i=>QdQ (Qw m (Qt R L)) i j) (λi=>if i=p then 1 else 0) m8 (λj r hj hr=>big r hr j hj) (λr _=>by show(if r=p then(1:Int)else 0).natAbs<=_;split<;>decide) (Quh big (QhB tp));have wT:∀l,l<m->(Qq m λr=>w r*Qw m (Qt R L) l r)= -(x*if l=p then 1 else 0):=λl hl=>by
   have:=hx l hl;rw[Qcu]at this;rw[this,← Qez];exact Qp λi _=>by unfold QdQ;rw[Zan,Zaq,ZbC]
  refine⟨_,QN (start _ ?_),.apart x0 wb (λl hl=>?_) λ⟨y,hy⟩=>?_⟩
  ·refine Qv (QB (QQ ((Qbu rfl rfl rfl rfl).trans (by rw[decide_eq_false one])) rfl) (λh=>by cases h) (λ_=>Qj ?_));refine rsa ec ?_;refine rsa (Qi (Qn (Qi rfl (hr m _ ⋯) rfl) (Qn (Qi (Qn rfl (Qn (QjL (QcK rfl) (QuK _) (Qcc _ _) rfl (by decide) rfl) (QP _))) (hu m p ⋯) rfl) (QP _))) ew rfl) ?_;exact Qy rfl ⟨rfl,rfl⟩
  ·rw[wT l hl];exact⟨-(if l=p then 1 else 0),by rw[Zaq]⟩
  ·
   have e:q*(Qq m λr=>w r*(b r-a r))= -(t p*x):=by
    rw[← QU];have h1:(Qq m λr=>q*(w r*(b r-a r)))=Qq m λr=>Qq m λl=>t l*(w r*Qw m (Qt R L) l r):=Qp λr hr=>by
     have z:=hq r hr;rw[neg]at z;have:q*(w r*(b r-a r))=w r* -(q*(a r-b r)):=by
      rw[← Zaq,show-(a r-b r)=b r-a r by omega,← Zx,← Zx,ZP q]
     rw[this,z,ZbC,← QU];exact Qp λl _=>by rw[← Zx,ZP (w r),Zx]
    rw[h1,QdX,Qp (g:=λl=>(if l=p then-(t p*x)else 0)*1) λl hl=>?_,QaI hp.1,Zae];rw[QU,wT l hl];by_cases z:l=p
    ·rw[if_pos z,if_pos z,z,Zae,Zae,Zaq]
    ·rw[if_neg z,if_neg z,ZJ,Int.neg_zero,ZJ,ZG]
   rw[hy,← Zx,ZP q x,Zx,ZP (t p) x,← Zaq]at e;have:=Zaa ⋯ e;exact hp.2 (Int.emod_eq_zero_of_dvd ⟨-y,by rw[Zaq];omega⟩)
structure Alt (n:Nat) (φ:(Nat->Nat->Int)->Int):Prop where
 congr:∀{m k:Mt2},(∀j,j<n->∀r,r<n->m j r=k j r)->φ m=φ k
 lin:∀(m:Mt2) (c:Nat),c<n->∀(x y:Int) (a b:Mt1),φ (cup m c λr=>x*a r+y*b r)=x*φ (cup m c a)+y*φ (cup m c b)
 alt:∀{m:Mt2}{i j:Nat},i<n->j<n->i≠j->m i=m j->φ m=0
section
theorem Alt.add(h:Alt n φ)(hc:c<n)(a b:Mt1):φ (cup m c λr=>a r+b r)=φ (cup m c a)+φ (cup m c b):=by
 have:=h.lin m c hc 1 1 a b;simpa only[ZT]using this
theorem Alt.mul(h:Alt n φ)(hc:c<n)(x:Int)(a:Mt1):φ (cup m c λr=>x*a r)=x*φ (cup m c a):=by
 have:=h.lin m c hc x 0 a a;simpa only[ZG,Int.add_zero]using this
theorem Alt.swap(h:Alt n φ)(hc:c<n)(hd:d<n)(hcd:c≠d)(a b:Mt1):φ (cup (cup m c a) d b)= -φ (cup (cup m c b) d a):=by
 have z:=h.alt (m:=cup (cup m c λr=>a r+b r) d λr=>a r+b r) hc hd hcd (by rw[QJ,QH _ _ hcd,QJ]);have za:=h.alt (m:=cup (cup m c a) d a) hc hd hcd (by rw[QJ,QH _ _ hcd,QJ]);have zb:=h.alt (m:=cup (cup m c b) d b) hc hd hcd (by rw[QJ,QH _ _ hcd,QJ]);rw[h.add hd,Qai _ _ _ hcd,h.add hc,Qai _ _ _ hcd,h.add hc,Qai _ _ _ (Ne.symm hcd),Qai _ _ _ (Ne.symm hcd),Qai _ _ _ (Ne.symm hcd),Qai _ _ _ (Ne.symm hcd),za,zb]at z;omega
theorem Alt.sum(h:Alt n φ)(hc:c<n)(x:Mt1)(E:Mt2):∀k,φ (cup m c λr=>sm k λs=>x s*E s r)=sm k λs=>x s*φ (cup m c (E s))
 | 0=>by
  have:=h.mul (m:=m) hc 0 λ_=>0;rw[ZG]at this;unfold sm;simpa using this
 | k+1=>by
  unfold sm;rw[h.add hc,h.sum hc x E k,h.mul hc]
theorem Qq5(n:Nat):Alt n (det n):=⟨Q1,λm c hc x y a b=>Qhq x y a b n m c hc a b,λhi hj hij e=>Qff hi hj hij e⟩
theorem Qlf(h:Alt n φ):∀(g t:Nat) (σ:Nat->Nat),t+g=n->(∀j,j<t->σ j=j)->(∀j,j<n->σ j<n)->φ (λj=>QI (σ j))=det n (λj=>QI (σ j))*φ QI
 | 0,t,σ,e,hp,hn=>by
  have h1:∀j,j<n->∀r,r<n->QI (σ j) r=QI j r:=λj hj r _=>by rw[hp j ⋯]
  rw[h.congr h1,Q1 h1,QeI,ZT]
 | g+1,t,σ,e,hp,hn=>by
  by_cases ht:σ t=t
  ·exact Qlf h g (t+1) σ ⋯ (λj hj=>by
    by_cases z:j=t
    ·rw[z];exact ht
    ·exact hp j ⋯) hn
  ·by_cases ex:∃i,i<n/\σ i=t
   ·obtain⟨i,hi,hs⟩:=ex;have hti:t<i:=by
     rcases Nat.lt_trichotomy i t with z | z | z
     ·have:=hp i z;omega
     ·subst z;exact absurd hs ht
     ·exact z
    have hne:t≠i:= ⋯
    have sw:∀{ψ:(Nat->Nat->Int)->Int},Alt n ψ->ψ (λj=>QI (σ j))= -ψ (λj=>QI (if j=t then σ i else if j=i then σ t else σ j)):=λ{ψ} hψ=>by
     have:=hψ.swap (m:=λj=>QI (σ j)) ⋯ hi hne (QI (σ t)) (QI (σ i));have e1:cup (cup (λj=>QI (σ j)) t (QI (σ t))) i (QI (σ i))=λj=>QI (σ j):=by
      rw[Qak (λj=>QI (σ j)) t,Qak (λj=>QI (σ j)) i]
     have e2:cup (cup (λj=>QI (σ j)) t (QI (σ i))) i (QI (σ t))=λj=>QI (if j=t then σ i else if j=i then σ t else σ j):=by
      funext j;by_cases z1:j=i
      ·subst z1;rw[QJ,if_neg (Ne.symm hne),if_pos rfl]
      ·rw[QH _ _ z1];by_cases z2:j=t
       ·subst z2;rw[QJ,if_pos rfl]
       ·rw[QH _ _ z2,if_neg z2,if_neg z1]
     rw[e1,e2]at this;exact this
    rw[sw h,sw (Qq5 n),Zau];congr 1;refine Qlf h g (t+1) _ ⋯ (λj hj=>?_) (λj hj=>?_)
    ·by_cases z:j=t
     ·rw[if_pos z,hs,z]
     ·rw[if_neg z,if_neg ⋯];exact hp j ⋯
    ·split
     ·exact hn i hi
     ·split
      ·exact hn t ⋯
      ·exact hn j hj
   ·obtain⟨k,hk⟩:∃k,n=k+1:=⟨n-1,⋯⟩;obtain⟨i,j,hi,hj,hij,he⟩:=QoL (n:=k) (λj=>if σ j<t then σ j else σ j-1) λj hj=>by
     have h1:=hn j ⋯;have h2:σ j≠t:=λz=>ex ⟨j,⋯,z⟩;split<;>omega
    have hs:σ i=σ j:=by
     have h1:σ i≠t:=λz=>ex ⟨i,⋯,z⟩;have h2:σ j≠t:=λz=>ex ⟨j,⋯,z⟩;split at he<;>split at he<;>omega
    have e1:(λj=>QI (σ j)) i=(λj=>QI (σ j)) j:=by show QI (σ i)=QI (σ j);rw[hs]
    rw[h.alt ⋯ ⋯ hij e1,(Qq5 n).alt ⋯ ⋯ hij e1,ZG]
theorem Qml(h:Alt n φ)(m:Mt2):φ m=det n m*φ QI:=by
 have key:∀k,k<=n->∀m:Nat->Nat->Int,(∃σ:Nat->Nat,∀j,k<=j->j<n->σ j<n/\m j=QI (σ j))->φ m=det n m*φ QI:=by
  intro k
  induction k with
  | zero=>
   rintro _ m ⟨σ,hσ⟩;have h1:∀j,j<n->∀r,r<n->m j r=(λj=>QI (σ j)) j r:=λj hj r _=>by rw[(hσ j ⋯ hj).2]
   rw[h.congr h1,Q1 h1];exact Qlf h n 0 σ ⋯ (λj hj=> ⋯) λj hj=>(hσ j ⋯ hj).1
  | succ k ih=>
   rintro hk m ⟨σ,hσ⟩;have hcol:∀j,j<n->∀r,r<n->m j r=cup m k (λr=>sm n λs=>m k s*QI s r) j r:=λj hj r hr=>by
    by_cases z:j=k
    ·subst z;rw[QJ,Qds hr λi _ ne=>by rw[show QI i r=0 by unfold QI;rw[if_neg ne],ZJ],show QI r r=1 by unfold QI;rw[if_pos rfl],Zae]
    ·rw[QH _ _ z]
   rw[h.congr hcol,Q1 hcol,h.sum ⋯,Qd0 ⋯,← Qnd];refine QbB λs hs=>?_;rw[Zx];congr 1;refine ih ⋯ _ ⟨λj=>if j=k then s else σ j,λj h1 h2=>?_⟩;show(if j=k then s else σ j)<n/\cup m k (QI s) j=QI (if j=k then s else σ j);by_cases z:j=k
   ·subst z;rw[if_pos rfl,QJ];exact⟨hs,rfl⟩
   ·rw[if_neg z,QH _ _ z];exact hσ j ⋯ h2
 exact key n (Zj n) m ⟨id,λj h1 h2=> ⋯⟩
end
noncomputable def rup(m:Mt2)(c:Nat)(a:Mt1):Nat->Nat->Int:=λj r=>if r=c then a j else m j r
theorem Qrz(x y:Int):∀(n:Nat) (m:Mt2) (c:Nat),c<n->∀(a b:Mt1),det n (rup m c λj=>x*a j+y*b j)=x*det n (rup m c a)+y*det n (rup m c b)
 | 0,_,_,h,_,_=> ⋯
 | n+1,m,c,h,a,b=>by
  unfold det;rw[← Qju];refine QbB λj hj=>?_;cases c with
  | zero=>
   have e:∀a:Nat->Int,(λc' r=>rup m 0 a (skp j c') (r+1))=λc' r=>m (skp j c') (r+1):=λa=>by
    funext c' r;unfold rup;rw[if_neg ⋯]
   rw[e,e,e];unfold rup;simp only[if_pos];generalize det n _=q;generalize sgn j=s;simp only[Zay,Zac,Zx,ZN]
  | succ c=>
   have e:∀a:Nat->Int,(λc' r=>rup m (c+1) a (skp j c') (r+1))=rup (λc' r=>m (skp j c') (r+1)) c λc'=>a (skp j c'):=λa=>by
    funext c' r;unfold rup;by_cases z:r=c
    ·rw[if_pos ⋯,if_pos z]
    ·rw[if_neg ⋯,if_neg z]
   rw[e,e,e,Qrz x y n _ c ⋯ (λc'=>a (skp j c')) λc'=>b (skp j c')];have e0:∀a:Nat->Int,rup m (c+1) a j 0=m j 0:=λa=>by unfold rup;rw[if_neg ⋯]
   rw[e0,e0,e0];generalize det n _=q;generalize det n _=q';generalize sgn j*m j 0=s;simp only[Zay,ZN]
noncomputable def trp(a b r:Nat):Nat:=if r=a then b else if r=b then a else r
theorem QwG(m:Mt2)(ha:a<n)(hb:b<n)(hab:a≠b):det n (λj r=>m j (trp a b r))= -det n m:=by
 have tb:∀r,r<n->trp a b r<n:=λr hr=>by
  unfold trp;split
  ·exact hb
  ·split
   ·exact ha
   ·exact hr
 have h:Alt n λm=>det n λj r=>m j (trp a b r):=by
  have hcup:∀(m:Mt2) (c:Nat) (v:Mt1),(λj r=>cup m c v j (trp a b r))=cup (λj r=>m j (trp a b r)) c λr=>v (trp a b r):=λm c v=>by
   funext j r;by_cases z:j=c
   ·subst z;rw[QJ,QJ]
   ·rw[QH _ _ z,QH _ _ z]
  refine⟨λhm=>Q1 λj hj r hr=>hm j hj _ (tb r hr),λm c hc x y v w=>?_,λ{m i j} hi hj hij e=>Qff hi hj hij (by funext r;rw[e])⟩;rw[hcup,hcup,hcup,← Qhq x y (λr=>v (trp a b r)) (λr=>w (trp a b r)) n _ c hc]
 have e:=Qml h m;rw[e];have u:det n (λj r=>QI j (trp a b r))= -1:=by
  have e1:=QdL (m:=QI) ha hb hab (QI b) (QI a);rw[show cup (cup QI a (QI a)) b (QI b)=QI by rw[Qak,Qak],QeI]at e1;rw[← e1];refine Q1 λj hj r hr=>?_;by_cases z1:j=b
  ·subst z1;rw[QJ];unfold QI trp;by_cases q1:r=a
   ·rw[if_pos q1,if_pos rfl,if_pos q1.symm]
   ·rw[if_neg q1];by_cases q2:r=j
    ·rw[if_pos q2,if_neg (Ne.symm hab),if_neg ⋯]
    ·rw[if_neg q2,if_neg (λz=>q2 z.symm),if_neg (λz=>q1 z.symm)]
  ·rw[QH _ _ z1];by_cases z2:j=a
   ·subst z2;rw[QJ];unfold QI trp;by_cases q1:r=j
    ·rw[if_pos q1,if_neg hab,if_neg ⋯]
    ·rw[if_neg q1];by_cases q2:r=b
     ·rw[if_pos q2,if_pos rfl,if_pos q2.symm]
     ·rw[if_neg q2,if_neg (λz=>q1 z.symm),if_neg (λz=>q2 z.symm)]
   ·rw[QH _ _ z2];unfold QI trp;by_cases q1:r=a
    ·rw[if_pos q1,if_neg z1,if_neg ⋯]
    ·rw[if_neg q1];by_cases q2:r=b
     ·rw[if_pos q2,if_neg z2,if_neg ⋯]
     ·rw[if_neg q2]
 rw[u];omega
theorem QAI(ha:a<n)(hb:b<n)(hab:a≠b)(e:∀j,j<n->m j a=m j b):det n m=0:=by
 have h:=QwG m ha hb hab;have:det n (λj r=>m j (trp a b r))=det n m:=Q1 λj hj r hr=>by
  unfold trp;split
  ·rename_i z;rw[z];exact(e j hj).symm
  ·split
   ·rename_i z;rw[z];exact e j hj
   ·rfl
 omega
theorem Qwl(n:Nat)(m:Mt2):det n (λj r=>m r j)=det n m:=by
 have h:Alt n λm=>det n λj r=>m r j:=by
  have hcup:∀(m:Mt2) (c:Nat) (v:Mt1),(λj r=>cup m c v r j)=rup (λj r=>m r j) c v:=λm c v=>by
   funext j r;unfold rup;by_cases z:r=c
   ·subst z;rw[QJ,if_pos rfl]
   ·rw[QH _ _ z,if_neg z]
  refine⟨λhm=>Q1 λj hj r hr=>hm r hr j hj,λm c hc x y v w=>?_,λ{m i j} hi hj hij e=>QAI hi hj hij λk _=>by rw[e]⟩;rw[hcup,hcup,hcup,Qrz x y n _ c hc v w]
 have e:=Qml h m;rw[e,Q1 (m:=λj r=>QI r j) (k:=QI) λj _ r _=>by
  unfold QI;by_cases z:r=j
  ·rw[if_pos z,if_pos z.symm]
  ·rw[if_neg z,if_neg (Ne.symm z)],QeI,Zae]
theorem QBO(h:g1 U=some true):bOr g1 g2 U=some true:=by unfold bOr;rw[h];rfl
noncomputable def Qda(f:Mt2)(k:Nat)(p:Mt1)(i:Nat)(q:Mt1):Nat->Nat->Int:=λl j=>if l=i then q j else if l=k then p j else f l j
theorem QeJ{n N k:Nat}{g:Mt2}{p:Mt1}(hk:k<n):((List.range n).map λi=>Qb N (g i)).set k (Qb N p)=(List.range n).map λi=>Qb N (λj=>if i=k then p j else g i j):=by
 refine ZaT λi=>?_;rw[ZbL];by_cases h:k=i
 ·subst h;rw[if_pos rfl,if_pos (by simpa using hk),Zs,ZK hk];simp
 ·rw[if_neg h,Zs,Zs];by_cases h2:i<n
  ·rw[ZK h2];simp only[ZU,if_neg (Ne.symm h)]
  ·rw[Zu (by simpa using h2)];rfl
theorem Qy5{i k:Nat}(hx:x<U.length)(ey:fy (U.set x none)=some ⟨Qe n N f,by',[]⟩)(e1:f1 (U.set x none)=some (reI k))(e2:g1 (U.set x none)=some ⟨Qb N p,b1,[]⟩)(e3:f2 (U.set x none)=some (reI i))(e4:g2 (U.set x none)=some ⟨Qb N q,b2,[]⟩)(hk:k<n)(hi:i<n)
  (h:Q (.nx ((U.set x none).set x (slF (Qe n N (Qda f k p i q)))))):Run (QkN x fy f1 g1 f2 g2) U Q:=by
 refine⟨_,?_,h⟩;unfold QkN Qr2;rw[if_pos (by simpa using hx),ey,Za];simp only[Qe,e1,e2,e3,e4,Za,Zq,ZC];rw[Qct (show(0:Int)<=k by omega) ⋯,Qct (show(0:Int)<=i by omega) ⋯];simp only[Za,ZQ,QeJ hk];rw[QeJ hi];rfl
noncomputable def Qmz(QaK:Den):DS:=(Qd (Qo 2 (QG (Qd2 vv1 (dBf Qa3 (Qa vv0 Qc))) (.nm 1) [none,none,some 1,some 0] (QF (dOp gNe (Qm (Qm vv3 vv1) vv2) kk0)) vv1)) (Qd (sIf (bOr (Qdo (QF vv2)) (QF (dOp gEq (Qm vv2 kk0) vv1))) (Qd (QC vv0) Qh) Qh) (Qd (QkN 3 vv0 vv1 (Qm vv0 (Qm vv2 kk0)) (Qm vv2 kk0) (Qf 1 QaK [] (Qa (Qm vv0 vv1) Qc))) (Qd (QC vv3) Qh))))
def Qk5(d:Den):Prop:=∀(n N k:Nat) (f:Mt2),k<n->n<=1000->k<N->∃g,d [Qe n N f,.int k]=some (Qe n N g,false)∧
 ((g=f/\(f k k=0->∀i,k<=i->i<n->f i k=0))∨∃i,k<i/\i<n/\f i k≠0/\g=Qda f k (f i) i λj=>0-f k j)
theorem QuZ(ho:Qj6 dop):Qk5 (Qu 4 (Qmz dop)):=λn N k f hk hn kN=>by
 have eI:=QfG (fi:=Qd2 (Ql 1) (dBf Qa3 (Qa (Ql 0) Qc))) (t:= .nm 1) (cap:=[none,none,some 1,some 0]) (ft:=QF (dOp gNe (Qm (Qm (Ql 3) (Ql 1)) (Ql 2)) (dC (.int 0)))) (fe:=Ql 1) (U:=[slF (Qe n N f),slI k,none,none])
  (List.range (n-k)) (QnU rfl rfl (Qd1 rfl rfl) rfl ⋯ ⋯ ⋯ ⋯) rfl λi hi=>⟨[none,slI ((k:Int)+i),slI k,slF (Qe n N f)],rfl,by
   have hi':=Zg.mp hi;refine QQ (Qc4 (Qa2 ((QjQ rfl rfl rfl rfl ⋯ ⋯).trans (by rw[show((k:Int)+i).toNat=k+i by omega])) rfl rfl rfl kN) rfl rfl rfl) rfl,λ_=>⟨(reI ((k:Int)+i)),rfl,rfl,rfl⟩⟩
 have hmem:∀i,i∈(List.range (n-k)).filter (λi=> !decide (f (k+i) k=0))↔i<n-k/\f (k+i) k≠0:=λi=>by simp
 have hfst:∀i,f (k+i) k≠0->i<n-k->∀a l,(List.range (n-k)).filter (λi=> !decide (f (k+i) k=0))=a::l->f k k≠0->a=0:=λi _ hi a l e h0=>by
  have hr:List.range (n-k)=0::(List.range (n-k-1)).map (· +1):=by
   rw[show n-k=(n-k-1)+1 by omega,ZbZ];rfl
  rw[hr,List.filter_cons,if_pos (by show(!decide (f (k+0) k=0))=true;rw[Nat.add_zero,decide_eq_false h0];rfl)]at e;exact(List.cons.inj e).1.symm
 generalize (List.range (n-k)).filter (λi=> !decide (f (k+i) k=0))=xs at eI hmem hfst;cases xs with
 | nil=>
  refine⟨f,?_,.inl ⟨rfl,λ_ i h1 h2=>?_⟩⟩
  ·refine QN ?_;refine rsa eI ?_;refine Qv (QB ((QBO (Qc2 (show QF (Ql 2) _=some false from rfl)))) (λ_=>?_) (λh=>by cases h));exact Qv (Qa6 rfl ⟨rfl,rfl⟩)
  ·by_cases z:f i k=0
   ·exact z
   ·have:=(hmem (i-k)).mpr ⟨⋯,by rw[show k+(i-k)=i by omega];exact z⟩;simp at this
 | cons a l=>
  obtain⟨ha,hz⟩:=(hmem a).mp Zl;have eidx:∀U:En,U[2]? =some (slT (.lst ((a::l).map λ(i:Nat)=>D.int ((k:Int)+i))))->Qm (Ql 2) (dC (.int 0)) U=some (reI ((k:Int)+a)):=λU hU=>by
   unfold Qm;rw[show Ql 2 U=some ⟨.lst ((a::l).map λ(i:Nat)=>D.int ((k:Int)+i)),true,[2]⟩ by unfold Ql;rw[hU];rfl,Za,show dC (.int 0) U=some (reI 0)from rfl,Za];dsimp only;simp only[D.items,ZH,Za];rw[QjO (show(0:Int)<=0 by decide) (by simp)];rfl
  by_cases h0:a=0
  ·subst h0;refine⟨f,?_,.inl ⟨rfl,λz=>absurd z (by simpa using hz)⟩⟩;refine QN ?_;refine rsa eI ?_;refine Qv (QB (b:=true) ((Qgj (Qc2 (show QF (Ql 2) _=some true from rfl)) (QQ (Qbu (ra:=reI k) ?_ rfl rfl rfl) (by simp))).trans rfl) (λ_=>?_) (λh=>by cases h))
   ·rw[eidx _ rfl];show some (HS.R.mk (.int ((k:Int)+(0:Nat))) true [])=_;rw[show(k:Int)+(0:Nat)=k by omega]
   ·exact Qv (Qa6 rfl ⟨rfl,rfl⟩)
  ·have hkk:f k k=0:=by
    by_cases z:f k k=0
    ·exact z
    ·exact absurd (hfst a hz ha a l rfl z) h0
   refine⟨_,?_,.inr ⟨k+a,⋯,⋯,hz,rfl⟩⟩;refine QN ?_;refine rsa eI ?_;refine Qv (QB (b:=false) ((Qgj (Qc2 (show QF (Ql 2) _=some true from rfl)) (QQ (Qbu (eidx _ rfl) rfl rfl rfl) ?_)).trans rfl) (λh=>by cases h) (λ_=>Qj ?_))
   ·show D.bl _=_;rw[decide_eq_false ⋯]
   refine run_seq (Qy5 (i:=k+a) (p:=f (k+a)) (q:=λj=>0-f k j) (by':=false) (b1:=false) (b2:=true) (show 3<4 by decide) rfl rfl ?_ ?_ ?_ hk ⋯ ?_)
   ·exact(QjQ rfl rfl (eidx _ rfl) rfl ⋯ ⋯).trans (by rw[show((k:Int)+a).toNat=k+a by omega])
   ·exact(eidx _ rfl).trans (by rw[show((k+a:Nat):Int)=(k:Int)+a by simp])
   ·exact Qi (r:=⟨[Qb N (f k)],false,[]⟩) (Qn ((QjQ (i:=k) (ra:=reF (Qe n N f)) rfl rfl rfl rfl ⋯ ⋯).trans (by rw[ZQ])) (QP _)) (ho N (f k)) rfl
   ·exact Qv (Qa6 rfl ⟨rfl,rfl⟩)
def Qpy(n:Nat)(m:Mt2):Prop:=∀j,j<n->∀r,r<n->(m j r).natAbs<=2^240
theorem Ql7(hn:n<=8):bnd (2^240) n<2^2000:=by
 have h:∀k,k<9->bnd (2^240) k<2^2000:=by decide+kernel
 exact h n ⋯
theorem Qpy.put(h:Qpy n m)(ha:∀r,r<n->(a r).natAbs<=2^240):Qpy n (cup m i a):=λj hj r hr=>by
 by_cases e:j=i
 ·subst e;rw[QJ];exact ha r hr
 ·rw[QH _ _ e];exact h j hj r hr
structure QbZ (n N k:Nat) (A m R:Mt2) (d:Int):Prop where
 clr:Clr n N k A m R d
 col:Qpy n m
theorem QbZ.start(n N:Nat)(A:Mt2):QbZ n N 0 A QI (λi j=>A j i) 1:=⟨Clr.start n N A,λj _ r _=>by unfold QI;split<;>decide⟩
theorem QbZ.small{n N k:Nat}{A m R:Mt2}{d:Int}(h:QbZ n N k A m R d)(hn:n<=8)(hA:∀j,j<N->∀r,r<n->(A j r).natAbs<=2^240):d.natAbs<2^2000/\∀i j,i<n->j<N->(R i j).natAbs<2^2000:=by
 have b:=Ql7 hn;refine⟨?_,λi j hi hj=>?_⟩
 ·rw[← h.clr.det];exact ZV (QdZ h.col) b
 ·rw[h.clr.ent i j hi hj];exact ZV (QdZ (h.col.put (hA j hj))) b
theorem QbZ.swap{n N k:Nat}{A m R:Mt2}{d:Int}(h:QbZ n N k A m R d){i:Nat}(hk:k<n)(hi:i<n)(hki:k<i):∃m',QbZ n N k A m' (Qda R k (R i) i λj=>0-R k j) d:=by
 have ne:k≠i:= ⋯
 have neg:∀(c:Nat),c<n->∀(M:Mt2) (a:Mt1),HS.det n (cup M c λr=> -a r)= -HS.det n (cup M c a):=λc hc M a=>by
  have:=QfK (m:=M) hc (-1) a;simpa only[Zau,ZT]using this
 obtain⟨c1,c2⟩:=h;refine⟨cup (cup m k (m i)) i λr=> -m k r,⟨c1.le,?_,c1.nz,λl j hl hj=>?_,λj hj=>?_⟩,λj hj r hr=>?_⟩
 ·rw[neg i hi,QdL hk hi ne,ZbC,Qak,Qak];exact c1.det
 ·unfold Qda;by_cases e2:l=i
  ·subst e2;rw[if_pos rfl];show 0-R k j=_;rw[c1.ent k j hk hj,Qny,QdL hk hl ne,Qai _ _ _ ne];have:=Qak m l;rw[this];omega
  ·rw[if_neg e2];by_cases e1:l=k
   ·subst e1;rw[if_pos rfl,c1.ent i j hi hj,Qai _ _ _ (Ne.symm ne),Qny,neg i hi,QdL hl hi ne,ZbC,Qak]
   ·rw[if_neg e1,c1.ent l j hl hj,Qai _ _ _ (Ne.symm e2),neg i hi,Qai _ _ _ (Ne.symm e1),QdL hk hi ne,ZbC,Qai _ _ _ e1,Qak,Qai _ _ _ e2,Qak]
 ·rw[QH _ _ ⋯,QH _ _ ⋯];exact c1.own j hj
 ·by_cases e1:j=i
  ·subst e1;rw[QJ,Int.natAbs_neg];exact c2 k hk r hr
  ·rw[QH _ _ e1];by_cases e2:j=k
   ·subst e2;rw[QJ];exact c2 i hi r hr
   ·rw[QH _ _ e2];exact c2 j hj r hr
theorem Clr.stuck{n N k:Nat}{A m R:Mt2}{d:Int}(h:Clr n N k A m R d)(hk:k<n)(kN:k<N)(hz:∀i,k<=i->i<n->R i k=0):HS.det n A=0:=by
 have t:∀r,r<n->d*A k r=sm k λl=>R l k*A l r:=λr hr=>by
  rw[h.tell kN hr,Qig (k:=k) ⋯ λl h1 h2=>by rw[hz l h1 h2,ZG]];exact QbB λl hl=>by rw[h.own l hl]
 have e:d*HS.det n A=0:=by
  have e1:HS.det n (cup A k λr=>d*A k r)=d*HS.det n A:=by rw[QfK hk,Qak]
  rw[← e1];have e2:HS.det n (cup A k λr=>d*A k r)=HS.det n (cup A k λr=>sm k λl=>R l k*A l r):=Q1 λj hj r hr=>by
   by_cases q:j=k
   ·subst q;rw[QJ,QJ];exact t r hr
   ·rw[QH _ _ q,QH _ _ q]
  rw[e2,Qd0 hk (λl=>R l k) A k];exact QjM λi hi=>by rw[Qff (show i<n by omega) hk ⋯ (by rw[QJ,QH _ _ ⋯]),ZJ]
 rcases Int.mul_eq_zero.mp e with z | z
 ·exact absurd z h.nz
 ·exact z
theorem Clr.all{n N:Nat}{A m R:Mt2}{d:Int}(h:Clr n N n A m R d):d=HS.det n A:=by
 rw[← h.det];exact Q1 λj hj r _=>by rw[h.own j hj]
def QhR(d:Den):Prop:=∀(n N:Nat) (A:Mt2),n<=8->n<=N->(∀j,j<N->∀r,r<n->(A j r).natAbs<=2^240)->∃R,d [Qe n N (λi j=>A j i)]=some (.tup [Qe n N R,.int (det n A)],false)/\(det n A≠0->∃m,QbZ n N n A m R (det n A))
end HS
namespace HS
open PySem PySem.Spec L2
def Ap(f:DS)(fx:DX):Prop:=∀U,fx U≠none->f U=none
def ApF(d:Den)(xd:List D->Option Str):Prop:=∀ds,xd ds≠none->d ds=none
theorem Qah{f:DS}:Ap f xNo:=λU h=>absurd rfl h
theorem Qbd{x:Str}{fs:DA}:Ap Qx (Qdq x fs):=λU h=>rfl
theorem Qat{f g:DS}{fx gx:DX}(a:Ap f fx)(b:Ap g gx):Ap (Qd f g) (QT f fx gx):=λU h=>by
 unfold QT at h;unfold Qd;split at h
 ·rename_i U' e;rw[e];exact b U' h
 ·exact absurd rfl h
 ·rename_i e;rw[e];rfl
theorem QbX{c:DT}{f g:DS}{fx gx:DX}(a:Ap f fx)(b:Ap g gx):Ap (sIf c f g) (xIf c fx gx):=λU h=>by
 unfold xIf at h;unfold sIf;cases e:c U with
 | none=>rfl
 | some v=>
  rw[e,Za]at h;rw[Za];cases v with
  | true=>rw[if_pos rfl]at h ⊢;exact a U h
  | false=>rw[if_neg Zah]at h ⊢;exact b U h
theorem Qcv{fi:DI}{t:Tg}{fb:DS}{fx:DX}(a:Ap fb fx):Ap (QaW fi t fb) (QiZ fi t fb fx):=λU h=>by
 unfold QiZ at h;unfold QaW;cases e:fi U with
 | none=>rfl
 | some ir=>
  rw[e,Za]at h;rw[Za];clear e;revert h;generalize ir.items=ds;generalize Qba ir.M U=U0
  induction ds generalizing U0 with
  | nil=>exact λh=>absurd rfl h
  | cons d ds ih=>
   intro h;unfold Qe4 at h;unfold Qdd;cases e1:QbE t d U0 with
   | none=>rfl
   | some U1=>
    rw[e1,Za]at h;rw[Za];split at h
    ·rename_i U2 e2;rw[e2,Za];exact ih U2 h
    ·rename_i U2 e2;rw[e2,Za];exact ih U2 h
    ·exact absurd rfl h
    ·rename_i e2;rw[e2];rfl
theorem QmL{n:Nat}{d:Den}{xd:List D->Option Str}{fs:DA}(a:ApF d xd){U:En}(h:QaJ n xd fs U≠none):Qf n d [] fs U=none:=by
 unfold QaJ at h;unfold Qf;cases e:fs U with
 | none=>rfl
 | some r=>
  rw[e,Za]at h;rw[Za];split at h
  ·rename_i hl;rw[if_pos (by simpa using hl),ZaO,a r.ds (λz=>h (by rw[z];rfl))];rfl
  ·exact absurd rfl h
theorem Qau{n:Nat}{d:Den}{xd:List D->Option Str}{fs:DA}(a:ApF d xd):Ap (Qa8 (Qf n d [] fs)) (QaJ n xd fs):=λU h=>by unfold Qa8;rw[QmL a h];rfl
theorem QaF{n:Nat}{d:Den}{xd:List D->Option Str}{fs:DA}(a:ApF d xd):Ap (QC (Qf n d [] fs)) (QaJ n xd fs):=λU h=>by unfold QC;rw[QmL a h];rfl
theorem QfD{k:Nat}{f:DS}{fx:DX}(a:Ap f fx):ApF (Qu k f) (Qae k fx):=λds h=>by
 unfold Qae at h;unfold Qu;rw[a _ λz=>h (by rw[z];rfl)];rfl
def Qeb(f:DX)(U:En)(x:Str):Prop:=∃U',f U=some (x,U')
theorem QpK{x:Str}{fs:DA}{U:En}{r:RA}(h:fs U=some r)(hl:r.ds.length<=1):Qeb (Qdq x fs) U x:=⟨U,by unfold Qdq;rw[h,Za,if_pos hl]⟩
theorem Qbj{n:Nat}{xd:List D->Option Str}{fs:DA}{U:En}{r:RA}{x:Str}(h:fs U=some r)(hl:r.ds.length=n)(hx:xd r.ds=some x):Qeb (QaJ n xd fs) U x:=⟨U,by unfold QaJ;rw[h,Za,if_pos hl,hx];rfl⟩
theorem QgJ{g:DT}{fa fb:DX}{b:Bool}{U:En}{x:Str}(h:g U=some b)(q1:b=true->Qeb fa U x)(q2:b=false->Qeb fb U x):Qeb (xIf g fa fb) U x:=by
 cases b with
 | true=>obtain⟨o,h1⟩:=q1 rfl;exact⟨o,by simp[xIf,h,h1]⟩
 | false=>obtain⟨o,h1⟩:=q2 rfl;exact⟨o,by simp[xIf,h,h1]⟩
theorem Q0{f:DS}{fx fr:DX}{U:En}{x:Str}(a:Ap f fx)(q:Qeb fx U x):Qeb (QT f fx fr) U x:=by
 obtain⟨o,h⟩:=q;exact⟨o,by unfold QT;rw[a U (by rw[h];exact λz=>by cases z)];exact h⟩
theorem Qa4{f:DS}{fx fr:DX}{U:En}{x:Str}(h:Run f U (Nx λU'=>Qeb fr U' x)):Qeb (QT f fx fr) U x:=by
 obtain⟨o,h1,h2⟩:=h;cases o with
 | nx U'=>obtain⟨o,h3⟩:=h2;exact⟨o,by unfold QT;rw[h1];exact h3⟩
 | _=>exact h2.elim
theorem QpX{α:Type}{fi:DI}{t:Tg}{fb:DS}{fx:DX}{toD:α->D}{U:En}{ir:IR}{c:Str}(a:Ap fb fx)(xs:List α)(I:Nat->En->Prop)(k:Nat)(hk:k<xs.length)(h:fi U=some ir)(hx:ir.items=xs.map toD)(h0:I 0 (Qba ir.M U))
  (turn:∀i x U,i<k->xs[i]? =some x->I i U->∃U1,QbE t (toD x) U=some U1/\Run fb U1 (Nx λU2=>I (i+1) U2))
  (here:∀x U,xs[k]? =some x->I k U->∃U1,QbE t (toD x) U=some U1/\Qeb fx U1 c):Qeb (QiZ fi t fb fx) U c:=by
 unfold Qeb QiZ;rw[h,Za,hx];clear h hx;have gen:∀(n:Nat) (i:Nat) (U:En),k-i=n->i<=k->I i U->∃U',Qe4 t fb fx ((xs.drop i).map toD) U=some (c,U'):=by
  intro n
  induction n with
  | zero=>
   intro i U e hi hI;obtain rfl:i=k:= ⋯
   rw[ZW hk,ZH];unfold Qe4;obtain⟨U1,e1,U2,e2⟩:=here xs[i] U (by simp[hk]) hI;refine⟨U2,?_⟩;rw[e1,Za,a U1 (by rw[e2];exact λz=>by cases z)];exact e2
  | succ n ih=>
   intro i U e hi hI;have hlt:i<xs.length:= ⋯
   rw[ZW hlt,ZH];unfold Qe4;obtain⟨U1,e1,o,e2,e3⟩:=turn i xs[i] U ⋯ (by simp[hlt]) hI;cases o with
   | nx U2=>
    obtain⟨U',e4⟩:=ih (i+1) U2 ⋯ ⋯ e3;exact⟨U',by rw[e1,Za,e2];exact e4⟩
   | _=>exact e3.elim
 have:=gen (k-0) 0 _ rfl (Zab _) h0;simpa using this
theorem QdF{k:Nat}{f:DX}{ds:List D}{x:Str}(h:Qeb f (QaU k ds) x):Qae k f ds=some x:=by
 obtain⟨U,e⟩:=h;unfold Qae;rw[e];rfl
theorem Qvs{f:DS}{fx:DX}{sub:Str->Str->Option Bool}{y:Str}{h:DS}{r:List Hd}{x:Str}{U U':En}{Q:Out->Prop}(a:Ap f fx)(e:fx U=some (x,U'))(hs:sub x y=some true)(q:Run h U' Q):Run (QeM f fx sub ((y,none,h)::r)) U Q:=by
 obtain⟨o,h1,h2⟩:=q;refine⟨o,?_,h2⟩;unfold QeM;rw[a U (by rw[e];exact λz=>by cases z)];dsimp only;rw[e,Za];unfold Qlr;rw[hs,Za,if_pos rfl];exact h1
theorem Qo8{f:DS}{fx:DX}{sub:Str->Str->Option Bool}{y:Str}{i:Nat}{h:DS}{r:List Hd}{x:Str}{U U':En}{Q:Out->Prop}(a:Ap f fx)(e:fx U=some (x,U'))(hs:sub x y=some true)(q:Run h (U'.set i (some (.exc x,true))) λo=>Q (QAx i o)):Run (QeM f fx sub ((y,some i,h)::r)) U Q:=by
 obtain⟨o,h1,h2⟩:=q;refine⟨_,?_,h2⟩;unfold QeM;rw[a U (by rw[e];exact λz=>by cases z)];dsimp only;rw[e,Za];unfold Qlr;rw[hs,Za,if_pos rfl];dsimp only;rw[h1];rfl
noncomputable def QeX:DX:=(QT (QaW (QW vv1) (.nm 2) (Qd (sIf (QF (dOp gNe (dBf Qa3 (Qa vv2 Qc)) (Qm vv0 kk0))) (Qd Qx Qh) Qh) Qh)) (QiZ (QW vv1) (.nm 2) (Qd (sIf (QF (dOp gNe (dBf Qa3 (Qa vv2 Qc)) (Qm vv0 kk0))) (Qd Qx Qh) Qh) Qh) (QT (sIf (QF (dOp gNe (dBf Qa3 (Qa vv2 Qc)) (Qm vv0 kk0))) (Qd Qx Qh) Qh) (xIf (QF (dOp gNe (dBf Qa3 (Qa vv2 Qc)) (Qm vv0 kk0))) (QT Qx (Qdq "NoRow" (Qa (dC (.str "a row has one number for each place of the net, a full row one more")) Qc)) xNo) xNo) xNo)) xNo)
theorem Qzd:ApF (Qu 3 Qdw) (Qae 3 QeX):=QfD (by unfold Qdw QeX;repeat (first | exact Qah | exact Qbd | assumption | apply Qat | apply QbX | apply Qcv | apply Qau | apply ap_asg | apply QaF))
def QgG(xd:List D->Option Str):Prop:=∀(m:Int) (R L:Lpp) (xs:List (List D)) (k:Nat),k<xs.length->(∀i x,i<k->xs[i]? =some x->(x.length:Int)=m)->(∀x,xs[k]? =some x->(x.length:Int)≠m)->xd [Qz m R L,.lst (xs.map .lst)]=some "NoRow"
theorem Qwk:QgG (Qae 3 QeX):=λm R L xs k hk h1 h2=>by
 refine QdF (Q0 (Qcv (by repeat (first | exact Qah | exact Qbd | assumption | apply Qat | apply QbX | apply Qcv | apply Qau | apply ap_asg | apply QaF))) (QpX (by repeat (first | exact Qah | exact Qbd | assumption | apply Qat | apply QbX | apply Qcv | apply Qau | apply ap_asg | apply QaF)) (toD:=λx=> .lst x) xs (λ_ U=>∃j2,U=[slF (Qz m R L),slF (.lst (xs.map .lst)),j2]) k hk (ir:=⟨xs.map .lst,[]⟩) rfl rfl ⟨none,rfl⟩ ?_ ?_))
 ·rintro i x U hi hx ⟨j2,rfl⟩;refine⟨_,rfl,?_⟩;refine run_seq (QB (b:=false) (QQ (Qc4 (Qfb (xs:=x) (r:=reF (.lst x)) rfl rfl) rfl (Qnk (m:=m) (R:=R) (L:=L) (r:=reF (Qz m R L)) rfl rfl).1 rfl) (by simp[h1 i x hi hx])) (λh=>by cases h) (λ_=>Qj (Qj ⟨_,rfl⟩)))
 ·rintro x U hx ⟨j2,rfl⟩;refine⟨_,rfl,?_⟩;refine Q0 (by repeat (first | exact Qah | exact Qbd | assumption | apply Qat | apply QbX | apply Qcv | apply Qau | apply ap_asg | apply QaF)) (QgJ (b:=true) (QQ (Qc4 (Qfb (xs:=x) (r:=reF (.lst x)) rfl rfl) rfl (Qnk (m:=m) (R:=R) (L:=L) (r:=reF (Qz m R L)) rfl rfl).1 rfl) (by simp[h2 x hx])) (λ_=>?_) (λh=>by cases h));exact Q0 Qbd (QpK rfl (Zj _))
end HS
namespace HS
open PySem L2
theorem Ql3{n:Nat}{d:Den}{xd:List D->Option Str}{fs:DA}{U:En}{r:RA}{x:Str}(a:ApF d xd)(h:fs U=some r)(hl:r.ds.length=n)(hx:xd r.ds=some x):QT (Qa8 (Qf n d [] fs)) (QaJ n xd fs) xNo U=some (x,U):=by
 have e:QaJ n xd fs U=some (x,U):=by unfold QaJ;rw[h,Za,if_pos hl,hx];rfl
 unfold QT;rw[Qau a U (by rw[e];exact λz=>by cases z)];exact e
theorem Qe9{sub:Str->Str->Option Bool}{ys:List Str}{fa:DE}{U:En}{x:Str}{b:Bool}(h:fa U=some ⟨.exc x,true,[]⟩)(hs:anyS sub x ys=some b):QhN sub ys fa U=some (reT (.bl b)):=by
 unfold QhN;rw[h,Za];dsimp only;rw[hs];rfl
theorem any_cons{sub:Str->Str->Option Bool}{x y:Str}{ys:List Str}{b c:Bool}(h:sub x y=some b)(t:anyS sub x ys=some c):anyS sub x (y::ys)=some (b || c):=by
 unfold anyS;rw[h,Za,t];rfl
theorem QfJ{fa fb:DE}{U:En}{a b:Bool}(ha:fa U=some (reT (.bl a)))(hb:fb U=some (reT (.bl b))):QcY fa fb U=some (reT (.bl (a && b))):=by
 unfold QcY;rw[ha,Za];cases a with
 | true=>rw[hb];rfl
 | false=>rfl
theorem QqV{fa:DE}{U:En}{a:Bool}(ha:fa U=some (reT (.bl a))):QmX fa U=some (reT (.bl (!a))):=by
 unfold QmX;rw[ha];rfl
def Qg6(d:Den):Prop:=∀(n N:Nat) (A:Mt2),n<=8->n<=N->(∀j,j<N->∀r,r<n->(A j r).natAbs<=2^240)->det n A≠0->∃m R b,d [Qe n N (λi j=>A j i)]=some (.tup [Qe n N R,.int b],false)/\QbZ n N n A m R b
theorem Qpu(hc:QhR dc):Qg6 (Qu 2 (Qd4 dc)):=λn N A n8 hN hA hd=>by
 obtain⟨R,ec,hC⟩:=hc n N A n8 hN hA;obtain⟨m,C⟩:=hC hd;refine⟨m,R,det n A,QN ?_,C⟩;refine run_seq (QA ((QeQ (r:=⟨[Qe n N (λi j=>A j i)],false,[]⟩) rfl ec rfl).trans rfl) ?_);refine Qv (QB (b:=false) (QQ (Qbu rfl rfl rfl rfl) (by simp[hd])) (λh=>by cases h) (λ_=>Qj ?_));exact Qy rfl ⟨rfl,rfl⟩
def QnZ(d:Den):Prop:=∀(n:Nat) (f:Mt2) (row:Mt1),n<=8->(∀j r,j<n->r<n->(f j r).natAbs<=2^240)->(∀r,r<n->(row r).natAbs<=2^240)->det n f≠0->∃tops q,d [Qe n n f,Qb n row]=some (.tup [Qb n tops,.int q],true)/\0<q/\q.natAbs<2^2000/\(∀r,r<n->q*row r=sm n λl=>tops l*f l r)/\(∀l,l<n->(tops l).natAbs<2^2000)/\(∀t,t∣q->(∀l,l<n->t∣tops l)->t.natAbs=1)
theorem QwI(ha:a<n)(hb:b<n)(hab:a≠b)(h:∀k,k<n->k≠a->k≠b->f k=g k)(e:f a+f b=g a+g b):Qq n f=Qq n g:=by
 have e1:Qq n f=Qq n λk=>g k+((if k=a then f a-g a else 0)*1+(if k=b then f b-g b else 0)*1):=Qp λk hk=>by
  by_cases k1:k=a
  ·subst k1;rw[if_pos rfl,if_neg hab];omega
  ·by_cases k2:k=b
   ·subst k2;rw[if_neg k1,if_pos rfl];omega
   ·rw[if_neg k1,if_neg k2,h k hk k1 k2];omega
 rw[e1,QaP,QaP,QaI ha _ λ_=>1,QaI hb _ λ_=>1];omega
theorem QcE(ha:a<n)(h:∀k,k<n->k≠a->f k=0):Qq n f=f a:=by
 have e1:Qq n f=Qq n λk=>(if k=a then f a else 0)*1:=Qp λk hk=>by
  by_cases k1:k=a
  ·subst k1;rw[if_pos rfl];omega
  ·rw[if_neg k1,h k hk k1];omega
 rw[e1,QaI ha _ λ_=>1];omega
theorem Qn0(n:Nat)(c:Int)(f:Mt1):Qq n (λi=>f i*c)=Qq n f*c:=by
 rw[ZP,← QU];exact Qp λi _=>ZP _ _
theorem Qlv(n:Nat)(f g:Mt1):Qq n (λi=>f i-g i)=Qq n f-Qq n g:=by
 have:=QaP n (λi=>f i-g i) g;rw[Qp (g:=f) λi _=> ⋯]at this;omega
theorem Qif(h:∀k,k<n->t∣f k):t∣Qq n f:=by
 induction n with
 | zero=>exact Int.dvd_zero t
 | succ n ih=>rw[Qag];exact ZaJ (ih λk hk=>h k ⋯) (h n ⋯)
theorem QpP(h:∀k,k<n->(f k).natAbs<=C):(Qq n f).natAbs<=n*C:=by
 induction n with
 | zero=>exact Zab _
 | succ n ih=>
  rw[Qag,Nat.succ_mul];have h1:=ih λk hk=>h k ⋯;have h2:=h n ⋯;have h3:=Zbu (Qq n f) (f n);omega
noncomputable def idF(i j:Nat):Int:=if i=j then 1 else 0
theorem QaZ(n:Nat)(a b c:Mt2):prodF n (prodF n a b) c=prodF n a (prodF n b c):=by
 funext i j;unfold prodF;have e1:(Qq n λk=>(Qq n λl=>a i l*b l k)*c k j)=Qq n λk=>Qq n λl=>a i l*(b l k*c k j):=Qp λk _=>by
  rw[← Qn0];exact Qp λl _=>Zx _ _ _
 rw[e1,QdX];exact Qp λl _=>QU n _ _
theorem Qax(h1:∀k,k<n->a i k=a' i k)(h2:∀k,k<n->b k j=b' k j):prodF n a b i j=prodF n a' b' i j:=
 Qp λk hk=>by rw[h1 k hk,h2 k hk]
theorem QcD(a:Mt2)(j:Nat)(hi:i<n):prodF n idF a i j=a i j:=by
 unfold prodF idF;rw[QcE hi λk _ hk=>by rw[if_neg (Ne.symm hk),ZG],if_pos rfl,ZT]
theorem Qik(a:Mt2)(i:Nat)(hj:j<n):prodF n a idF i j=a i j:=by
 unfold prodF idF;rw[QcE hj λk _ hk=>by rw[if_neg hk,ZJ],if_pos rfl,Zae]
def QbD(n:Nat)(a b:Mt2):Prop:=∀i j,i<n->j<n->prodF n a b i j=idF i j
theorem QbD.prod(h1:QbD n a b)(h2:QbD n c d):QbD n (prodF n a c) (prodF n d b):=λi j hi hj=>by
 rw[QaZ,Qax (a':=a) (b':=prodF n (prodF n c d) b) (λ_ _=>rfl) λk hk=>by rw[QaZ],Qax (a':=a) (b':=b) (λ_ _=>rfl) λk hk=>?_]
 ·exact h1 i j hi hj
 ·rw[Qax (a':=idF) (b':=b) (λl hl=>h2 k l hk hl) λ_ _=>rfl,QcD b j hk]
theorem split_len:∀(L h:Nat),0<L->∃L1 L2 N,L=L1*L2/\Nat.Coprime L1 h/\L2∣h^N:=by
 intro L
 induction L using Nat.strongRecOn with
 | _ L ih=>
  intro h hL;by_cases g:Nat.gcd L h=1
  ·exact⟨L,1,0,⋯,g,Nat.one_dvd _⟩
  ·have hg:0<Nat.gcd L h:=Nat.gcd_pos_of_pos_left h hL;obtain⟨M,hM⟩:=Nat.gcd_dvd_left L h;have hM0:0<M:=by
    rcases ZaL M with z | z
    ·rw[z,Nat.mul_zero]at hM;omega
    ·exact z
   have hlt:M<L:=by
    have:2*M<=Nat.gcd L h*M:=ZbD M ⋯;omega
   obtain⟨L1,L2,N,e,c,d⟩:=ih M hlt h hM0;refine⟨L1,Nat.gcd L h*L2,N+1,?_,c,?_⟩
   ·rw[Nat.mul_left_comm,← e];exact hM
   ·rw[Zca,ZaS (h^N)];exact Nat.mul_dvd_mul (Nat.gcd_dvd_right L h) d
theorem Qhr{t:Nat}{x:Int}:(t:Int)∣x↔t∣x.natAbs:=by rw[← Zaf,Int.natAbs_natCast]
noncomputable def QbW:Nat->(Nat->Int)->Nat
 | 0,_=>0
 | n+1,u=>Nat.gcd (QbW n u) (u n).natAbs
theorem QbI{u:Mt1}{t:Nat}:∀{n:Nat},t∣QbW n u↔∀i,i<n->(t:Int)∣u i
 | 0=>⟨λ_ i hi=> ⋯,λ_=>Nat.dvd_zero t⟩
 | n+1=>by
  unfold QbW;rw[Nat.dvd_gcd_iff,QbI (n:=n)];constructor
  ·rintro⟨h1,h2⟩ i hi;by_cases e:i=n
   ·subst e;exact Qhr.mpr h2
   ·exact h1 i ⋯
  ·exact λh=>⟨λi hi=>h i ⋯,Qhr.mp (h n ⋯)⟩
theorem QwF{n:Nat}{u v:Mt1}{L:Nat}(hL:0<L)(hc:∀t:Nat,t∣L->(∀i,i<n->(t:Int)∣u i)->(∀i,i<n->(t:Int)∣v i)->t=1):
  ∃T:Nat,∀t:Nat,t∣L->(∀i,i<n->(t:Int)∣u i+T*v i)->t=1:=by
 obtain⟨L1,L2,N,e,c,d⟩:=split_len L (Nat.gcd (QbW n u) L) hL;refine⟨L1,λt ht hu=>?_⟩;have c1:Nat.Coprime t L1:=by
  have a1:Nat.gcd t L1∣t:=Nat.gcd_dvd_left _ _;have a2:Nat.gcd t L1∣L1:=Nat.gcd_dvd_right _ _;have hui:∀i,i<n->((Nat.gcd t L1:Nat):Int)∣u i:=λi hi=>by
   have h1:=Int.dvd_trans (Int.natCast_dvd_natCast.mpr a1) (hu i hi);have h2:((Nat.gcd t L1:Nat):Int)∣(L1:Int)*v i:=Zaz (Int.natCast_dvd_natCast.mpr a2);have:=Zbl h1 h2;rwa[Int.add_sub_cancel]at this
  have h3:Nat.gcd t L1∣Nat.gcd (QbW n u) L:=Nat.dvd_gcd (QbI.mpr hui) (Nat.dvd_trans a1 ht);exact Nat.eq_one_of_dvd_one (by rw[← c];exact Nat.dvd_gcd a2 h3)
 have t2:t∣L2:=by
  rw[e]at ht;exact Nat.Coprime.dvd_of_dvd_mul_left c1 ht
 have c2:Nat.Coprime t (Nat.gcd (QbW n u) L):=by
  have a1:Nat.gcd t (Nat.gcd (QbW n u) L)∣t:=Nat.gcd_dvd_left _ _;have a2:Nat.gcd t (Nat.gcd (QbW n u) L)∣QbW n u:=Nat.dvd_trans (Nat.gcd_dvd_right _ _) (Nat.gcd_dvd_left _ _);show Nat.gcd t (Nat.gcd (QbW n u) L)=1;generalize Nat.gcd t (Nat.gcd (QbW n u) L)=D at a1 a2 ⊢;have hui:=QbI.mp a2;have cD:Nat.Coprime D L1:=Nat.Coprime.coprime_dvd_left a1 c1;refine hc D (Nat.dvd_trans a1 ht) hui λi hi=>?_;have h1:=Zbl (Int.dvd_trans (Int.natCast_dvd_natCast.mpr a1) (hu i hi)) (hui i hi);rw[show u i+(L1:Int)*v i-u i=(L1:Int)*v i by omega]at h1;have h2:=Qhr.mp h1;rw[Zak,Int.natAbs_natCast]at h2;exact Qhr.mpr (Nat.Coprime.dvd_of_dvd_mul_left cD h2)
 exact Nat.Coprime.eq_one_of_dvd (Nat.Coprime.pow_right N c2) (Nat.dvd_trans t2 d)
theorem QBv{n:Nat}(u v:Mt1){L:Nat}(hL:0<L):
  ∃T:Nat,∀t:Nat,t∣L->(∀i,i<n->(t:Int)∣u i+T*v i)->(∀i,i<n->(t:Int)∣u i)/\∀i,i<n->(t:Int)∣v i:=by
 obtain⟨g,hg⟩:∃g,g=Nat.gcd (Nat.gcd (QbW n u) (QbW n v)) L:=⟨_,rfl⟩;have gL:g∣L:=by rw[hg];exact Nat.gcd_dvd_right _ _
 have gu:∀i,i<n->(g:Int)∣u i:=QbI.mp (by rw[hg];exact Nat.dvd_trans (Nat.gcd_dvd_left _ _) (Nat.gcd_dvd_left _ _));have gv:∀i,i<n->(g:Int)∣v i:=QbI.mp (by rw[hg];exact Nat.dvd_trans (Nat.gcd_dvd_left _ _) (Nat.gcd_dvd_right _ _));have g0:0<g:=Nat.pos_of_dvd_of_pos gL hL;obtain⟨L',eL⟩:=gL;have hL':0<L':=by
  rcases ZaL L' with z | z
  ·rw[z,Nat.mul_zero]at eL;omega
  ·exact z
 have eu:∀i,i<n->u i=(g:Int)*(u i / g):=λi hi=>(Int.mul_ediv_cancel' (gu i hi)).symm;have ev:∀i,i<n->v i=(g:Int)*(v i / g):=λi hi=>(Int.mul_ediv_cancel' (gv i hi)).symm;have gz:(g:Int)≠0:= ⋯
 obtain⟨T,hT⟩:=QwF hL' λt h1 h2 h3=>by
  have a1:g*t∣L:=by rw[eL];exact Nat.mul_dvd_mul_left g h1
  have a2:g*t∣QbW n u:=QbI.mpr λi hi=>by rw[eu i hi,Zaj];exact Int.mul_dvd_mul_left _ (h2 i hi)
  have a3:g*t∣QbW n v:=QbI.mpr λi hi=>by rw[ev i hi,Zaj];exact Int.mul_dvd_mul_left _ (h3 i hi)
  have a4:g*t∣g:=by
   have:=Nat.dvd_gcd (Nat.dvd_gcd a2 a3) a1;rwa[← hg]at this
  exact Nat.eq_one_of_dvd_one (Nat.dvd_of_mul_dvd_mul_left g0 (by rw[Nat.mul_one];exact a4))
 refine⟨T,λt ht hu=>?_⟩;have hD:Nat.gcd (QbW n λi=>u i+T*v i) L∣g:=by
  obtain⟨D',hD'⟩:g∣Nat.gcd (QbW n λi=>u i+T*v i) L:=Nat.dvd_gcd (QbI.mpr λi hi=>ZaJ (gu i hi) (Int.dvd_mul_of_dvd_right (gv i hi))) ⟨L',eL⟩;have b1:D'∣L':=by
   have:=Nat.gcd_dvd_right (QbW n λi=>u i+T*v i) L;rw[hD',eL]at this;exact Nat.dvd_of_mul_dvd_mul_left g0 this
  have b2:=hT D' b1 λi hi=>by
   have h1:((g*D':Nat):Int)∣u i+T*v i:=by rw[← hD'];exact(QbI).mp (Nat.gcd_dvd_left _ _) i hi
   rw[eu i hi,ev i hi,show(g:Int)*(u i / g)+T*((g:Int)*(v i / g))=g*(u i / g+T*(v i / g)) by rw[Zay,ZN],Zaj]at h1;exact Int.dvd_of_mul_dvd_mul_left gz h1
  rw[hD',b2,Nat.mul_one];exact Nat.dvd_refl g
 have tg:t∣g:=Nat.dvd_trans (Nat.dvd_gcd (QbI.mpr hu) ht) hD;exact⟨λi hi=>Int.dvd_trans (Int.natCast_dvd_natCast.mpr tg) (gu i hi),λi hi=>Int.dvd_trans (Int.natCast_dvd_natCast.mpr tg) (gv i hi)⟩
theorem QxQ{L g y:Int}(h:∀t:Int,t∣L->t∣g->t.natAbs=1)(hd:L∣g*y):L∣y:=by
 have c:Nat.Coprime L.natAbs g.natAbs:=by
  have:=h (Nat.gcd L.natAbs g.natAbs) (Qhr.mpr (Nat.gcd_dvd_left _ _)) (Qhr.mpr (Nat.gcd_dvd_right _ _));rwa[Int.natAbs_natCast]at this
 have h2:=Zaf.mpr hd;rw[Zak]at h2;exact Zaf.mp (Nat.Coprime.dvd_of_dvd_mul_left c h2)
structure Qj7 (n:Nat) (A P:Mt2) (w:Int) (R Rb:Mt2) (len:Mt1):Prop where
 u1:QbD n R Rb
 u2:QbD n Rb R
 pos:∀j,j<n->0<len j
 col:∀i j,i<n->j<n->len j∣prodF n A R i j
 row:∀i j,i<n->j<n->w∣len j*prodF n Rb P j i
 nxt:∀j,j+1<n->len j∣len (j+1)
structure RT (n k:Nat) (A P:Mt2) (w c L:Int) (R Rb S:Mt2) (len:Mt1):Prop where
 kn:k<=n
 u1:QbD n R Rb
 u2:QbD n Rb R
 L0:0<L
 cL:c*L=w
 low:∀i j,k<=i->i<n->j<n->S i j=0
 i1:∀i j,i<n->j<n->L∣prodF n (prodF n A R) S i j
 i2:∀i j,i<k->j<n->w∣prodF n Rb P i j-c*S i j
 one:∀j,j<k->len j=1
 pos:∀j,k<=j->j<n->0<len j
 col:∀i j,k<=j->j<n->i<n->len j∣prodF n A R i j
 row:∀i j,k<=j->j<n->i<n->w∣len j*prodF n Rb P j i
 nxt:∀j,k<=j->j+1<n->len j∣len (j+1)
 top:k<n->len k=L
theorem RT.stop{n k:Nat}{A P:Mt2}{w c L:Int}{R Rb S:Mt2}{len:Mt1}(h:RT n k A P w c L R Rb S len)(hp:∀i j,i<n->j<n->L∣S i j):Qj7 n A P w R Rb len where
 u1:=h.u1
 u2:=h.u2
 pos:=λj hj=>by
  by_cases z:j<k
  ·rw[h.one j z];decide
  ·exact h.pos j ⋯ hj
 col:=λi j hi hj=>by
  by_cases z:j<k
  ·rw[h.one j z];exact Int.one_dvd _
  ·exact h.col i j ⋯ hj hi
 row:=λi j hi hj=>by
  by_cases z:j<k
  ·rw[h.one j z,ZT];have h1:=h.i2 j i z hi;have h2:w∣c*S j i:=by rw[← h.cL];exact Int.mul_dvd_mul_left c (hp j i hj hi)
   have:=ZaJ h1 h2;rwa[ZaE]at this
  ·exact h.row i j ⋯ hj hi
 nxt:=λj hj=>by
  by_cases z:j<k
  ·rw[h.one j z];exact Int.one_dvd _
  ·exact h.nxt j ⋯ hj
theorem RT.done{n:Nat}{A P:Mt2}{w c L:Int}{R Rb S:Mt2}{len:Mt1}(h:RT n 0 A P w c L R Rb S len):Qj7 n A P w R Rb len:=
 ⟨h.u1,h.u2,λj hj=>h.pos j ⋯ hj,λi j hi hj=>h.col i j ⋯ hj hi,λi j hi hj=>h.row i j ⋯ hj hi,λj hj=>h.nxt j ⋯ hj⟩
structure Qov (n last:Nat) (x:Mt1) (T B:Mt2) (g:Int):Prop where
 u1:QbD n T B
 u2:QbD n B T
 tl:∀i j,last<i->i<n->j<n->T i j=idF i j
 tu:∀i j,i<=last->last<j->j<n->T i j=0
 bl:∀i j,i<n->last<j->j<n->B i j=idF i j
 hit:∀i,i<=last->Qq n (λj=>T i j*x j)=if i=last then g else 0
theorem RT.step{n last:Nat}{A P:Mt2}{w c L part L':Int}{R Rb S Sq S1:Mt2}{len x cc:Mt1}{T B:Mt2}{g:Int}(h:RT n (last+1) A P w c L R Rb S len)
  (p0:0<part) (eL:L=part*L') (hS:∀i j,i<n->j<n->S i j=part*Sq i j) (h1:∀i j,i<n->j<n->L'∣Sq i j-S1 i j) (hz:∀i j,last<i->i<n->j<n->S1 i j=0)
  (cop:∀t,t∣L'->(∀i j,i<n->j<n->t∣Sq i j)->t.natAbs=1) (hx:∀i,i<n->L'∣x i-Qq n λj=>cc j*S1 i j) (hx0:∀i,last<i->i<n->x i=0)
  (hxc:∀t,t∣L'->(∀i,i<n->t∣x i)->∀i j,i<n->j<n->t∣S1 i j) (sp:Qov n last x T B g):
  RT n last A P w (c*part) L' (prodF n R B) (prodF n T Rb) (λi j=>if i=last then 0 else prodF n T S1 i j) (λj=>if j=last then L' else len j):=by
 have hn:last<n:=h.kn;have L0':0<L':=by
  refine ZO λz=>?_;have:=ZaM (a:=part) (b:=L') ⋯ ⋯;have:=h.L0;omega
 have pz:part≠0:= ⋯
 have ew:w=c*part*L':=by rw[← h.cL,eL,Zx]
 obtain⟨M,hM⟩:∃M,M=prodF n A R:=⟨_,rfl⟩;obtain⟨Q,hQ⟩:∃Q,Q=prodF n Rb P:=⟨_,rfl⟩;have aM:prodF n A (prodF n R B)=prodF n M B:=by rw[hM,QaZ]
 have aQ:prodF n (prodF n T Rb) P=prodF n T Q:=by rw[hQ,QaZ]
 have i1:=h.i1;have i2:=h.i2;have col:=h.col;have row:=h.row;rw[← hM]at i1 col;rw[← hQ]at i2 row;have F1:∀i j,i<n->j<n->L'∣prodF n M S1 i j:=λi j hi hj=>by
  have a1:=i1 i j hi hj;have a2:prodF n M S i j=part*prodF n M Sq i j:=by
   unfold prodF;rw[← QU];exact Qp λl hl=>by rw[hS l j hl hj,ZN]
  rw[a2,eL]at a1;have a3:=Int.dvd_of_mul_dvd_mul_left pz a1;have a4:L'∣Qq n λl=>M i l*(Sq l j-S1 l j):=Qif λl hl=>Int.dvd_mul_of_dvd_right (h1 l j hl hj);have a5:(Qq n λl=>M i l*(Sq l j-S1 l j))=prodF n M Sq i j-prodF n M S1 i j:=by
   unfold prodF;rw[← Qlv];exact Qp λl _=>Zci _ _ _
  rw[a5]at a4;have:=Zbl a3 a4;rwa[Int.sub_sub_self]at this
 have F2:∀i,i<n->L'∣Qq n λl=>M i l*x l:=λi hi=>by
  have a1:L'∣Qq n λl=>M i l*(x l-Qq n λj=>cc j*S1 l j):=Qif λl hl=>Int.dvd_mul_of_dvd_right (hx l hl);have a2:L'∣Qq n λj=>cc j*prodF n M S1 i j:=Qif λj hj=>Int.dvd_mul_of_dvd_right (F1 i j hi hj);have a3:(Qq n λj=>cc j*prodF n M S1 i j)=Qq n λl=>M i l*Qq n λj=>cc j*S1 l j:=by
   unfold prodF;rw[Qp (g:=λj=>Qq n λl=>M i l*(cc j*S1 l j)) λj _=>by rw[← QU];exact Qp λl _=>ZN _ _ _,QdX];exact Qp λl _=>QU n _ _
  rw[a3]at a2;have:=ZaJ a1 a2;rw[← QaP,Qp λl _=>by rw[← Zay,ZaE]]at this;exact this
 have F3:∀l,l<n->x l=g*B l last:=λl hl=>by
  have a1:(Qq n λj=>prodF n B T l j*x j)=x l:=by
   rw[QcE hl λj hj e=>by rw[sp.u2 l j hl hj];unfold idF;rw[if_neg (Ne.symm e),ZG],sp.u2 l l hl hl];unfold idF;rw[if_pos rfl,ZT]
  have a2:(Qq n λj=>prodF n B T l j*x j)=Qq n λm=>B l m*Qq n λj=>T m j*x j:=by
   unfold prodF;rw[Qp (g:=λj=>Qq n λm=>B l m*(T m j*x j)) λj _=>by rw[← Qn0];exact Qp λm _=>Zx _ _ _,QdX];exact Qp λm _=>QU n _ _
  rw[← a1,a2,QcE hn λm hm ne=>?_]
  ·rw[sp.hit last (Zj _),if_pos rfl,ZP]
  ·by_cases z:m<=last
   ·rw[sp.hit m z,if_neg ne,ZJ]
   ·have:(Qq n λj=>T m j*x j)=0:=by
     rw[QcE hm λj hj e=>by rw[sp.tl m j ⋯ hm hj];unfold idF;rw[if_neg (Ne.symm e),ZG],hx0 m ⋯ hm,ZJ]
    rw[this,ZJ]
 have F4:∀t,t∣L'->t∣g->t.natAbs=1:=λt t1 t2=>cop t t1 λi j hi hj=>by
  have a1:=hxc t t1 (λl hl=>by rw[F3 l hl];exact Zaz t2) i j hi hj;have a2:=ZaJ (Int.dvd_trans t1 (h1 i j hi hj)) a1;rwa[ZaE]at a2
 have F5:∀i,i<n->L'∣prodF n M B i last:=λi hi=>QxQ F4 (by
  have:g*prodF n M B i last=Qq n λl=>M i l*x l:=by
   unfold prodF;rw[← QU];exact Qp λl hl=>by rw[F3 l hl,ZN]
  rw[this];exact F2 i hi)
 have F6:∀i j,i<=last->j<n->w∣prodF n T Q i j-c*part*prodF n T S1 i j:=λi j hi hj=>by
  have e:prodF n T Q i j-c*part*prodF n T S1 i j=Qq n λl=>T i l*(Q l j-c*part*S1 l j):=by
   unfold prodF;rw[← QU,← Qlv];exact Qp λl _=>by rw[Zci,ZN (c*part)]
  rw[e];refine Qif λl hl=>?_;by_cases z:l<=last
  ·refine Int.dvd_mul_of_dvd_right ?_;have a1:=i2 l j ⋯ hj;have a2:w∣c*S l j-c*part*S1 l j:=by
    rw[hS l j hl hj,← Zx,← Zci,ew];exact Int.mul_dvd_mul_left _ (h1 l j hl hj)
   have:=ZaJ a1 a2;rwa[show Q l j-c*S l j+(c*S l j-c*part*S1 l j)=Q l j-c*part*S1 l j by omega]at this
  ·rw[sp.tu i l hi ⋯ hl,ZG];exact Int.dvd_zero _
 refine⟨⋯,QbD.prod h.u1 sp.u2,QbD.prod sp.u1 h.u2,L0',ew.symm,λi j hi hin hj=>?_,λi j hi hj=>?_,λi j hi hj=>?_,λj hj=>?_,λj hj hjn=>?_,λi j hj hjn hi=>?_,λi j hj hjn hi=>?_,λj hj hjn=>?_,λ_=>by rw[if_pos rfl]⟩
 ·by_cases z:i=last
  ·show(if i=last then 0 else _)=(0:Int);rw[if_pos z]
  ·show(if i=last then 0 else prodF n T S1 i j)=0;rw[if_neg z,Qax (a':=idF) (b':=S1) (λl hl=>sp.tl i l ⋯ hin hl) (λ_ _=>rfl),QcD _ _ hin];exact hz i j ⋯ hin hj
 ·rw[aM];have e1:prodF n (prodF n M B) (λi j=>if i=last then 0 else prodF n T S1 i j) i j=prodF n (prodF n M B) (prodF n T S1) i j-prodF n M B i last*prodF n T S1 last j:=by
   have s1:prodF n (prodF n M B) (prodF n T S1) i j=Qq n (λl=>prodF n M B i l*(if l=last then 0 else prodF n T S1 l j))+Qq n (λl=>(if l=last then prodF n M B i last*prodF n T S1 last j else 0)*1):=by
    rw[← QaP];show(Qq n λl=>prodF n M B i l*prodF n T S1 l j)=_;exact Qp λl _=>by
     by_cases z:l=last
     ·subst z;rw[if_pos rfl,if_pos rfl];omega
     ·rw[if_neg z,if_neg z];omega
   rw[s1,QaI hn _ λ_=>1];show(Qq n λl=>prodF n M B i l*(if l=last then 0 else prodF n T S1 l j))=_;omega
  rw[e1,← QaZ];refine Zbl ?_ (Zaz (F5 i hi));rw[Qax (a':=M) (b':=S1) (λl hl=>?_) (λ_ _=>rfl)]
  ·exact F1 i j hi hj
  ·rw[QaZ,Qax (a':=M) (b':=idF) (λ_ _=>rfl) (λm hm=>sp.u2 m l hm hl),Qik _ _ hl]
 ·rw[aQ,if_neg ⋯];exact F6 i j ⋯ hj
 ·rw[if_neg ⋯];exact h.one j ⋯
 ·by_cases z:j=last
  ·rw[if_pos z];exact L0'
  ·rw[if_neg z];exact h.pos j ⋯ hjn
 ·rw[aM];by_cases z:j=last
  ·rw[if_pos z,z];exact F5 i hi
  ·rw[if_neg z,Qax (a':=M) (b':=idF) (λ_ _=>rfl) (λl hl=>sp.bl l j hl ⋯ hjn),Qik _ _ hjn];exact col i j ⋯ hjn hi
 ·rw[aQ];by_cases z:j=last
  ·rw[if_pos z,z];have a1:w∣L'*(prodF n T Q last i-c*part*prodF n T S1 last i):=Int.dvd_mul_of_dvd_right (F6 last i (Zj _) hi);have a2:w∣L'*(c*part*prodF n T S1 last i):=by rw[ew];exact⟨prodF n T S1 last i,by rw[← Zx,ZP L']⟩
   have:=ZaJ a1 a2;rwa[← Zay,ZaE]at this
  ·rw[if_neg z,Qax (a':=idF) (b':=Q) (λl hl=>sp.tl j l ⋯ hjn hl) (λ_ _=>rfl),QcD _ _ hjn];exact row i j ⋯ hjn hi
 ·by_cases z:j=last
  ·rw[if_pos z,if_neg ⋯,z,h.top ⋯,eL];exact Int.dvd_mul_left _ _
  ·rw[if_neg z,if_neg ⋯];exact h.nxt j ⋯ hjn
theorem QkR(h:i.natAbs<2^k)(hk:k<=2^20):QaM i:=Zo (Zbk h) hk
noncomputable def QoT(Qa0:Den):DS:=(Qd (QC (QG (Qa7 vv0) (.nm 1) [none,none,some 0] QO (Qf 2 Qa0 [] (Qa vv2 (Qa vv1 Qc))))) Qh)
def Qho(d:Den):Prop:=∀n:Nat,n<=1000->d [.int n]=some (Qe n n idF,true)
theorem QwV(hu:Qjr du):Qho (Qu 1 (QoT du)):=λn hn=>by
 have e:Qe n n idF=Qe n n λi j=>if j=i then 1 else 0:=by
  unfold Qe;refine congrArg D.lst (ZI λi _=>QeS λj _=>?_);show idF i j=if j=i then 1 else 0;unfold idF;by_cases z:i=j
  ·rw[if_pos z,if_pos z.symm]
  ·rw[if_neg z,if_neg (Ne.symm z)]
 rw[e];exact QN (Qy (QE (List.range n) (Qbl rfl rfl ⋯) rfl λi _=>⟨[none,slI i,slI n],rfl,reT (Qb n λj=>if j=i then 1 else 0),Qi rfl (hu n i hn) rfl,rfl,rfl⟩) ⟨rfl,rfl⟩)
noncomputable def Qzi:DS:=(Qd (QC (QG (Qaq vv1 vv3) (.tp [1,2]) [none,none,none,some 0,some 2] QO (QL (QY vv3 vv1) (QY vv4 vv2)))) Qh)
def QjR(d:Den):Prop:=∀(n:Nat) (p q:Int) (a b:Mt1),QaM p->QaM q->(∀i,i<n->QaM (a i)/\QaM (b i))->d [.int p,Qb n a,.int q,Qb n b]=some (Qb n λi=>p*a i+q*b i,true)
theorem Qw6:QjR (Qu 4 Qzi):=λn p q a b hp hq hb=>
 QN (Qy (QE (List.range n) (Qa5 rfl rfl rfl rfl) rfl λi hi=>⟨[none,slI (a i),slI (b i),slI p,slI q],rfl,reI (p*a i+q*b i),Q9 (Q8 rfl rfl rfl rfl (QdT hp (hb i (Zg.mp hi)).1)) rfl (Q8 rfl rfl rfl rfl (QdT hq (hb i (Zg.mp hi)).2)) rfl,rfl,rfl⟩) ⟨rfl,rfl⟩)
noncomputable def Qcl(r x y:Int):Nat->Int
 | 0=>r
 | 1=>x
 | _=>y
theorem QnO(h1:r.natAbs<2^2000)(h2:x.natAbs<2^2000)(h3:y.natAbs<2^2000):∀i,QaM (Qcl r x y i)
 | 0=>QbA h1
 | 1=>QbA h2
 | _+2=>QbA h3
noncomputable def QiQ(Qdk:Den):DS:=(Qd (Qo 2 (QX (Qa vv0 (Qa kk1 (Qa kk0 Qc))))) (Qd (Qo 3 (QX (Qa vv1 (Qa kk0 (Qa kk1 Qc))))) (Qd (Qcs (QF (dOp gNe (Qm vv3 kk0) kk0)) (Qd (Qo 4 (Qf 4 Qdk [] (Qa kk1 (Qa vv2 (Qa (dOp QaL kk0 (dOp Qbb (Qm vv2 kk0) (Qm vv3 kk0))) (Qa vv3 Qc)))))) (Qd (Qo 2 (Qal vv3)) (Qd (Qo 3 (Qal vv4)) Qh)))) (Qd (QC (QsH (Qa vv2 Qc))) Qh))))
structure Wgh (a b R0 R1:Nat) (x0 y0 x1 y1:Int):Prop where
 e0:(R0:Int)=x0*a+y0*b
 e1:(R1:Int)=x1*a+y1*b
 dv:∀t:Nat,(t∣R0/\t∣R1)↔(t∣a/\t∣b)
 l0:R0<2^2000
 l1:R1<2^2000
 bx:x1.natAbs*R0+x0.natAbs*R1<=b
 by':y1.natAbs*R0+y0.natAbs*R1<=a
 x0l:x0.natAbs<=b+1
 x1l:x1.natAbs<=b+1
 y0l:y0.natAbs<=a+1
 y1l:y1.natAbs<=a+1
theorem Qq8{p0 p1:Int}{q R0 R1 R2 c:Nat}(e:q*R1+R2=R0)(h:p1.natAbs*R0+p0.natAbs*R1<=c):(1*p0+(0-(q:Int))*p1).natAbs*R1+p1.natAbs*R2<=c:=by
 have h1:(1*p0+(0-(q:Int))*p1).natAbs<=p0.natAbs+q*p1.natAbs:=by
  have:=Zbu (1*p0) ((0-(q:Int))*p1);rw[ZT,Zan,Zau,Int.natAbs_neg,Zak,Int.natAbs_natCast]at this;rw[ZT,Zan,Zau];exact this
 have h2:=ZbD R1 h1;have h3:(p0.natAbs+q*p1.natAbs)*R1+p1.natAbs*R2=p1.natAbs*R0+p0.natAbs*R1:=by
  rw[← e,Nat.add_mul,Nat.mul_add];have:q*p1.natAbs*R1=p1.natAbs*(q*R1):=by rw[ZaS q,Nat.mul_assoc]
  omega
 omega
theorem Wgh.step{a b R0 R1:Nat}{x0 y0 x1 y1:Int}(h:Wgh a b R0 R1 x0 y0 x1 y1)(hr:R1≠0):Wgh a b R1 (R0 % R1) x1 y1 (1*x0+(0-((R0 / R1:Nat):Int))*x1) (1*y0+(0-((R0 / R1:Nat):Int))*y1):=by
 have e:R0 / R1*R1+R0 % R1=R0:=by rw[ZaS];exact Nat.div_add_mod R0 R1
 have bx:=Qq8 e h.bx;have by':=Qq8 e h.by'
 have r1:1<=R1:= ⋯
 refine⟨h.e1,?_,λt=>?_,h.l1,Zp (Nat.mod_lt _ ⋯) (Zbc h.l1),bx,by',h.x1l,?_,h.y1l,?_⟩
 ·have e':((R0 / R1:Nat):Int)*R1+((R0 % R1:Nat):Int)=R0:=by rw[← Zaj,← ZaY,e]
  have h0:=h.e0;have h1:=h.e1;generalize ((R0 / R1:Nat):Int)=q at *;generalize ((R0 % R1:Nat):Int)=z at *
  grind
 ·rw[← h.dv t];constructor
  ·rintro⟨h1,h2⟩;exact⟨(Nat.dvd_mod_iff h1).mp h2,h1⟩
  ·rintro⟨h1,h2⟩;exact⟨h2,(Nat.dvd_mod_iff h2).mpr h1⟩
 ·have:=Nat.mul_le_mul_left (1*x0+(0-((R0 / R1:Nat):Int))*x1).natAbs r1;omega
 ·have:=Nat.mul_le_mul_left (1*y0+(0-((R0 / R1:Nat):Int))*y1).natAbs r1;omega
def Qnn(d:Den):Prop:=∀a b:Nat,a<2^1999->b<2^1999->∃(g:Nat) (x y:Int),d [.int a,.int b]=some (.tup [.int g,.int x,.int y],true)/\(g:Int)=x*a+y*b/\g∣a/\g∣b/\x.natAbs<=2^1999/\y.natAbs<=2^1999
theorem Qv0(ha:QjR da):Qnn (Qu 5 (QiQ da)):=λa b la lb=>by
 have p:(2:Nat)^2000=2*2^1999:=by rw[Zca,ZaS]
 have key:Run (QiQ da) [slI a,slI b,none,none,none] λo=>match o with | .rt d fr=>fr=true/\∃(g:Nat) (x y:Int),d= .tup [.int g,.int x,.int y]/\(g:Int)=x*a+y*b/\g∣a/\g∣b/\x.natAbs<=2^1999/\y.natAbs<=2^1999 | _=>False:=by
  refine rsa (d:=Qb 3 (Qcl a 1 0)) rfl ?_;refine rsa (d:=Qb 3 (Qcl b 0 1)) rfl ?_;refine QbO (P:=λU=>∃(g:Nat) (x y z u:Int) (b2:Bool) (j3 j4:Option (D×Bool)),Wgh a b g 0 x y z u/\U=[slI a,slI b,some (Qb 3 (Qcl g x y),b2),j3,j4]) ?_ ?_
  ·refine Qgx (λn U=>∃(R0 R1:Nat) (x0 y0 x1 y1:Int) (b2 b3:Bool) (j4:Option (D×Bool)),R1=n/\Wgh a b R0 R1 x0 y0 x1 y1/\U=[slI a,slI b,some (Qb 3 (Qcl R0 x0 y0),b2),some (Qb 3 (Qcl R1 x1 y1),b3),j4]) ?_ b _ ⟨a,b,1,0,0,1,true,true,none,rfl,⟨⋯,⋯,λt=>Iff.rfl,⋯,⋯,by simp,by simp,by simp,by simp,by simp,by simp⟩,rfl⟩;rintro n U ⟨R0,R1,x0,y0,x1,y1,b2,b3,j4,rfl,W,rfl⟩;obtain⟨r2,v2,d2⟩:∃r:HS.R,Ql 2 [slI a,slI b,some (Qb 3 (Qcl R0 x0 y0),b2),some (Qb 3 (Qcl R1 x1 y1),b3),j4]=some r/\r.d=Qb 3 (Qcl R0 x0 y0):=by cases b2<;>exact⟨_,rfl,rfl⟩
   obtain⟨r3,v3,d3⟩:∃r:HS.R,Ql 3 [slI a,slI b,some (Qb 3 (Qcl R0 x0 y0),b2),some (Qb 3 (Qcl R1 x1 y1),b3),j4]=some r/\r.d=Qb 3 (Qcl R1 x1 y1):=by cases b3<;>exact⟨_,rfl,rfl⟩
   refine⟨!decide ((R1:Int)=0),QQ (Qc4 (Qa2 v3 d3 rfl rfl (by decide)) rfl rfl rfl) rfl,λh=>?_,λh=>?_⟩
   ·have hr:R1=0:=by
     have:(R1:Int)=0:=by simpa using h
     omega
    subst hr;exact⟨R0,x0,y0,x1,y1,b2,_,_,W,rfl⟩
   ·have hr:R1≠0:=by
     have:¬(R1:Int)=0:=by simpa using h
     omega
    have hq:(R0 / R1)<2^2000:=ZV (Nat.div_le_self R0 R1) W.l0;have x0l:=W.x0l;have x1l:=W.x1l;have y0l:=W.y0l;have y1l:=W.y1l;have W':=W.step hr;have er:(Qb 3 λi=>1*Qcl R0 x0 y0 i+(0-((R0 / R1:Nat):Int))*Qcl R1 x1 y1 i)=Qb 3 (Qcl ((R0 % R1:Nat):Int) (1*x0+(0-((R0 / R1:Nat):Int))*x1) (1*y0+(0-((R0 / R1:Nat):Int))*y1)):=QeS λi hi=>by
     match i,hi with
     | 0,_=>
      show 1*(R0:Int)+(0-((R0 / R1:Nat):Int))*R1=((R0 % R1:Nat):Int);have e:R0 / R1*R1+R0 % R1=R0:=by rw[ZaS];exact Nat.div_add_mod R0 R1
      have e':((R0 / R1:Nat):Int)*R1+((R0 % R1:Nat):Int)=R0:=by rw[← Zaj,← ZaY,e]
      generalize ((R0 / R1:Nat):Int)=q at *;generalize ((R0 % R1:Nat):Int)=z at *
      grind
     | 1,_=>rfl
     | 2,_=>rfl
    have ec:=ha 3 1 (0-((R0 / R1:Nat):Int)) (Qcl R0 x0 y0) (Qcl R1 x1 y1) (QbA (by decide)) (QbA (by rw[Zan,Int.natAbs_neg,Int.natAbs_natCast];exact hq)) λi _=>⟨QnO (by have:=W.l0;omega) ⋯ ⋯ i,QnO (by have:=W.l1;omega) ⋯ ⋯ i⟩;rw[er]at ec;refine rsa (Qi (r:=⟨[.int 1,Qb 3 (Qcl R0 x0 y0),.int (0-((R0 / R1:Nat):Int)),Qb 3 (Qcl R1 x1 y1)],_,_⟩) ((Qn rfl (Qn v2 (Qn (Qf4 (b:=((R0 / R1:Nat):Int)) rfl rfl (QmC (b:=R1) (Qa2 v2 d2 rfl rfl (by decide)) rfl (Qa2 v3 d3 rfl rfl (by decide)) rfl ⋯ (by have:=W.l1;omega)) rfl) (Qn v3 (QP _))))).trans (by rw[d2,d3])) ec rfl) ?_;generalize hnf:Qcl ((R0 % R1:Nat):Int) (1*x0+(0-((R0 / R1:Nat):Int))*x1) (1*y0+(0-((R0 / R1:Nat):Int))*y1)=nf at ec er ⊢;cases b3
    ·refine run_seq (QA (Qbk rfl) ?_);refine run_seq (QA (Qbk rfl) (Qj ?_));refine⟨R0 % R1,Nat.mod_lt _ ⋯,R1,R0 % R1,x1,y1,_,_,false,false,slF (Qb 3 nf),rfl,W',?_⟩;rw[hnf];rfl
    ·refine run_seq (QA (Qbk rfl) ?_);refine run_seq (QA (Qbk rfl) (Qj ?_));refine⟨R0 % R1,Nat.mod_lt _ ⋯,R1,R0 % R1,x1,y1,_,_,false,false,slF (Qb 3 nf),rfl,W',?_⟩;rw[hnf];rfl
  ·rintro U ⟨g,x,y,z,u,b2,j3,j4,W,rfl⟩;have hd:=(W.dv g).mp ⟨Nat.dvd_refl g,Nat.dvd_zero g⟩;have x0l:=W.x0l;have y0l:=W.y0l;refine Qv (Qa6 (by cases b2<;>rfl) ⟨rfl,g,x,y,rfl,W.e0,hd.1,hd.2,⋯,⋯⟩)
 obtain⟨o,h1,h2⟩:=key;cases o with
 | rt d fr=>
  obtain⟨rfl,g,x,y,rfl,h⟩:=h2;exact⟨g,x,y,by show Option.bind (QiQ da [slI a,slI b,none,none,none]) outD=_;rw[h1];rfl,h⟩
 | _=>exact h2.elim
noncomputable def QgQ(T:Mt2)(l a:Nat)(p q r s:Int):Nat->Nat->Int:=Qda T l (λj=>p*T l j+q*T a j) a λj=>r*T l j+s*T a j
noncomputable def QeL(B:Mt2)(l a:Nat)(p q r s:Int):Nat->Nat->Int:=λi j=>if j=a then(0-q)*B i l+p*B i a else if j=l then s*B i l+(0-r)*B i a else B i j
theorem QiS(j:Nat):QgQ T l a p q r s a j=r*T l j+s*T a j:=by unfold QgQ Qda;rw[if_pos rfl]
theorem QiP(h:l≠a)(j:Nat):QgQ T l a p q r s l j=p*T l j+q*T a j:=by unfold QgQ Qda;rw[if_neg h,if_pos rfl]
theorem Qgr(h1:i≠a)(h2:i≠l)(j:Nat):QgQ T l a p q r s i j=T i j:=by unfold QgQ Qda;rw[if_neg h1,if_neg h2]
theorem Qp3(i:Nat):QeL B l a p q r s i a=(0-q)*B i l+p*B i a:=by unfold QeL;rw[if_pos rfl]
theorem Qqj(h:l≠a)(i:Nat):QeL B l a p q r s i l=s*B i l+(0-r)*B i a:=by unfold QeL;rw[if_neg h,if_pos rfl]
theorem QlG(h1:j≠a)(h2:j≠l)(i:Nat):QeL B l a p q r s i j=B i j:=by unfold QeL;rw[if_neg h1,if_neg h2]
theorem QrH(n:Nat)(α β:Int)(f g:Mt1):(Qq n λk=>α*f k+β*g k)=α*Qq n f+β*Qq n g:=by rw[QaP,QU,QU]
theorem QhQ(n:Nat)(α β:Int)(f g h:Mt1):(Qq n λk=>(α*f k+β*g k)*h k)=α*(Qq n λk=>f k*h k)+β*Qq n λk=>g k*h k:=by
 rw[← QrH];exact Qp λk _=>by rw[Zac,Zx,Zx]
theorem Qn8(n:Nat)(α β:Int)(f g h:Mt1):(Qq n λk=>h k*(α*f k+β*g k))=α*(Qq n λk=>h k*f k)+β*Qq n λk=>h k*g k:=by
 rw[← QrH];exact Qp λk _=>by rw[Zay,ZN,ZN (h k)]
theorem Qx8(hl:l<n)(ha:a<n)(hla:l≠a)(hd:p*s-q*r=1)(u1:QbD n T B)(u2:QbD n B T):
  QbD n (QgQ T l a p q r s) (QeL B l a p q r s)/\QbD n (QeL B l a p q r s) (QgQ T l a p q r s):=by
 constructor
 ·intro i j hi hj;have two:∀c d:Nat,c<n->d<n->(Qq n λk=>T c k*B k d)=idF c d:=λc d hc hd=>u1 c d hc hd;have right:∀c,c<n->(Qq n λk=>T c k*QeL B l a p q r s k j)=if j=a then(0-q)*idF c l+p*idF c a else if j=l then s*idF c l+(0-r)*idF c a else idF c j:=λc hc=>by
   by_cases ja:j=a
   ·subst ja;rw[if_pos rfl,Qp λk _=>by rw[Qp3],Qn8,two c l hc hl,two c j hc hj]
   ·by_cases jl:j=l
    ·subst jl;rw[if_neg ja,if_pos rfl,Qp λk _=>by rw[Qqj hla],Qn8,two c j hc hj,two c a hc ha]
    ·rw[if_neg ja,if_neg jl,Qp λk _=>by rw[QlG ja jl],two c j hc hj]
  have ll:idF l l=1:=by unfold idF;rw[if_pos rfl]
  have aa:idF a a=1:=by unfold idF;rw[if_pos rfl]
  have la:idF l a=0:=by unfold idF;rw[if_neg hla]
  have al:idF a l=0:=by unfold idF;rw[if_neg (Ne.symm hla)]
  have ne:∀c d:Nat,c≠d->idF c d=0:=λc d h=>by unfold idF;rw[if_neg h]
  show(Qq n λk=>QgQ T l a p q r s i k*QeL B l a p q r s k j)=idF i j;by_cases ia:i=a
  ·subst ia;rw[Qp λk _=>by rw[QiS],QhQ,right l hl,right i hi];by_cases ja:j=i
   ·subst ja;rw[if_pos rfl,if_pos rfl,ll,la,al,aa];grind
   ·rw[if_neg ja,if_neg ja];by_cases jl:j=l
    ·subst jl;rw[if_pos rfl,if_pos rfl,ll,la,al,aa];grind
    ·rw[if_neg jl,if_neg jl,ne l j (Ne.symm jl),ne i j (Ne.symm ja)];omega
  ·by_cases il:i=l
   ·subst il;rw[Qp λk _=>by rw[QiP hla],QhQ,right i hi,right a ha];by_cases ja:j=a
    ·subst ja;rw[if_pos rfl,if_pos rfl,ll,la,al,aa];grind
    ·rw[if_neg ja,if_neg ja];by_cases jl:j=i
     ·subst jl;rw[if_pos rfl,if_pos rfl,ll,la,al,aa];grind
     ·rw[if_neg jl,if_neg jl,ne i j (Ne.symm jl),ne a j (Ne.symm ja)];omega
   ·rw[Qp λk _=>by rw[Qgr ia il],right i hi,ne i l il,ne i a ia];by_cases ja:j=a
    ·subst ja;rw[if_pos rfl,ne i j ia];omega
    ·rw[if_neg ja];by_cases jl:j=l
     ·subst jl;rw[if_pos rfl,ne i j il];omega
     ·rw[if_neg jl]
 ·intro i j hi hj;rw[← u2 i j hi hj];refine QwI hl ha hla (λk _ k1 k2=>by rw[QlG k2 k1,Qgr k2 k1]) ?_;rw[Qqj hla,Qp3,QiP hla,QiS];generalize B i l=bl;generalize B i a=ba;generalize T l j=tl;generalize T a j=ta
  grind
structure Qfi (n last at':Nat) (x:Mt1) (T B:Mt2) (wh:Nat):Prop where
 u1:QbD n T B
 u2:QbD n B T
 tl:∀i j,last<i->i<n->j<n->T i j=idF i j
 tu:∀i j,i<=last->last<j->j<n->T i j=0
 bl:∀i j,i<n->last<j->j<n->B i j=idF i j
 un:∀i j,at'<=i->i<last->j<n->T i j=idF i j
 h0:∀i,i<at'->(Qq n λj=>T i j*x j)=0
 hl:(Qq n λj=>T last j*x j)=wh
 wl:wh<2^1999
 bT:∀i j,i<n->j<n->(T i j).natAbs<=2^(2000*at')
 bB:∀i j,i<n->j<n->(B i j).natAbs<=2^(2000*at')
theorem Qse{p q a b:Int}{k:Nat}(hp:p.natAbs<=2^1999)(hq:q.natAbs<=2^1999)(ha:a.natAbs<=2^(2000*k))(hb:b.natAbs<=2^(2000*k)):(p*a+q*b).natAbs<=2^(2000*(k+1)):=by
 have h1:=Zbu (p*a) (q*b);rw[Zak,Zak]at h1;have h2:=ZaW hp ha;have h3:=ZaW hq hb;have h4:(2:Nat)^(2000*(k+1))=2*(2^1999*2^(2000*k)):=by
  rw[← Nat.pow_add,← Nat.pow_succ'];congr 1;omega
 omega
theorem Qfi.skip(h:Qfi n last at' x T B wh)(hl:last<n)(ha:at'<last)(hx:x at'=0):Qfi n last (at'+1) x T B wh:=by
 have up:(2:Nat)^(2000*at')<=2^(2000*(at'+1)):=Zr (by decide) ⋯;refine⟨h.u1,h.u2,h.tl,h.tu,h.bl,λi j h1 h2=>h.un i j ⋯ h2,λi hi=>?_,h.hl,h.wl,λi j hi hj=>Zo (h.bT i j hi hj) up,λi j hi hj=>Zo (h.bB i j hi hj) up⟩;by_cases e:i=at'
 ·subst e;rw[QcE (a:=i) ⋯ λj hj ne=>by rw[h.un i j (Zj _) ha hj];unfold idF;rw[if_neg (Ne.symm ne),ZG],hx,ZJ]
 ·exact h.h0 i ⋯
theorem Qfi.step(h:Qfi n last at' x T B wh)(hl:last<n)(ha:at'<last)(g0:g≠0)(hw:wh=g*one)(hx:x at'=(g*other:Nat))(hxl:g*other<2^1999)(hg:(g:Int)=p*wh+q*x at')
  (pl:p.natAbs<=2^1999) (ql:q.natAbs<=2^1999):Qfi n last (at'+1) x (QgQ T last at' p q (0-(other:Int)) one) (QeL B last at' p q (0-(other:Int)) one) g:=by
 have hla:last≠at':= ⋯
 have an:at'<n:= ⋯
 have g0':(g:Int)≠0:= ⋯
 have onel:one<2^1999:=by
  have:=h.wl;have:one<=g*one:=Nat.le_mul_of_pos_left one ⋯;omega
 have otherl:other<2^1999:=by
  have:other<=g*other:=Nat.le_mul_of_pos_left other ⋯;omega
 have gl:g<2^1999∨one=0:=by
  by_cases z:one=0
  ·exact .inr z
  ·have:=h.wl;have:g<=g*one:=Zbm g ⋯;exact .inl ⋯
 have hd:p*one-q*(0-(other:Int))=1:=by
  rw[hw,hx,Zaj,Zaj]at hg;have:(g:Int)*(p*one-q*(0-(other:Int)))=g*1:=by grind
  exact Zaa g0' this
 have gl:g<2^1999:=by
  rcases gl with z | z
  ·exact z
  ·rw[z]at hd;have:other≠0:=λz=>by rw[z]at hd;simp at hd
   have:g<=g*other:=Zbm g ⋯;omega
 obtain⟨v1,v2⟩:=Qx8 hl an hla hd h.u1 h.u2;have tA:∀j,j<n->T at' j=idF at' j:=λj hj=>h.un at' j (Zj _) ha hj;have hA:(Qq n λj=>T at' j*x j)=x at':=by
  rw[QcE an λj hj ne=>by rw[tA j hj];unfold idF;rw[if_neg (Ne.symm ne),ZG],tA at' an];unfold idF;rw[if_pos rfl,ZT]
 have ol:(0-(other:Int)).natAbs<=2^1999:=by rw[Zan,Int.natAbs_neg,Int.natAbs_natCast];omega
 have ol':(0-(0-(other:Int))).natAbs<=2^1999:=by rw[Zan,Int.natAbs_neg];exact ol
 have ql':(0-q).natAbs<=2^1999:=by rw[Zan,Int.natAbs_neg];exact ql
 have oneb:(one:Int).natAbs<=2^1999:=by rw[Int.natAbs_natCast];omega
 have up:(2:Nat)^(2000*at')<=2^(2000*(at'+1)):=Zr (by decide) ⋯;refine⟨v1,v2,λi j h1 h2 h3=>by rw[Qgr ⋯ ⋯];exact h.tl i j h1 h2 h3,λi j h1 h2 h3=>?_,λi j h1 h2 h3=>by rw[QlG ⋯ ⋯];exact h.bl i j h1 h2 h3,λi j h1 h2 h3=>by rw[Qgr ⋯ ⋯];exact h.un i j ⋯ h2 h3,λi hi=>?_,?_,gl,λi j hi hj=>?_,λi j hi hj=>?_⟩
 ·by_cases e1:i=at'
  ·subst e1;rw[QiS,h.tu last j (Zj _) h2 h3,h.tu i j ⋯ h2 h3];omega
  ·by_cases e2:i=last
   ·subst e2;rw[QiP hla,h.tu i j (Zj _) h2 h3,h.tu at' j ⋯ h2 h3];omega
   ·rw[Qgr e1 e2];exact h.tu i j h1 h2 h3
 ·by_cases e1:i=at'
  ·subst e1;rw[Qp λj _=>by rw[QiS],QhQ,h.hl,hA,hw,hx,Zaj,Zaj]
   grind
  ·rw[Qp λj _=>by rw[Qgr e1 ⋯]];exact h.h0 i ⋯
 ·rw[Qp λj _=>by rw[QiP hla],QhQ,h.hl,hA];exact hg.symm
 ·by_cases e1:i=at'
  ·subst e1;rw[QiS];exact Qse ol oneb (h.bT last j hl hj) (h.bT i j hi hj)
  ·by_cases e2:i=last
   ·subst e2;rw[QiP hla];exact Qse pl ql (h.bT i j hi hj) (h.bT at' j an hj)
   ·rw[Qgr e1 e2];exact Zo (h.bT i j hi hj) up
 ·by_cases e1:j=at'
  ·subst e1;rw[Qp3];exact Qse ql' pl (h.bB i last hi hl) (h.bB i j hi hj)
  ·by_cases e2:j=last
   ·subst e2;rw[Qqj hla];exact Qse oneb ol' (h.bB i j hi hj) (h.bB i at' hi an)
   ·rw[QlG e1 e2];exact Zo (h.bB i j hi hj) up
theorem Qfi.start{n last:Nat}{x:Mt1}(hl:last<n){wh:Nat}(hw:x last=wh)(wl:wh<2^1999):Qfi n last 0 x idF idF wh:=by
 have u:QbD n idF idF:=λi j hi hj=>QcD _ _ hi;have b1:∀i j,(idF i j).natAbs<=2^(2000*0):=λi j=>by unfold idF;split<;>decide
 refine⟨u,u,λ_ _ _ _ _=>rfl,λi j h1 h2 _=>by unfold idF;rw[if_neg ⋯],λ_ _ _ _ _=>rfl,λ_ _ _ _ _=>rfl,λi hi=> ⋯,?_,wl,λi j _ _=>b1 i j,λi j _ _=>b1 i j⟩;rw[QcE hl λj _ ne=>by unfold idF;rw[if_neg (Ne.symm ne),ZG]];unfold idF;rw[if_pos rfl,ZT];exact hw
theorem Qfi.tell(h:Qfi n last last x T B wh):Qov n last x T B wh:=⟨h.u1,h.u2,h.tl,h.tu,h.bl,λi hi=>by
 by_cases e:i=last
 ·rw[if_pos e,e];exact h.hl
 ·rw[if_neg e];exact h.h0 i ⋯⟩
theorem Qib{n N i:Nat}{f:Mt2}(h:i<n):((List.range n).map λi=>Qb N (f i))[i]? =some (Qb N (f i)):=by
 rw[Zs,ZK h];rfl
theorem QyC{i k:Nat}(ht:U[t]? =some (slT (Qe n n T)))(hb:U[b]? =some (slT (Qe n n B)))(h1:t≠b)(h2:ln≠t)(h3:ln≠b)(h4:ln<U.length)
  (ei:fi U=some (reI i)) (ek:fk U=some (reI k)) (hi:i<n) (hk:k<n) (e1:(((U.set t none).set b none).set ln none).set ln (slF (.tup [Qb n (T i),Qb n (T k),Qb n (B i),Qb n (B k)]))=U1)
  (ei':fi U1=some (reI i)) (ek':fk U1=some (reI k)) (c1:g1 U1=some (reT (Qb n a1))) (c2:g2 U1=some (reT (Qb n a2))) (c3:g3 U1=some (reT (Qb n a3))) (c4:g4 U1=some (reT (Qb n a4)))
  (q:Q (.nx (((((U.set t none).set b none).set ln none).set t (slT (Qe n n (Qda T i a1 k a2)))).set b (slT (Qe n n (Qda B i a3 k a4)))))):Run (Qi9 t b ln fi fk g1 g2 g3 g4) U Q:=by
 refine⟨_,?_,q⟩;unfold Qi9;rw[ht,hb];simp only[Qe];rw[if_pos ⟨h1,h2,h3,h4⟩,ei,Za,ek,Za];simp only[Zq,ZC];rw[Qct (show(0:Int)<=i by omega) ⋯,Qct (show(0:Int)<=k by omega) ⋯];simp only[Za,ZQ];rw[Qib hi,Qib hk,Qib hi,Qib hk];simp only[Za];rw[show(QhO t b ln U).set ln (Qpz (Qb n (T i)) (Qb n (T k)) (Qb n (B i)) (Qb n (B k)))=U1 from e1];unfold QjB;rw[ei',Za,ek',Za,c1,Za,c2,Za,c3,Za,c4,Za];have o0:∀a:Nat->Int,Qfw (HS.R.mk (Qb n a) true [])=true:=λa=>rfl;simp only[o0,and_self,if_true];rw[QeJ hi,QeJ hk,QeJ hi,QeJ hk];rfl
noncomputable def QeN(QaV:Den)(QgD:Den)(Qdk:Den)(Q5:Den):DS:=(Qd (Qo 2 (Qf 1 QaV [] (Qa (dBf Qa3 (Qa vv0 Qc)) Qc))) (Qd (Qo 3 (Qf 1 QaV [] (Qa (dBf Qa3 (Qa vv0 Qc)) Qc))) (Qd (Qo 4 (Qal (Qm vv0 vv1))) (Qd (QaW (Qa7 vv1) (.nm 5) (Qd (Qo 6 (Qf 2 QgD [] (Qa vv4 (Qa (Qm vv0 vv5) Qc)))) (Qd (sIf (QF (dOp gEq (Qm vv6 kk0) kk0)) (Qd QrW Qh) Qh) (Qd (Qo 7 (dOp Qbb vv4 (Qm vv6 kk0))) (Qd (Qo 8 (dOp Qbb (Qm vv0 vv5) (Qm vv6 kk0))) (Qd (Qi9 2 3 9 vv1 vv5 (Qf 4 Qdk [] (Qa (Qm vv6 kk1) (Qa (Qm vv9 kk0) (Qa (Qm vv6 kk2) (Qa (Qm vv9 kk1) Qc))))) (Qf 4 Qdk [] (Qa (dOp QaL kk0 vv8) (Qa (Qm vv9 kk0) (Qa vv7 (Qa (Qm vv9 kk1) Qc))))) (Qf 4 Qdk [] (Qa vv7 (Qa (Qm vv9 kk2) (Qa vv8 (Qa (Qm vv9 kk3) Qc))))) (Qf 4 Qdk [] (Qa (dOp QaL kk0 (Qm vv6 kk2)) (Qa (Qm vv9 kk2) (Qa (Qm vv6 kk1) (Qa (Qm vv9 kk3) Qc)))))) (Qd (Qo 4 (Qal (Qm vv6 kk0))) Qh))))))) (Qd (QC (Qar (Qa vv2 (Qa (Qf 1 Q5 [] (Qa vv3 Qc)) Qc)))) Qh)))))
def QmM(d:Den):Prop:=∀(n last:Nat) (x:Mt1),last<n->n<=8->(∀i,i<n->0<=x i/\x i<2^1999)->∃(T B:Mt2) (g:Nat),d [Qb n x,.int last]=some (.tup [Qe n n T,Qe n n B],true)/\Qov n last x T B g/\(∀i j,i<n->j<n->(T i j).natAbs<=2^16000)/\(∀i j,i<n->j<n->(B i j).natAbs<=2^16000)
theorem Qwy(hu:Qho du)(hw:Qnn dw)(ha:QjR da)(ht:QcX dt):QmM (Qu 10 (QeN du dw da dt)):=λn last x hl n8 hx=>by
 obtain⟨X,hX⟩:∃X:Nat->Nat,∀i,i<n->x i=X i:=⟨λi=>(x i).toNat,λi hi=>by have:=(hx i hi).1;show x i=((x i).toNat:Int);omega⟩;have hXl:∀i,i<n->X i<2^1999:=λi hi=>by have:=(hx i hi).2;rw[hX i hi]at this;omega
 have key:Run (QeN du dw da dt) [slF (Qb n x),slI last,none,none,none,none,none,none,none,none] λo=>match o with | .rt d fr=>fr=true/\∃(T B:Mt2) (g:Nat),d= .tup [Qe n n T,Qe n n B]/\Qov n last x T B g/\(∀i j,i<n->j<n->(T i j).natAbs<=2^16000)/\(∀i j,i<n->j<n->(B i j).natAbs<=2^16000) | _=>False:=by
  have elen:∀U:En,U[0]? =some (slF (Qb n x))->dBf Qa3 (Qa (Ql 0) Qc) U=some (reI n):=λU hU=>QrI (QcK hU) rfl;refine rsa (Qi (Qn (elen _ rfl) (QP _)) (hu n ⋯) rfl) ?_;refine rsa (Qi (Qn (elen _ rfl) (QP _)) (hu n ⋯) rfl) ?_;refine run_seq (QA ((Qbk (Qa2 rfl rfl rfl rfl hl)).trans (by rw[hX last hl])) ?_);rw[QdO rfl];have symm:(λi j=>idF j i)=idF:=by
   funext i j;unfold idF;by_cases z:i=j
   ·rw[if_pos z,if_pos z.symm]
   ·rw[if_neg z,if_neg (Ne.symm z)]
  refine Qv (Qav (List.range last) (λat' U=>∃(T B:Mt2) (wh:Nat) (j5 j6 j7 j8 j9:Option (D×Bool)),Qfi n last at' x T B wh/\U=[slF (Qb n x),slI last,slT (Qe n n T),slT (Qe n n (λi j=>B j i)),slI wh,j5,j6,j7,j8,j9]) (Qbl rfl rfl ⋯) rfl ⟨idF,idF,X last,none,none,none,none,none,Qfi.start hl (hX last hl) (hXl last hl),by rw[symm];rfl⟩ ?_ ?_)
  ·rintro k k' U hk ⟨T,B,wh,j5,j6,j7,j8,j9,C,rfl⟩;obtain⟨hkl,rfl⟩:=QeF hk;have kn:k<n:= ⋯
   obtain⟨g,p,q,ew,eg,g1,g2,pl,ql⟩:=hw wh (X k) C.wl (hXl k kn);refine⟨[slF (Qb n x),slI last,slT (Qe n n T),slT (Qe n n (λi j=>B j i)),slI wh,slI k,j6,j7,j8,j9],rfl,?_⟩;refine rsa (Qi (r:=⟨[.int wh,.int (X k)],true,[]⟩) (Qn (r:=reI wh) rfl (Qn ((Qa2 (f:=x) rfl rfl rfl rfl kn).trans (by rw[hX k kn])) (QP _))) ew rfl) ?_;change Run _ [slF (Qb n x),slI last,slT (Qe n n T),slT (Qe n n (λi j=>B j i)),slI wh,slI k,slT (.tup [.int g,.int p,.int q]),j7,j8,j9] _;refine Qv (QB (QQ (Qbu rfl rfl rfl rfl) rfl) (λh=>?_) (λh=>Qj ?_))
   ·have hg:g=0:=by
     have:(g:Int)=0:=of_decide_eq_true h;omega
    subst hg;have hxk:x k=0:=by rw[hX k kn,Nat.eq_zero_of_zero_dvd g2];rfl
    exact Qv ⟨_,rfl,T,B,wh,_,_,_,_,_,C.skip hl hkl hxk,rfl⟩
   have g0:g≠0:=λz=>by
    have:=of_decide_eq_false h;omega
   obtain⟨one,hone⟩:=g1;obtain⟨other,hother⟩:=g2;have gl:g<2^2000:=by
    have p:(2:Nat)^2000=2*2^1999:=by rw[Zca,ZaS]
    have w1:=C.wl;have w2:=hXl k kn;by_cases z:wh=0
    ·by_cases z2:X k=0
     ·rw[z,z2]at eg;simp at eg;omega
     ·have:=Zbi ⋯ (⟨other,hother⟩:g∣X k);omega
    ·have:=Zbi ⋯ (⟨one,hone⟩:g∣wh);omega
   refine rsa (QeG rfl rfl rfl rfl ⋯ (by rw[Int.natAbs_natCast];exact gl) (by rw[hone,Zaj])) ?_;refine rsa (QeG ((Qa2 rfl rfl rfl rfl kn).trans (by rw[hX k kn])) rfl rfl rfl ⋯ (by rw[Int.natAbs_natCast];exact gl) (by rw[hother,Zaj])) ?_;change Run _ [slF (Qb n x),slI last,slT (Qe n n T),slT (Qe n n (λi j=>B j i)),slI wh,slI k,slT (.tup [.int g,.int p,.int q]),slI one,slI other,j9] _;have C':=C.step hl hkl g0 hone (by rw[hX k kn,hother]) (by rw[← hother];exact hXl k kn) (by rw[hX k kn];exact eg) pl ql;have b8:∀z:Int,z.natAbs<=2^(2000*k)->QaM z:=λz hz=>QkR (k:=16001) (by
    have:(2:Nat)^(2000*k)<2^16001:=Nat.pow_lt_pow_right (by decide) ⋯;omega) (by decide)
   have bS:∀z:Int,z.natAbs<=2^1999->QaM z:=λz hz=>QbA (by
    have:(2:Nat)^1999<2^2000:=Nat.pow_lt_pow_right (by decide) (by decide);omega)
   have w1:=C.wl;have onel:(one:Int).natAbs<=2^1999:=by
    rw[Int.natAbs_natCast];have:one<=g*one:=Nat.le_mul_of_pos_left one ⋯;omega
   have otherl:(other:Int).natAbs<=2^1999:=by
    rw[Int.natAbs_natCast];have:other<=g*other:=Nat.le_mul_of_pos_left other ⋯;have:=hXl k kn;omega
   have neg:∀z:Int,z.natAbs<=2^1999->(0-z).natAbs<=2^1999:=λz hz=>by rw[Zan,Int.natAbs_neg];exact hz
   have eb:Qda (λi j=>B j i) last (λj=>(one:Int)*B j last+(other:Int)*B j k) k (λj=>(0-q)*B j last+p*B j k)=λi j=>QeL B last k p q (0-(other:Int)) one j i:=by
    funext i j;unfold Qda QeL;by_cases e1:i=k
    ·rw[if_pos e1,if_pos e1]
    ·rw[if_neg e1,if_neg e1];by_cases e2:i=last
     ·rw[if_pos e2,if_pos e2,show(0-(0-(other:Int)))=other by omega]
     ·rw[if_neg e2,if_neg e2]
   refine run_seq (QyC
    rfl rfl (by decide) (by decide) (by decide) (show 9<10 by decide) rfl rfl hl kn rfl rfl rfl
    (Qi rfl (ha n p q (T last) (T k) (bS p pl) (bS q ql) λi hi=>⟨b8 _ (C.bT last i hl hi),b8 _ (C.bT k i kn hi)⟩) rfl)
    (Qi rfl (ha n (0-other) one (T last) (T k) (bS _ (neg _ otherl)) (bS _ onel) λi hi=>⟨b8 _ (C.bT last i hl hi),b8 _ (C.bT k i kn hi)⟩) rfl)
    (Qi rfl (ha n one other (λj=>B j last) (λj=>B j k) (bS _ onel) (bS _ otherl) λi hi=>⟨b8 _ (C.bB i last hi hl),b8 _ (C.bB i k hi kn)⟩) rfl)
    (Qi rfl (ha n (0-q) p (λj=>B j last) (λj=>B j k) (bS _ (neg _ ql)) (bS p pl) λi hi=>⟨b8 _ (C.bB i last hi hl),b8 _ (C.bB i k hi kn)⟩) rfl) ?_)
   rw[eb];refine run_seq (QA rfl (Qj ?_));rw[QdO rfl];exact⟨_,_,g,_,_,_,_,_,C',rfl⟩
  ·rintro U ⟨T,B,wh,j5,j6,j7,j8,j9,C,rfl⟩;rw[ZC]at C;have bound:(2:Nat)^(2000*last)<=2^16000:=Zr (by decide) ⋯;refine Qy (r:=⟨.tup [Qe n n T,Qe n n B],true,[2]⟩) ?_ ⟨rfl,T,B,wh,rfl,C.tell,λi j hi hj=>Zo (C.bT i j hi hj) bound,λi j hi hj=>Zo (C.bB i j hi hj) bound⟩;have ec:Qf 1 dt [] (Qa (Ql 3) Qc) [slF (Qb n x),slI last,slT (Qe n n T),slT (Qe n n λi j=>B j i),slI wh,j5,j6,j7,j8,j9]=some (reT (Qe n n B)):=Qi rfl (ht n _ ⋯) rfl;unfold Qar;rw[Qn rfl (Qn ec (QP _))];rfl
 obtain⟨o,h1,h2⟩:=key;cases o with
 | rt d fr=>
  obtain⟨rfl,T,B,g,rfl,h⟩:=h2;exact⟨T,B,g,by show Option.bind (QeN du dw da dt [slF (Qb n x),slI last,none,none,none,none,none,none,none,none]) outD=_;rw[h1];rfl,h⟩
 | _=>exact h2.elim
noncomputable def QqE(QdK:Den):DS:=(Qd (QC (Qf 1 QdK [] (Qa (QL (QG (QW vv0) (.nm 1) [none,none] QO (Qf 1 QdK [] (Qa vv1 Qc))) (QX (Qa vv1 Qc))) Qc))) Qh)
def QjW(d:Den):Prop:=∀(k n:Nat) (f:Mt2) (L:Int),k<=100->∃g:Int,d [Qe k n f,.int L]=some (.int g,true)/\0<=g/\∀t,t∣g↔((∀i j,i<k->j<n->t∣f i j)/\t∣L)
theorem Qw0(hc:QhT dc):QjW (Qu 2 (QqE dc)):=λk n f L hk=>by
 obtain⟨gi,hgi⟩:=ZbW λi:Nat=>hc ((List.range n).map (f i));have hrow:∀i t,t∣gi i↔∀j,j<n->t∣f i j:=λi t=>by
  rw[(hgi i).2.2 t];exact⟨λh j hj=>h _ (ZL.mpr ⟨j,Zg.mpr hj,rfl⟩),λh x hx=>by obtain⟨j,hj,rfl⟩:=ZL.mp hx;exact h j (Zg.mp hj)⟩
 obtain⟨g,eg,g0,hg⟩:=hc ((List.range (k+1)).map (up gi k L));rw[← Qla]at eg;refine⟨g,QN (Qy (Qi (Qn (Qf3 (QE (List.range k) (Q2 rfl rfl) rfl λi _=>⟨[none,slF (Qb n (f i))],rfl,reI (gi i),Qi rfl (by rw[Qla];exact(hgi i).1) rfl,rfl,rfl⟩) rfl rfl ⋯) (QP _)) eg rfl) ⟨rfl,rfl⟩),g0,λt=>?_⟩;rw[hg t];constructor
 ·intro h;refine⟨λi j hi hj=>(hrow i t).mp (h _ (ZL.mpr ⟨i,Zg.mpr ⋯,by rw[Qco,if_neg ⋯]⟩)) j hj,h _ (ZL.mpr ⟨k,Zg.mpr ⋯,by rw[Qco,if_pos rfl]⟩)⟩
 ·rintro⟨h1,h2⟩ x hx;obtain⟨i,hi,rfl⟩:=ZL.mp hx;have hi:=Zg.mp hi;rw[Qco];by_cases e:i=k
  ·rw[if_pos e];exact h2
  ·rw[if_neg e];exact(hrow i t).mpr λj hj=>h1 i j ⋯ hj
noncomputable def QwY:DS:=(Qd (QC (QG (QW vv0) (.nm 1) [none,none,some 1] QO (dOp Q3 vv1 vv2))) Qh)
def Qh8(d:Den):Prop:=∀(n:Nat) (a:Mt1) (L:Int),0<L->d [Qb n a,.int L]=some (Qb n λi=>a i % L,true)
theorem Qtp:Qh8 (Qu 2 QwY):=λn a L hL=>
 QN (Qy (QE (List.range n) (Q2 rfl rfl) rfl λi _=>⟨[none,slI (a i),slI L],rfl,reI (a i % L),Qad rfl rfl rfl rfl hL,rfl,rfl⟩) ⟨rfl,rfl⟩)
noncomputable def Qwb:DS:=(Qd (QC (QG (QW vv0) (.nm 1) [none,none,some 1] QO (dOp Qbb vv1 vv2))) Qh)
def Qh0(d:Den):Prop:=∀(n:Nat) (a q:Mt1) (b:Int),b≠0->b.natAbs<2^2000->(∀i,i<n->a i=b*q i)->d [Qb n a,.int b]=some (Qb n q,true)
theorem Qun:Qh0 (Qu 2 Qwb):=λn a q b b0 bl h=>
 QN (Qy (QE (List.range n) (Q2 rfl rfl) rfl λi hi=>⟨[none,slI (a i),slI b],rfl,reI (q i),QeG rfl rfl rfl rfl b0 bl (h i (Zg.mp hi)),rfl,rfl⟩) ⟨rfl,rfl⟩)
noncomputable def Qqt:DS:=(Qd (QC (QG (QW vv0) (.nm 1) [none,none,some 1] QO (QY vv2 vv1))) Qh)
def Qnu(d:Den):Prop:=∀(n:Nat) (a:Mt1) (c:Int),QaM c->(∀i,i<n->QaM (a i))->d [Qb n a,.int c]=some (Qb n λi=>c*a i,true)
theorem QwW:Qnu (Qu 2 Qqt):=λn a c hc ha=>
 QN (Qy (QE (List.range n) (Q2 rfl rfl) rfl λi hi=>⟨[none,slI (a i),slI c],rfl,reI (c*a i),Q8 rfl rfl rfl rfl (QdT hc (ha i (Zg.mp hi))),rfl,rfl⟩) ⟨rfl,rfl⟩)
noncomputable def pairF(u v:Mt1):Nat->Nat->Int
 | 0=>u
 | _=>v
noncomputable def QmU(Qcb:Den)(QeH:Den):DS:=(Qd (Qo 3 (Qf 2 Qcb [] (Qa (QX (Qa vv0 (Qa vv1 Qc))) (Qa vv2 Qc)))) (Qd (Qo 4 (Qal vv0)) (Qd (Qcs (QF (dOp gNe (Qf 2 Qcb [] (Qa (QX (Qa vv4 Qc)) (Qa vv2 Qc))) vv3)) (Qd (Qo 4 (Qf 2 QeH [] (Qa (QG (Qaq vv4 vv1) (.tp [1,2]) [none,none,none] QO (QL vv1 vv2)) (Qa vv2 Qc)))) Qh)) (Qd (QC vv4) Qh))))
def Qnz(d:Den):Prop:=∀(n:Nat) (u v:Mt1) (L:Int),0<L->(∀i,i<n->0<=u i/\u i<L)->∃(x:Mt1) (fr:Bool) (k:Nat),d [Qb n u,Qb n v,.int L]=some (Qb n x,fr)/\(∀i,i<n->0<=x i/\x i<L)/\(∀i,i<n->L∣x i-(u i+k*v i))/\∀t,t∣L->(∀i,i<n->t∣x i)->(∀i,i<n->t∣u i)/\∀i,i<n->t∣v i
theorem QwN(hi:QjW di)(hw:Qh8 dw):Qnz (Qu 5 (QmU di dw)):=λn u v L hL hu=>by
 obtain⟨w,ew,w0,hwd⟩:=hi 2 n (pairF u v) L (by decide);have hwd:∀t,t∣w↔((∀i,i<n->t∣u i)/\(∀i,i<n->t∣v i)/\t∣L):=λt=>by
  rw[hwd t];constructor
  ·rintro⟨h1,h2⟩;exact⟨λi hi=>h1 0 i (by decide) hi,λi hi=>h1 1 i (by decide) hi,h2⟩
  ·rintro⟨h1,h2,h3⟩;refine⟨λi j hi hj=>?_,h3⟩
   match i,hi with
   | 0,_=>exact h1 j hj
   | 1,_=>exact h2 j hj
 obtain⟨Ln,hLn⟩:∃Ln:Nat,L=Ln:=⟨L.toNat,⋯⟩;obtain⟨T,hT⟩:=QBv u v (L:=Ln) ⋯;have hT:∀t:Int,t∣L->(∀i,i<n->t∣u i+T*v i)->(∀i,i<n->t∣u i)/\∀i,i<n->t∣v i:=λt h1 h2=>by
  have:=hT t.natAbs (by rw[hLn]at h1;have:=Zaf.mpr h1;rwa[Int.natAbs_natCast]at this) λi hi=>Int.natAbs_dvd.mpr (h2 i hi);exact⟨λi hi=>Int.natAbs_dvd.mp (this.1 i hi),λi hi=>Int.natAbs_dvd.mp (this.2 i hi)⟩
 have key:Run (QmU di dw) [slF (Qb n u),slF (Qb n v),slI L,none,none] λo=>match o with | .rt d fr=>∃(x:Mt1) (k:Nat),d=Qb n x/\(∀i,i<n->0<=x i/\x i<L)/\(∀i,i<n->L∣x i-(u i+k*v i))/\∀t,t∣L->(∀i,i<n->t∣x i)->(∀i,i<n->t∣u i)/\∀i,i<n->t∣v i | _=>False:=by
  refine rsa (Qi rfl ew rfl) ?_;refine run_seq (QA (Qbk rfl) ?_);refine QbO (P:=λU=>∃(x:Mt1) (k:Nat) (b4:Bool),(∀i,i<n->0<=x i/\x i<L)/\(∀i,i<n->L∣x i-(u i+k*v i))/\(∀t,t∣L->(∀i,i<n->t∣x i)->(∀i,i<n->t∣u i)/\∀i,i<n->t∣v i)/\U=[slF (Qb n u),slF (Qb n v),slI L,slI w,some (Qb n x,b4)]) ?_ ?_
  ·refine Qgx (λm U=>∃(x:Mt1) (k:Nat) (b4:Bool),k+m=T/\(∀i,i<n->0<=x i/\x i<L)/\(∀i,i<n->L∣x i-(u i+k*v i))/\U=[slF (Qb n u),slF (Qb n v),slI L,slI w,some (Qb n x,b4)]) ?_ T _ ⟨u,0,false,⋯,hu,λi hi=>by simp,rfl⟩;rintro m U ⟨x,k,b4,hk,hx,hd,rfl⟩;obtain⟨g,eg,g0,hg⟩:=hi 1 n (pairF x x) L (by decide);have hg:∀t,t∣g↔((∀i,i<n->t∣x i)/\t∣L):=λt=>by
    rw[hg t];refine⟨λh=>⟨λi hi=>h.1 0 i (by decide) hi,h.2⟩,λh=>⟨λi j hi hj=>?_,h.2⟩⟩
    match i,hi with
    | 0,_=>exact h.1 j hj
   have back:∀t,t∣L->((∀i,i<n->t∣x i)↔∀i,i<n->t∣u i+k*v i):=λt ht=>by
    constructor
    ·intro h i hi;have:=Zbl (h i hi) (Int.dvd_trans ht (hd i hi));rwa[Int.sub_sub_self]at this
    ·intro h i hi;have:=ZaJ (Int.dvd_trans ht (hd i hi)) (h i hi);rwa[ZaE]at this
   obtain⟨r4,v4,d4⟩:∃r:HS.R,Ql 4 [slF (Qb n u),slF (Qb n v),slI L,slI w,some (Qb n x,b4)]=some r/\r.d=Qb n x:=by cases b4<;>exact⟨_,rfl,rfl⟩
   have ecall:Qf 2 di [] (Qa (QX (Qa (Ql 4) Qc)) (Qa (Ql 2) Qc)) [slF (Qb n u),slF (Qb n v),slI L,slI w,some (Qb n x,b4)]=some (reI g):=Qi (r:=⟨[Qe 1 n (pairF x x),.int L],r4.fr && true && (true && true),r4.M++[]++([]++[])⟩) ((Qn (Qmi (Qn v4 (QP _)) (show 1<=64 by decide)) (Qn rfl (QP _))).trans (by rw[d4];rfl)) eg rfl;refine⟨!decide (g=w),QQ (Qc4 ecall rfl rfl rfl) rfl,λh=>?_,λh=>?_⟩
   ·have e:g=w:=by simpa using h
    refine⟨x,k,b4,hx,hd,λt h1 h2=>?_,rfl⟩;have:=(hg t).mpr ⟨h2,h1⟩;rw[e,hwd t]at this;exact⟨this.1,this.2.1⟩
   ·have e:g≠w:=by simpa using h
    have hkT:k≠T:=λz=>e (Int.dvd_antisymm g0 w0 ((hwd g).mpr (by
     have h1:=(hg g).mp (Int.dvd_refl g);have h2:=(back g h1.2).mp h1.1;rw[z]at h2;have h3:=hT g h1.2 h2;exact⟨h3.1,h3.2,h1.2⟩)) ((hg w).mpr (by
     have h1:=(hwd w).mp (Int.dvd_refl w);exact⟨(back w h1.2.2).mpr λi hi=>ZaJ (h1.1 i hi) (Int.dvd_mul_of_dvd_right (h1.2.1 i hi)),h1.2.2⟩)))
    refine run_seq (QA (Qi (Qn (QE (List.range n) (Qa5 v4 d4 rfl rfl) rfl λi hi=>⟨[none,slI (x i),slI (v i)],rfl,reI (x i+v i),rfl,rfl,rfl⟩) (Qn rfl (QP _))) (hw n _ L hL) rfl) (Qj ?_));rw[Q4];refine⟨m-1,⋯,λi=>(x i+v i) % L,k+1,true,⋯,λi hi=>⟨ZD _ ⋯,ZA _ hL⟩,λi hi=>?_,rfl⟩;have h1:=hd i hi;have h2:L∣(x i+v i)-(x i+v i) % L:=Int.dvd_self_sub_emod;have:=Zbl h1 h2;rwa[show x i-(u i+(k:Int)*v i)-(x i+v i-(x i+v i) % L)=(x i+v i) % L-(u i+((k+1:Nat):Int)*v i) by rw[ZaY,Zac];omega]at this
  ·rintro U ⟨x,k,b4,hx,hd,hc,rfl⟩;cases b4
   ·exact Qv (Qa6 rfl ⟨x,k,rfl,hx,hd,hc⟩)
   ·exact Qv (Qa6 rfl ⟨x,k,rfl,hx,hd,hc⟩)
 obtain⟨o,h1,h2⟩:=key;cases o with
 | rt d fr=>
  obtain⟨x,k,rfl,h⟩:=h2;exact⟨x,fr,k,by show Option.bind (QmU di dw [slF (Qb n u),slF (Qb n v),slI L,none,none]) outD=_;rw[h1];rfl,h⟩
 | _=>exact h2.elim
noncomputable def Qfx(QcA:Den)(QjK:Den):DS:=(Qd (Qo 2 (Qf 2 QcA [] (Qa vv0 (Qa kk0 Qc)))) (Qd (QaW (Qd2 kk1 (dBf Qa3 (Qa vv0 Qc))) (.nm 3) (Qd (Qo 2 (Qf 3 QjK [] (Qa vv2 (Qa (Qf 2 QcA [] (Qa vv0 (Qa vv3 Qc))) (Qa vv1 Qc))))) Qh)) (Qd (QC vv2) Qh)))
structure QrL (n m:Nat) (f:Mt2) (L:Int) (x cc:Mt1):Prop where
 bd:∀i,i<n->0<=x i/\x i<L
 mix:∀i,i<n->L∣x i-Qq n λj=>cc j*f i j
 cop:∀t,t∣L->(∀i,i<n->t∣x i)->∀i j,i<n->j<m->t∣f i j
def QoZ(d:Den):Prop:=∀(n:Nat) (f:Mt2) (L:Int),0<n->n<=8->0<L->(∀i j,i<n->j<n->0<=f i j/\f i j<L)->∃(x cc:Mt1) (fr:Bool),d [Qe n n f,.int L]=some (Qb n x,fr)/\QrL n n f L x cc
theorem QyY(hl:QfQ dl)(hm:Qnz dm):QoZ (Qu 4 (Qfx dl dm)):=λn f L n0 n8 hL hf=>by
 have key:Run (Qfx dl dm) [slF (Qe n n f),slI L,none,none] λo=>match o with | .rt d fr=>∃(x cc:Mt1),d=Qb n x/\QrL n n f L x cc | _=>False:=by
  refine rsa (Qi rfl (hl n n f 0 n0) rfl) ?_;refine Qv (Qav (List.range (n-1)) (λk U=>∃(x cc:Mt1) (b2:Bool) (j3:Option (D×Bool)),QrL n (k+1) f L x cc/\U=[slF (Qe n n f),slI L,some (Qb n x,b2),j3]) (QnU rfl rfl (Qd1 rfl rfl) rfl ⋯ ⋯ (by decide) (by decide)) rfl ⟨λi=>f i 0,λj=>if j=0 then 1 else 0,true,none,⟨λi hi=>hf i 0 hi n0,λi hi=>?_,λt h1 h2 i j hi hj=>?_⟩,rfl⟩ ?_ ?_)
  ·rw[QaI n0,ZT,Zbt];exact Int.dvd_zero _
  ·rw[show j=0 by omega];exact h2 i hi
  ·rintro k k' U hk ⟨x,cc,b2,j3,I,rfl⟩;obtain⟨hkn,rfl⟩:=QeF hk;refine⟨[slF (Qe n n f),slI L,some (Qb n x,b2),slI ((1:Int)+k)],rfl,?_⟩;obtain⟨y,fr,K,em,y1,y2,y3⟩:=hm n x (λi=>f i (k+1)) L hL I.bd;have eK:(1:Int)+k=((k+1:Nat):Int):= ⋯
   obtain⟨r2,v2,d2⟩:∃r:HS.R,Ql 2 [slF (Qe n n f),slI L,some (Qb n x,b2),slI ((1:Int)+k)]=some r/\r.d=Qb n x:=by cases b2<;>exact⟨_,rfl,rfl⟩
   have ecol:Qf 2 dl [] (Qa (Ql 0) (Qa (Ql 3) Qc)) [slF (Qe n n f),slI L,some (Qb n x,b2),slI ((1:Int)+k)]=some (reT (Qb n λi=>f i (k+1))):=Qi (r:=⟨[Qe n n f,.int ((k+1:Nat):Int)],false,[]⟩) (by rw[← eK];rfl) (hl n n f (k+1) ⋯) rfl;have ecl:=Qls (fs:=Qa (Ql 2) (Qa (Qf 2 dl [] (Qa (Ql 0) (Qa (Ql 3) Qc))) (Qa (Ql 1) Qc))) (r:=⟨[Qb n x,Qb n λi=>f i (k+1),.int L],r2.fr && (true && (true && true)),r2.M++([]++([]++[]))⟩) ((Qn v2 (Qn ecol (Qn rfl (QP _)))).trans (by rw[d2])) em rfl;refine run_seq (QA ecl (Qj ?_));refine⟨y,λj=>cc j+(if j=k+1 then(K:Int)else 0),fr,slI ((1:Int)+k),⟨y1,λi hi=>?_,λt h1 h2 i j hi hj=>?_⟩,?_⟩
   ·have h1:=y2 i hi;have h2:=I.mix i hi;have:=ZaJ h1 h2;rw[Qp λj _=>Zac _ _ _,QaP,QaI ⋯];rwa[show y i-(x i+(K:Int)*f i (k+1))+(x i-Qq n λj=>cc j*f i j)=y i-((Qq n λj=>cc j*f i j)+(K:Int)*f i (k+1)) by omega]at this
   ·obtain⟨h3,h4⟩:=y3 t h1 h2;by_cases e:j=k+1
    ·rw[e];exact h4 i hi
    ·exact I.cop t h1 h3 i j hi ⋯
   ·cases fr
    ·cases b2
     ·have:r2=(reF (Qb n x)):=by injection v2 with z;exact z.symm
      rw[this];rfl
     ·have:r2=⟨Qb n x,true,[2]⟩:=by injection v2 with z;exact z.symm
      rw[this];rfl
    ·rfl
  ·rintro U ⟨x,cc,b2,j3,I,rfl⟩;rw[ZC,show n-1+1=n by omega]at I;cases b2
   ·exact Qv (Qa6 rfl ⟨x,cc,rfl,I⟩)
   ·exact Qv (Qa6 rfl ⟨x,cc,rfl,I⟩)
 obtain⟨o,h1,h2⟩:=key;cases o with
 | rt d fr=>
  obtain⟨x,cc,rfl,h⟩:=h2;exact⟨x,cc,fr,by show Option.bind (Qfx dl dm [slF (Qe n n f),slI L,none,none]) outD=_;rw[h1];rfl,h⟩
 | _=>exact h2.elim
theorem Qqo(ha:fa U=some ra)(ea:ra.d=Qe n m f):Qb9 fa U=some ⟨(List.range n).map λ(i:Nat)=> .tup [.int i,Qb m (f i)],ra.M⟩:=by
 unfold Qb9;rw[ha,Za,ea];have:Qdg ((List.range n).map λi=>Qb m (f i))=(List.range n).map λ(i:Nat)=>D.tup [.int i,Qb m (f i)]:=by
  unfold Qdg;refine List.ext_getElem (by simp) λi h1 h2=>?_;simp
 show some (IR.mk (Qdg ((List.range n).map λi=>Qb m (f i))) ra.M)=_;rw[this]
theorem Qwd{k:Nat}(hx:U[x]? =some (slT (Qe n N g)))(hi:fi U=some (reI k))(ha:fa U=some (reT (Qb N p)))(hk:k<n)
  (q:Q (.nx (U.set x (slT (Qe n N (λi j=>if i=k then p j else g i j)))))):Run (QcQ x QaQ fi fa) U Q:=by
 refine⟨_,?_,q⟩;unfold QcQ;rw[ha,Za,hx];have hn:(HS.R.mk (Qb N p) true []).norm=(reT (Qb N p)):=by unfold R.norm Qb;rfl
 simp only[QaQ,Za,hi,Qe,QbY,Zq,ZC,hn];rw[Qct (show(0:Int)<=k by omega) ⋯];simp only[Za,ZQ];rw[QeJ hk];simp[kill,QbN]
theorem QzF(hn:n<=8):bnd (2^240) n<2^1999:=by
 have h:∀k,k<9->bnd (2^240) k<2^1999:=by decide+kernel
 exact h n ⋯
theorem QbZ.QxI{n N k:Nat}{A m R:Mt2}{d:Int}(h:QbZ n N k A m R d)(hn:n<=8)(hA:∀j,j<N->∀r,r<n->(A j r).natAbs<=2^240):d.natAbs<2^1999/\∀i j,i<n->j<N->(R i j).natAbs<2^1999:=by
 have b:=QzF hn;refine⟨?_,λi j hi hj=>?_⟩
 ·rw[← h.clr.det];exact ZV (QdZ h.col) b
 ·rw[h.clr.ent i j hi hj];exact ZV (QdZ (h.col.put (hA j hj))) b
noncomputable def Qon(Qa0:Den)(QaT:Den):DS:=(Qd (Qo 1 (dBf Qa3 (Qa vv0 Qc))) (Qd (Qo 2 (Qf 1 QaT [] (Qa (QG (Qb9 vv0) (.tp [1,2]) [none,none,none,some 1] QO (QL vv2 (Qf 2 Qa0 [] (Qa vv3 (Qa vv1 Qc))))) Qc))) (Qd (QC (Qar (Qa (QG (QW (Qm vv2 kk0)) (.nm 1) [none,none,some 1] QO (Qdp vv1 (Qcf vv2) Qch)) (Qa (Qm vv2 kk1) Qc)))) Qh)))
def QmE(d:Den):Prop:=∀(n:Nat) (f:Mt2),n<=8->(∀i j,i<n->j<n->(f i j).natAbs<=2^240)->(det n λj i=>f i j)≠0->∃P:Nat->Nat->Int,d [Qe n n f]=some (.tup [Qe n n P,.int (det n λj i=>f i j)],true)/\(∀i j,i<n->j<n->prodF n f P i j=(det n λj i=>f i j)*idF i j)/\(∀i j,i<n->j<n->(P i j).natAbs<2^1999)/\(det n λj i=>f i j).natAbs<2^1999
theorem Qvv(hu:Qjr du)(hc:Qg6 dc):QmE (Qu 3 (Qon du dc)):=λn f n8 hf hd=>by
 obtain⟨A,hA⟩:∃A:Nat->Nat->Int,A=λj r=>if j<n then f r j else if j-n=r then 1 else 0:=⟨_,rfl⟩;have aLow:∀j r,j<n->A j r=f r j:=λj r hj=>by rw[hA];show(if j<n then _ else _)=_;rw[if_pos hj]
 have aUp:∀c r,A (n+c) r=idF c r:=λc r=>by rw[hA];show(if n+c<n then _ else if n+c-n=r then 1 else 0)=_;rw[if_neg ⋯,show n+c-n=c by omega];rfl
 have bA:∀j,j<n+n->∀r,r<n->(A j r).natAbs<=2^240:=λj hj r hr=>by
  by_cases z:j<n
  ·rw[aLow j r z];exact hf r j hr z
  ·rw[show j=n+(j-n) by omega,aUp];unfold idF;split<;>decide
 have dA:det n A=det n λj i=>f i j:=Q1 λj hj r _=>aLow j r hj;obtain⟨m,R,b,ec,C⟩:=hc n (n+n) A n8 ⋯ bA (by rw[dA];exact hd);obtain⟨sb,sR⟩:=C.QxI n8 bA;have hb:b=det n λj i=>f i j:=by rw[← dA];exact C.clr.all
 subst hb;refine⟨λi j=>R i (n+j),QN ?_,λi j hi hj=>?_,λi j hi hj=>sR i (n+j) hi ⋯,sb⟩
 ·refine rsa (Qd1 rfl rfl) ?_;have et:Qe n (n+n) (λi j=>A j i)= .lst ((List.range n).map λi=>Qb (n+n) λj=>if j<n then f i j else(λk=>if k=i then 1 else 0) (j-n)):=by
   unfold Qe;refine congrArg D.lst (ZI λi _=>QeS λj _=>?_);rw[hA]
  refine run_seq (QA ((QeQ (Qn (r:=reT (Qe n (n+n) λi j=>A j i)) ?_ (QP _)) ec rfl).trans rfl) ?_)
  ·rw[et];exact QE (List.range n) (Qqo rfl rfl) rfl λi _=>⟨[none,slI i,slF (Qb n (f i)),slI n],rfl,reT (Qb (n+n) λj=>if j<n then f i j else(λk=>if k=i then 1 else 0) (j-n)),Qk9 (g:=λk=>if k=i then 1 else 0) rfl rfl (Qi rfl (hu n i ⋯) rfl) rfl ⋯,rfl,rfl⟩
  ·refine Qy (r:=reT (.tup [Qe n n λi j=>R i (n+j),.int (det n λj i=>f i j)])) ?_ ⟨rfl,rfl⟩
   have e1:QG (QW (Qm (Ql 2) (dC (.int 0)))) (.nm 1) [none,none,some 1] QO (Qdp (Ql 1) (Qcf (Ql 2)) Qch) [slF (Qe n n f),slI n,slF (.tup [Qe n (n+n) R,.int (det n λj i=>f i j)])]=some (reT (Qe n n λi j=>R i (n+j))):=
    QE (List.range n) (Q2 rfl rfl) rfl λi _=>⟨[none,slF (Qb (n+n) (R i)),slI n],rfl,reT (Qb n λj=>R i (n+j)),(Qli rfl rfl rfl rfl ⋯).trans (by rw[show n+n-n=n by omega]),rfl,rfl⟩
   change Qar (Qa (QG (QW (Qm (Ql 2) (dC (.int 0)))) (.nm 1) [none,none,some 1] QO (Qdp (Ql 1) (Qcf (Ql 2)) Qch)) (Qa (Qm (Ql 2) (dC (.int 1))) Qc)) [slF (Qe n n f),slI n,slF (.tup [Qe n (n+n) R,.int (det n λj i=>f i j)])]=_;unfold Qar;rw[Qn e1 (Qn rfl (QP _))];rfl
 ·have t:=C.clr.tell (j:=n+j) ⋯ hi;rw[aUp]at t;have e:idF j i=idF i j:=by
   unfold idF;by_cases z:i=j
   ·rw[if_pos z,if_pos z.symm]
   ·rw[if_neg z,if_neg (Ne.symm z)]
  rw[← e,t,Qcu];exact Qp λl hl=>by rw[C.clr.own l hl,aLow l i hl,ZP]
theorem RT.start(hW:0<W)(hw:W∣w)(hA:∀i j,i<n->j<n->prodF n A P i j=w*idF i j):RT n n A P W 1 W idF idF P λ_=>1:=by
 have u:QbD n idF idF:=λi j hi hj=>QcD _ _ hi;refine⟨Zj n,u,u,hW,ZT W,λi j h1 h2=> ⋯,λi j hi hj=>?_,λi j hi hj=>?_,λ_ _=>rfl,λj h1 h2=> ⋯,λi j h1 h2=> ⋯,λi j h1 h2=> ⋯,λj h1 h2=> ⋯,λh=> ⋯⟩
 ·rw[Qax (a':=A) (b':=P) (λk hk=>Qik A i hk) (λ_ _=>rfl),hA i j hi hj];exact Zaz hw
 ·rw[QcD P j hi,ZT,Zbt];exact Int.dvd_zero _
noncomputable def QeE(QaV:Den)(Qcb:Den)(QdJ:Den)(QeH:Den)(QdB:Den)(Qdl:Den)(QbJ:Den):DS:=(Qd (Qo 2 (dBf Qa3 (Qa vv0 Qc))) (Qd (Qo 3 (Qf 1 QaV [] (Qa vv2 Qc))) (Qd (Qo 4 (Qf 1 QaV [] (Qa vv2 Qc))) (Qd (Qo 5 (QY (QX (Qa kk1 Qc)) vv2)) (Qd (Qo 6 (Qal vv0)) (Qd (Qo 7 (dBf Qi6 (Qa vv1 Qc))) (Qd (QaW (QfF (dOp QaL vv2 kk1) (Qii kk1) (Qii kk1)) (.nm 8) (Qd (Qo 9 (Qf 2 Qcb [] (Qa vv6 (Qa vv7 Qc)))) (Qd (Qo 7 (dOp Qbb vv7 vv9)) (Qd (sIf (QF (dOp gEq vv7 kk1)) (Qd QsX Qh) Qh) (Qd (Qo 6 (QG (QW vv6) (.nm 1) [none,none,some 7,some 9] QO (Qf 2 QeH [] (Qa (Qf 2 QdJ [] (Qa vv1 (Qa vv3 Qc))) (Qa vv2 Qc))))) (Qd (QcQ 5 QaQ vv8 vv7) (Qd (Qo 10 (Qf 2 Qdl [] (Qa (Qf 2 QdB [] (Qa vv6 (Qa vv7 Qc))) (Qa vv8 Qc)))) (Qd (Qo 3 (Qf 2 QbJ [] (Qa vv3 (Qa (Qm Qu9 kk1) Qc)))) (Qd (Qo 4 (Qf 2 QbJ [] (Qa (Qm Qu9 kk0) (Qa vv4 Qc)))) (Qd (Qo 6 (Qf 2 QbJ [] (Qa (Qm Qu9 kk0) (Qa vv6 Qc)))) (Qd (QcQ 6 QaQ vv8 (QY (QX (Qa kk0 Qc)) vv2)) Qh))))))))))) (Qd (QC (Qar (Qa vv3 (Qa vv4 (Qa vv5 Qc))))) Qh))))))))
def QaB(n k:Nat)(f:Mt2):Prop:=∀i j,i<n->j<n->(f i j).natAbs<=2^k
theorem QaB.bits(h:QaB n k f)(hk:k<2^20):QrR n f:=λi j hi hj=>QkR (k:=k+1) (by
 have:=h i j hi hj;have:(2:Nat)^k<2^(k+1):=Nat.pow_lt_pow_right (by decide) ⋯;omega) ⋯
theorem QaB.prod(hn:n<=8)(h1:QaB n k f)(h2:QaB n l g):QaB n (k+l+3) (prodF n f g):=λi j hi hj=>by
 have h:(prodF n f g i j).natAbs<=n*2^(k+l):=QpP λm hm=>by
  rw[Zak,Nat.pow_add];exact ZaW (h1 i m hi hm) (h2 m j hm hj)
 have h3:n*2^(k+l)<=8*2^(k+l):=ZbD _ hn;have h4:(2:Nat)^(k+l+3)=8*2^(k+l):=by rw[Nat.pow_add,ZaS]
 omega
theorem QaB.mono(h:QaB n k f)(hk:k<=l):QaB n l f:=λi j hi hj=>Zo (h i j hi hj) (Zr (by decide) hk)
theorem QaB.id(n k:Nat):QaB n k idF:=λi j _ _=>by
 have:0<(2:Nat)^k:=Nat.pow_pos (by decide);unfold idF;split
 ·show 1<=_;omega
 ·exact Zab _
def QmN(d:Den):Prop:=∀(n:Nat) (A P:Mt2) (w:Int),0<n->n<=8->w≠0->w.natAbs<2^1999->(∀i j,i<n->j<n->prodF n A P i j=w*idF i j)->∃(R Rb:Mt2) (len:Mt1),d [Qe n n P,.int w]=some (.tup [Qe n n R,Qe n n Rb,Qb n len],true)/\Qj7 n A P (w.natAbs:Int) R Rb len/\QaB n 130000 R/\QaB n 130000 Rb/\∀j,j<n->(len j).natAbs<2^1999
structure RTI (n k:Nat) (A P:Mt2) (W c L:Int) (R Rb S:Mt2) (len:Mt1):Prop where
 kn:k<=n
 rt:RT n (n-k) A P W c L R Rb S len
 bR:QaB n (16003*k) R
 bB:QaB n (16003*k) Rb
 Ll:L<2^1999
 ll:∀j,j<n->(len j).natAbs<2^1999
theorem Qv6(hu:Qho du)(hi:QjW di)(hs:Qh0 ds)(hw:Qh8 dw)(hf:QoZ df)(hc:QmM dc)(hp:Qgw dp):QmN (Qu 11 (QeE du di ds dw df dc dp)):=λn A P w n0 n8 w0 wl hA=>by
 obtain⟨W,hW⟩:∃W:Int,W=w.natAbs:=⟨_,rfl⟩;have W0:0<W:= ⋯
 have Ww:W∣w:=by rw[hW];exact Int.natAbs_dvd.mpr (Int.dvd_refl w)
 have Wl:W<2^1999:=by rw[hW];exact_mod_cast wl
 rw[← hW];have key:Run (QeE du di ds dw df dc dp) [slF (Qe n n P),slI w,none,none,none,none,none,none,none,none,none] λo=>match o with | .rt d fr=>fr=true/\∃(R Rb:Mt2) (len:Mt1),d= .tup [Qe n n R,Qe n n Rb,Qb n len]/\Qj7 n A P W R Rb len/\QaB n 130000 R/\QaB n 130000 Rb/\(∀j,j<n->(len j).natAbs<2^1999) | _=>False:=by
  refine rsa (Qd1 rfl rfl) ?_;refine rsa (Qi rfl (hu n ⋯) rfl) ?_;refine rsa (Qi rfl (hu n ⋯) rfl) ?_;refine rsa (QhG rfl rfl ⋯) ?_;refine run_seq (QA (Qbk rfl) ?_);refine run_seq (QA (r:=reI W) ?_ ?_)
  ·show some (HS.R.mk (.int (if w<0 then-w else w)) true [])=_;rw[hW,show(if w<0 then-w else w)=(w.natAbs:Int) by split<;>omega]
  rw[Q4];change Run _ [slF (Qe n n P),slI w,slI n,slT (Qe n n idF),slT (Qe n n idF),slT (Qb n λ_=>1),slF (Qe n n P),slI W,none,none,none] _;refine QbO (P:=λU=>∃(R Rb:Mt2) (len:Mt1) (j6 j7 j8 j9 j10:Option (D×Bool)),Qj7 n A P W R Rb len/\QaB n 130000 R/\QaB n 130000 Rb/\(∀j,j<n->(len j).natAbs<2^1999)/\U=[slF (Qe n n P),slI w,slI n,slT (Qe n n R),slT (Qe n n Rb),slT (Qb n len),j6,j7,j8,j9,j10]) ?_ ?_
  ·refine Qav (List.range n) (λk U=>∃(R Rb S:Mt2) (len:Mt1) (c L:Int) (b6:Bool) (j8 j9 j10:Option (D×Bool)),RTI n k A P W c L R Rb S len/\U=[slF (Qe n n P),slI w,slI n,slT (Qe n n R),slT (Qe n n Rb),slT (Qb n len),some (Qe n n S,b6),slI L,j8,j9,j10]) (QnG (Qf4 rfl rfl rfl rfl) rfl rfl rfl rfl rfl ⋯) rfl ⟨idF,idF,P,λ_=>1,1,W,false,none,none,none,⟨⋯,by rw[Nat.sub_zero];exact RT.start W0 Ww hA,QaB.id n _,QaB.id n _,Wl,λj hj=>by show(1:Int).natAbs<2^1999;exact Zp (by decide) (Zr (by decide) (show 1<=1999 by decide))⟩,rfl⟩ ?_ ?_
   ·rintro k k' U hk ⟨R,Rb,S,len,c,L,b6,j8,j9,j10,I,rfl⟩;obtain⟨hkn,rfl⟩:=QeF hk;obtain⟨last,hlast⟩:∃last,last=n-1-k:=⟨_,rfl⟩;have el:(n:Int)-1-k=(last:Int):= ⋯
    have ek:n-k=last+1:= ⋯
    have hln:last<n:= ⋯
    obtain⟨kn,rt,bR,bB,Ll,ll⟩:=I;rw[ek]at rt;refine⟨[slF (Qe n n P),slI w,slI n,slT (Qe n n R),slT (Qe n n Rb),slT (Qb n len),some (Qe n n S,b6),slI L,slI (last:Int),j9,j10],by rw[el];rfl,?_⟩;obtain⟨part,ep,p0,hpd⟩:=hi n n S L ⋯;have pp:=(hpd part).mp (Int.dvd_refl part);have L0:=rt.L0;obtain⟨L',eL⟩:=pp.2;have pz:part≠0:=λz=>by rw[z,ZG]at eL;omega
    have p1:0<part:= ⋯
    have pL:part.natAbs<2^2000:=by
     have h1:=Int.le_of_dvd L0 pp.2;have h2:(2:Int)^1999<2^2000:=by decide
     have h3:((part.natAbs:Nat):Int)<((2^2000:Nat):Int):=by rw[Int.natAbs_of_nonneg p0];push_cast;omega
     omega
    have L0':0<L':=by
     refine ZO λz=>?_;have:=ZaM (b:=L') ⋯ ⋯;omega
    have Ll':L'<2^1999:=by
     have:L'<=L:=by
      have:=ZaF (show 1<=part by omega) (show 0<=L' by omega);omega
     omega
    have ll':L'.natAbs<2^1999:=by
     have h3:((L'.natAbs:Nat):Int)<((2^1999:Nat):Int):=by rw[Int.natAbs_of_nonneg ⋯];push_cast;omega
     omega
    obtain⟨r6,v6,d6⟩:∃r:HS.R,Ql 6 [slF (Qe n n P),slI w,slI n,slT (Qe n n R),slT (Qe n n Rb),slT (Qb n len),some (Qe n n S,b6),slI L,slI (last:Int),j9,j10]=some r/\r.d=Qe n n S:=by cases b6<;>exact⟨_,rfl,rfl⟩
    refine rsa (Qi (r:=⟨[Qe n n S,.int L],r6.fr && (true && true),r6.M++([]++[])⟩) ((Qn v6 (Qn rfl (QP _))).trans (by rw[d6])) ep rfl) ?_;refine rsa (QeG rfl rfl rfl rfl pz pL eL) ?_;change Run _ [slF (Qe n n P),slI w,slI n,slT (Qe n n R),slT (Qe n n Rb),slT (Qb n len),some (Qe n n S,b6),slI L',slI (last:Int),slI part,j10] _;have hS:=λi j (hi:i<n) (hj:j<n)=>pp.1 i j hi hj;refine Qv (QB (QQ (Qbu rfl rfl rfl rfl) rfl) (λh=>?_) (λh=>Qj ?_))
    ·have h1:L'=1:=of_decide_eq_true h;have:L=part:=by rw[eL,h1,Zae]
     refine Qv ⟨_,rfl,R,Rb,len,_,_,_,_,_,rt.stop λi j hi hj=>by rw[this];exact hS i j hi hj,bR.mono ⋯,bB.mono ⋯,ll,rfl⟩
    have hone:L'≠1:=of_decide_eq_false h;have hSq:∀i j,i<n->j<n->S i j=part*(S i j / part):=λi j hi hj=>(Int.mul_ediv_cancel' (hS i j hi hj)).symm;obtain⟨r6',v6',d6'⟩:∃r:HS.R,Ql 6 [slF (Qe n n P),slI w,slI n,slT (Qe n n R),slT (Qe n n Rb),slT (Qb n len),some (Qe n n S,b6),slI L',slI (last:Int),slI part,j10]=some r/\r.d=Qe n n S:=by cases b6<;>exact⟨_,rfl,rfl⟩
    refine rsa (QE (List.range n) (Q2 v6' d6') rfl λi hi=>⟨[none,slF (Qb n (S i)),slI L',slI part],rfl,reT (Qb n λj=>S i j / part % L'),Qi (Qn (Qi rfl (hs n (S i) (λj=>S i j / part) part pz pL λj hj=>hSq i j (Zg.mp hi) hj) rfl) (Qn rfl (QP _))) (hw n _ L' L0') rfl,rfl,rfl⟩) ?_;refine run_seq (Qlh rfl rfl rfl rfl rfl ⋯ ⋯ ?_);rw[ZQ];change Run _ [slF (Qe n n P),slI w,slI n,slT (Qe n n R),slT (Qe n n Rb),slT (Qb n (up len last L')),slT (Qe n n λi j=>S i j / part % L'),slI L',slI (last:Int),slI part,j10] _;have bS1:∀i j,i<n->j<n->0<=S i j / part % L'/\S i j / part % L'<L':=λi j _ _=>⟨ZD _ ⋯,ZA _ L0'⟩;obtain⟨x,cc,fr,ef,FI⟩:=hf n (λi j=>S i j / part % L') L' n0 n8 L0' bS1;obtain⟨T,B,g,ec,sp,bT,bBk⟩:=hc n last x hln n8 λi hi=>⟨(FI.bd i hi).1,by have:=(FI.bd i hi).2;omega⟩;have hz:∀i j,last<i->i<n->j<n->S i j / part % L'=0:=λi j h1 h2 h3=>by rw[rt.low i j ⋯ h2 h3];simp
    have rt':=rt.step p1 eL hSq (λi j _ _=>Int.dvd_self_sub_emod) hz (λt h1 h2=>by
     have a1:part*t∣part:=(hpd (part*t)).mpr ⟨λi j hi hj=>by rw[hSq i j hi hj];exact Int.mul_dvd_mul_left part (h2 i j hi hj),by rw[eL];exact Int.mul_dvd_mul_left part h1⟩;have a2:t∣1:=Int.dvd_of_mul_dvd_mul_left pz (by rw[Zae];exact a1);have:=Zaf.mpr a2;exact Nat.eq_one_of_dvd_one this) FI.mix (λi h1 h2=>by
     have a1:=FI.mix i h2;rw[Qp λj hj=>by rw[hz i j h1 h2 hj,ZJ],QaS,Int.sub_zero]at a1;have a2:=FI.bd i h2;rw[← Zbs a2.1 a2.2];exact Int.emod_eq_zero_of_dvd a1) FI.cop sp
    have ecf:=Qls (fs:=Qa (Ql 6) (Qa (Ql 7) Qc)) (U:=[slF (Qe n n P),slI w,slI n,slT (Qe n n R),slT (Qe n n Rb),slT (Qb n (up len last L')),slT (Qe n n λi j=>S i j / part % L'),slI L',slI (last:Int),slI part,j10]) rfl ef rfl;have efree:∃r:HS.R,Qf 2 df [] (Qa (Ql 6) (Qa (Ql 7) Qc)) [slF (Qe n n P),slI w,slI n,slT (Qe n n R),slT (Qe n n Rb),slT (Qb n (up len last L')),slT (Qe n n λi j=>S i j / part % L'),slI L',slI (last:Int),slI part,j10]=some r/\r.d=Qb n x:=by
     cases fr
     ·exact⟨_,ecf,rfl⟩
     ·exact⟨_,ecf,rfl⟩
    obtain⟨rf,vf,dfx⟩:=efree;refine rsa (Qi (r:=⟨[Qb n x,.int last],rf.fr && (true && true),rf.M++([]++[])⟩) ((Qn vf (Qn rfl (QP _))).trans (by rw[dfx])) ec rfl) ?_;change Run _ [slF (Qe n n P),slI w,slI n,slT (Qe n n R),slT (Qe n n Rb),slT (Qb n (up len last L')),slT (Qe n n λi j=>S i j / part % L'),slI L',slI (last:Int),slI part,slT (.tup [Qe n n T,Qe n n B])] _;have BT:QaB n 16000 T:=bT;have BB:QaB n 16000 B:=bBk;have kk:16003*k+16000+3=16003*(k+1):= ⋯
    have B1:QaB n 1999 λi j=>S i j / part % L':=λi j hi hj=>by
     show(S i j / part % L').natAbs<=2^1999;have h3:(((S i j / part % L').natAbs:Nat):Int)<((2^1999:Nat):Int):=by rw[Int.natAbs_of_nonneg (bS1 i j hi hj).1];push_cast;have:=(bS1 i j hi hj).2;omega
     omega
    refine rsa (Qi rfl (hp n R B ⋯ (bR.bits ⋯) (BB.bits (by decide))) rfl) ?_;refine rsa (Qi rfl (hp n T Rb ⋯ (BT.bits (by decide)) (bB.bits ⋯)) rfl) ?_;refine rsa (Qi rfl (hp n T _ ⋯ (BT.bits (by decide)) (B1.bits (by decide))) rfl) ?_;change Run _ [slF (Qe n n P),slI w,slI n,slT (Qe n n (prodF n R B)),slT (Qe n n (prodF n T Rb)),slT (Qb n (up len last L')),slT (Qe n n (prodF n T λi j=>S i j / part % L')),slI L',slI (last:Int),slI part,slT (.tup [Qe n n T,Qe n n B])] _;refine run_seq (Qwd rfl rfl (QhG rfl rfl ⋯) hln (Qj ?_));refine⟨_,_,_,up len last L',c*part,L',true,_,_,_,⟨⋯,?_,?_,?_,Ll',λj hj=>?_⟩,rfl⟩
    ·rw[show n-(k+1)=last by omega];exact rt'
    ·rw[← kk];exact bR.prod n8 BB
    ·rw[← kk,show 16003*k+16000+3=16000+16003*k+3 by omega];exact BT.prod n8 bB
    ·rw[Qco];split
     ·exact ll'
     ·exact ll j hj
   ·rintro U ⟨R,Rb,S,len,c,L,b6,j8,j9,j10,I,rfl⟩;rw[ZC]at I;obtain⟨kn,rt,bR,bB,Ll,ll⟩:=I;rw[Nat.sub_self]at rt;exact⟨R,Rb,len,_,_,_,_,_,rt.done,bR.mono ⋯,bB.mono ⋯,ll,rfl⟩
  ·rintro U ⟨R,Rb,len,j6,j7,j8,j9,j10,rg,b1,b2,ll,rfl⟩;exact Qy rfl ⟨rfl,R,Rb,len,rfl,rg,b1,b2,ll⟩
 obtain⟨o,h1,h2⟩:=key;cases o with
 | rt d fr=>
  obtain⟨rfl,R,Rb,len,rfl,h⟩:=h2;exact⟨R,Rb,len,by show Option.bind (QeE du di ds dw df dc dp [slF (Qe n n P),slI w,none,none,none,none,none,none,none,none,none]) outD=_;rw[h1];rfl,h⟩
 | _=>exact h2.elim
theorem QxU{n:Nat}{m:Mt2}{y:Mt1}(hd:det n m≠0)(h:∀r,r<n->sm n (λl=>y l*m l r)=0):∀k,k<n->y k=0:=λk hk=>by
 have e1:det n (cup m k λr=>sm n λl=>y l*m l r)=y k*det n m:=by
  rw[Qd0 hk y m n,Qds hk λi hi ne=>by rw[Qff hi hk ne (by rw[QJ,QH _ _ ne]),ZJ],Qak]
 have e2:det n (cup m k λr=>sm n λl=>y l*m l r)=0:=by
  rw[Q1 (k:=cup m k λr=>0*m k r) λj hj r hr=>by
   by_cases e:j=k
   ·subst e;rw[QJ,QJ,h r hr,ZG]
   ·rw[QH _ _ e,QH _ _ e],QfK hk,ZG]
 rw[e2]at e1;rcases Int.mul_eq_zero.mp e1.symm with z | z
 ·exact z
 ·exact absurd z hd
theorem Qt1{n:Nat}{A P:Mt2}{w:Int}(hd:(det n λj i=>A i j)≠0)(h:∀i j,i<n->j<n->prodF n A P i j=w*idF i j):∀i j,i<n->j<n->prodF n P A i j=w*idF i j:=λi j hi hj=>by
 have:=QxU hd (λr hr=>by
  rw[Qcu];have e1:(Qq n λl=>(prodF n P A l j-w*idF l j)*A r l)=prodF n A (prodF n P A) r j-w*prodF n A idF r j:=by
   unfold prodF;rw[← QU,← Qlv];exact Qp λl _=>by grind
  rw[e1,← QaZ,Qax (a':=λi j=>w*idF i j) (b':=A) (λk hk=>h r k hr hk) (λ_ _=>rfl),Qik _ _ hj];have e2:prodF n (λi j=>w*idF i j) A r j=w*prodF n idF A r j:=by
   unfold prodF;rw[← QU];exact Qp λl _=>Zx _ _ _
  rw[e2,QcD _ _ hr,Zbt]) i hi
 omega
structure Qsy (n:Nat) (f Lf R Lb Rb:Mt2) (len:Mt1):Prop where
 u1:QbD n R Rb
 u2:QbD n Rb R
 v1:QbD n Lf Lb
 v2:QbD n Lb Lf
 mid:∀i j,i<n->j<n->prodF n (prodF n Lf f) R i j=len i*idF i j
 pos:∀j,j<n->0<len j
 nxt:∀j,j+1<n->len j∣len (j+1)
theorem QwH{n:Nat}{f P R Rb Lf Lb:Mt2}{w W:Int}{len:Mt1}(w0:w≠0)(hd:(det n λj i=>f i j)≠0)(hP:∀i j,i<n->j<n->prodF n f P i j=w*idF i j)(rg:Qj7 n f P W R Rb len)
  (hL:∀i j,i<n->j<n->len i*prodF n Rb P i j=w*Lf i j) (hB:∀i j,i<n->j<n->prodF n f R i j=len j*Lb i j):Qsy n f Lf R Lb Rb len:=by
 have hPA:=Qt1 hd hP;have key:∀i j,i<n->j<n->prodF n (prodF n Rb P) (prodF n f R) i j=w*idF i j:=λi j hi hj=>by
  rw[QaZ,← QaZ n P f R,Qax (a':=Rb) (b':=λi j=>w*R i j) (λ_ _=>rfl) λk hk=>?_]
  ·have:prodF n Rb (λi j=>w*R i j) i j=w*prodF n Rb R i j:=by
    unfold prodF;rw[← QU];exact Qp λl _=>ZN _ _ _
   rw[this,rg.u2 i j hi hj]
  ·rw[Qax (a':=λi j=>w*idF i j) (b':=R) (λl hl=>hPA k l hk hl) (λ_ _=>rfl)];have:prodF n (λi j=>w*idF i j) R k j=w*prodF n idF R k j:=by
    unfold prodF;rw[← QU];exact Qp λl _=>Zx _ _ _
   rw[this,QcD _ _ hk]
 have kL:∀i j,i<n->j<n->w*prodF n Lf (prodF n f R) i j=len i*(w*idF i j):=λi j hi hj=>by
  rw[← key i j hi hj];unfold prodF;rw[← QU,← QU];refine Qp λk hk=>?_;have:=hL i k hi hk;unfold prodF at this;rw[← Zx,← this,Zx]
 refine⟨rg.u1,rg.u2,λi j hi hj=>?_,λi j hi hj=>?_,λi j hi hj=>?_,rg.pos,rg.nxt⟩
 ·have h1:=kL i j hi hj;have h2:prodF n Lf (prodF n f R) i j=len j*prodF n Lf Lb i j:=by
   unfold prodF;rw[← QU];refine Qp λk hk=>?_;have:=hB k j hk hj;unfold prodF at this;rw[this,ZN]
  have lj:=rg.pos j hj;have h3:w*len j*prodF n Lf Lb i j=w*len j*idF i j:=by
   rw[Zx,← h2,h1];unfold idF;by_cases e:i=j
   ·subst e;rw[if_pos rfl];grind
   ·rw[if_neg e];grind
  exact Zaa (Int.mul_ne_zero w0 ⋯) h3
 ·have h1:w*prodF n Lb Lf i j=w*idF i j:=by
   rw[← hP i j hi hj];have e:prodF n f P i j=prodF n (prodF n f R) (prodF n Rb P) i j:=by
    have hk':∀k,k<n->prodF n (prodF n R Rb) P k j=P k j:=λk hk=>by
     rw[Qax (a':=idF) (b':=P) (λl hl=>rg.u1 k l hk hl) (λ_ _=>rfl),QcD _ _ hk]
    rw[QaZ,← QaZ n R Rb P];exact Qax (λ_ _=>rfl) λk hk=>(hk' k hk).symm
   rw[e];show w*Qq n (λk=>Lb i k*Lf k j)=Qq n λk=>prodF n f R i k*prodF n Rb P k j;rw[← QU];exact Qp λk hk=>by rw[hB i k hi hk,ZN,← hL k j hk hj];grind
  exact Zaa w0 h1
 ·rw[QaZ];have h1:=kL i j hi hj;have:w*prodF n Lf (prodF n f R) i j=w*(len i*idF i j):=by rw[h1];exact ZN _ _ _
  exact Zaa w0 this
noncomputable def Qoh(QdA:Den)(Qdm:Den)(Qe3:Den)(QaV:Den)(QdJ:Den)(QbJ:Den)(Q5:Den):DS:=(Qd (Qo 1 (Qf 1 QdA [] (Qa vv0 Qc))) (Qd (Qo 2 (Qf 2 Qdm [] (Qa (Qm vv1 kk0) (Qa (Qm vv1 kk1) Qc)))) (Qd (Qo 3 (Qal (Qm vv2 kk0))) (Qd (Qo 4 (Qal (Qm vv2 kk1))) (Qd (Qo 5 (Qal (Qm vv2 kk2))) (Qd (Qo 6 (QG (Qaq (Qf 1 QaV [] (Qa (dBf Qa3 (Qa vv0 Qc)) Qc)) vv5) (.tp [1,2]) [none,none,none] QO (Qf 2 Qe3 [] (Qa vv1 (Qa vv2 Qc))))) (Qd (Qo 7 (QG (QW (Qf 2 QbJ [] (Qa vv6 (Qa (Qf 2 QbJ [] (Qa vv4 (Qa (Qm vv1 kk0) Qc))) Qc)))) (.nm 1) [none,none,some 1] QO (Qf 2 QdJ [] (Qa vv1 (Qa (Qm vv2 kk1) Qc))))) (Qd (Qo 8 (Qf 1 Q5 [] (Qa (QG (Qaq (Qf 1 Q5 [] (Qa (Qf 2 QbJ [] (Qa vv0 (Qa vv3 Qc))) Qc)) vv5) (.tp [1,2]) [none,none,none] QO (Qf 2 QdJ [] (Qa vv1 (Qa vv2 Qc)))) Qc))) (Qd (QC (Qar (Qa vv7 (Qa vv6 (Qa vv3 (Qa vv8 (Qa vv4 Qc))))))) Qh)))))))))
noncomputable def QbT(len:Mt1):Nat->Nat->Int:=λi j=>len i*idF i j
def Qj2(d:Den):Prop:=∀(n:Nat) (f:Mt2),0<n->n<=8->(∀i j,i<n->j<n->(f i j).natAbs<=2^240)->(det n λj i=>f i j)≠0->∃(Lf R Lb Rb:Mt2) (len:Mt1),d [Qe n n f]=some (.tup [Qe n n Lf,Qe n n (QbT len),Qe n n R,Qe n n Lb,Qe n n Rb],false)/\Qsy n f Lf R Lb Rb len/\QaB n 200000 Lf/\QaB n 130000 R/\QaB n 200000 Lb/\QaB n 130000 Rb/\∀j,j<n->(len j).natAbs<2^1999
theorem Qu6(hb:QmE db)(hr:QmN dr)(hn:Qnu dn)(hu:Qho du)(hs:Qh0 ds)(hp:Qgw dp)(ht:QcX dt):Qj2 (Qu 9 (Qoh db dr dn du ds dp dt)):=λn f n0 n8 hf hd=>by
 obtain⟨P,eb,hP,bP,wl⟩:=hb n f n8 hf hd;obtain⟨w,hw⟩:∃w,w=det n λj i=>f i j:=⟨_,rfl⟩;rw[← hw]at eb wl hd;have hP:∀i j,i<n->j<n->prodF n f P i j=w*idF i j:=λi j hi hj=>by rw[hP i j hi hj,← hw]
 obtain⟨R,Rb,len,er,rg,bR,bB,ll⟩:=hr n f P w n0 n8 hd wl hP;have wl':w.natAbs<2^2000:=ZbY wl (Nat.pow_lt_pow_right (by decide) (by decide));have ll':∀j,j<n->(len j).natAbs<2^2000:=λj hj=>ZbY (ll j hj) (Nat.pow_lt_pow_right (by decide) (by decide));obtain⟨Lf,hL⟩:∃Lf:Nat->Nat->Int,∀i j,i<n->j<n->len i*prodF n Rb P i j=w*Lf i j:=by
  refine⟨λi j=>len i*prodF n Rb P i j / w,λi j hi hj=>(Int.mul_ediv_cancel' ?_).symm⟩;exact Int.natAbs_dvd.mp (rg.row j i hj hi)
 obtain⟨Lb,hB⟩:∃Lb:Nat->Nat->Int,∀i j,i<n->j<n->prodF n f R i j=len j*Lb i j:=
  ⟨λi j=>prodF n f R i j / len j,λi j hi hj=>(Int.mul_ediv_cancel' (rg.col i j hi hj)).symm⟩
 have BP:QaB n 1999 P:=λi j hi hj=>Zbc (bP i j hi hj);have BQ:=bB.prod n8 BP;have Bf:QaB n 240 f:=hf;have BM:=Bf.prod n8 bR;have Bm:QaB n 1999 (QbT len):=λi j hi hj=>by
  unfold QbT idF;split
  ·rw[Zae];exact Zbc (ll i hi)
  ·rw[ZJ];exact Zab _
 have BmQ:=Bm.prod n8 BQ;have mQ:∀i j,i<n->j<n->prodF n (QbT len) (prodF n Rb P) i j=w*Lf i j:=λi j hi hj=>by
  rw[← hL i j hi hj];show(Qq n λk=>QbT len i k*prodF n Rb P k j)=_;rw[QcE hi λk hk ne=>by unfold QbT idF;rw[if_neg (Ne.symm ne),ZJ,ZG]];unfold QbT idF;rw[if_pos rfl,Zae]
 have dvL:∀a b c:Int,a=b*c->b≠0->c.natAbs<=a.natAbs:=λa b c h hb=>by
  rw[h,Zak];exact Nat.le_mul_of_pos_left _ ⋯
 have BL:QaB n 200000 Lf:=λi j hi hj=>Zo (dvL _ _ _ (mQ i j hi hj) hd) (BmQ.mono (by decide) i j hi hj);have BLb:QaB n 200000 Lb:=λi j hi hj=>Zo (dvL _ _ _ (hB i j hi hj) (by have:=rg.pos j hj;omega)) (BM.mono (by decide) i j hi hj);refine⟨Lf,R,Lb,Rb,len,QN ?_,QwH hd (by rw[← hw];exact hd) hP rg hL hB,BL,bR,BLb,bB,ll⟩;refine rsa (Qi rfl eb rfl) ?_;refine rsa (Qi rfl er rfl) ?_;refine run_seq (QA (Qbk rfl) ?_);refine run_seq (QA (Qbk rfl) ?_);refine run_seq (QA (Qbk rfl) ?_);change Run _ [slF (Qe n n f),slT (.tup [Qe n n P,.int w]),slF (.tup [Qe n n R,Qe n n Rb,Qb n len]),slF (Qe n n R),slF (Qe n n Rb),slF (Qb n len),none,none,none] _;refine rsa (QE (List.range n) (Qa5 (Qi (Qn (Qd1 rfl rfl) (QP _)) (hu n ⋯) rfl) rfl rfl rfl) rfl λi hi=>⟨[none,slF (Qb n (idF i)),slI (len i)],rfl,reT (Qb n (QbT len i)),Qi rfl (hn n (idF i) (len i) (QbA (ll' i (Zg.mp hi))) λj _=>QbA (by unfold idF;split<;>exact Zp (by decide) (Zr (by decide) (show 1<=2000 by decide)))) rfl,rfl,rfl⟩) ?_;change Run _ [slF (Qe n n f),slT (.tup [Qe n n P,.int w]),slF (.tup [Qe n n R,Qe n n Rb,Qb n len]),slF (Qe n n R),slF (Qe n n Rb),slF (Qb n len),slT (Qe n n (QbT len)),none,none] _;have eQ:Qf 2 dp [] (Qa (Ql 4) (Qa (Qm (Ql 1) (dC (.int 0))) Qc)) [slF (Qe n n f),slT (.tup [Qe n n P,.int w]),slF (.tup [Qe n n R,Qe n n Rb,Qb n len]),slF (Qe n n R),slF (Qe n n Rb),slF (Qb n len),slT (Qe n n (QbT len)),none,none]=some (reT (Qe n n (prodF n Rb P))):=Qi rfl (hp n Rb P ⋯ (bB.bits (by decide)) (BP.bits (by decide))) rfl;have eMQ:Qf 2 dp [] (Qa (Ql 6) (Qa (Qf 2 dp [] (Qa (Ql 4) (Qa (Qm (Ql 1) (dC (.int 0))) Qc))) Qc)) [slF (Qe n n f),slT (.tup [Qe n n P,.int w]),slF (.tup [Qe n n R,Qe n n Rb,Qb n len]),slF (Qe n n R),slF (Qe n n Rb),slF (Qb n len),slT (Qe n n (QbT len)),none,none]=some (reT (Qe n n (prodF n (QbT len) (prodF n Rb P)))):=Qi (Qn rfl (Qn eQ (QP _))) (hp n _ _ ⋯ (Bm.bits (by decide)) (BQ.bits (by decide))) rfl;refine rsa (QE (List.range n) (Q2 eMQ rfl) rfl λi hi=>⟨[none,slF (Qb n (prodF n (QbT len) (prodF n Rb P) i)),slF (.tup [Qe n n P,.int w])],rfl,reT (Qb n (Lf i)),Qi rfl (hs n _ (Lf i) w hd wl' λj hj=>mQ i j (Zg.mp hi) hj) rfl,rfl,rfl⟩) ?_;change Run _ [slF (Qe n n f),slT (.tup [Qe n n P,.int w]),slF (.tup [Qe n n R,Qe n n Rb,Qb n len]),slF (Qe n n R),slF (Qe n n Rb),slF (Qb n len),slT (Qe n n (QbT len)),slT (Qe n n Lf),none] _;have eM:Qf 2 dp [] (Qa (Ql 0) (Qa (Ql 3) Qc)) [slF (Qe n n f),slT (.tup [Qe n n P,.int w]),slF (.tup [Qe n n R,Qe n n Rb,Qb n len]),slF (Qe n n R),slF (Qe n n Rb),slF (Qb n len),slT (Qe n n (QbT len)),slT (Qe n n Lf),none]=some (reT (Qe n n (prodF n f R))):=Qi rfl (hp n f R ⋯ (Bf.bits (by decide)) (bR.bits (by decide))) rfl;have eT:Qf 1 dt [] (Qa (Qf 2 dp [] (Qa (Ql 0) (Qa (Ql 3) Qc))) Qc) [slF (Qe n n f),slT (.tup [Qe n n P,.int w]),slF (.tup [Qe n n R,Qe n n Rb,Qb n len]),slF (Qe n n R),slF (Qe n n Rb),slF (Qb n len),slT (Qe n n (QbT len)),slT (Qe n n Lf),none]=some (reT (Qe n n (λj i=>prodF n f R i j))):=Qi (Qn eM (QP _)) (ht n _ ⋯) rfl;refine rsa (Qi (Qn (QE (List.range n) (Qa5 eT rfl rfl rfl) rfl λi hi=>⟨[none,slF (Qb n (λj=>prodF n f R j i)),slI (len i)],rfl,reT (Qb n λj=>Lb j i),Qi rfl (hs n _ (λj=>Lb j i) (len i) (by have:=rg.pos i (Zg.mp hi);omega) (ll' i (Zg.mp hi)) λj hj=>hB j i hj (Zg.mp hi)) rfl,rfl,rfl⟩) (QP _)) (ht n _ ⋯) rfl) ?_;exact Qy rfl ⟨rfl,rfl⟩
def Qlo(d:Den):Prop:=∀(N k:Nat) (a p q:Mt1) (b:Int),k<N->b≠0->b.natAbs<2^2000->(∀j,j<N->QaM (a j)/\QaM (p j))->(∀j,j<N->p k*a j-a k*p j=b*q j)->d [Qb N a,Qb N p,.int k,.int b]=some (Qb N q,true)
theorem QuQ:Qlo (Qu 4 QqC):=λN k a p q b hk hb hb2 hs hq=>
 QN (Qy (QE (List.range N) (Qa5 rfl rfl rfl rfl) rfl λi hi=>⟨[none,slI (a i),slI (p i),slI k,slI b,slF (Qb N a),slF (Qb N p)],rfl,reI (q i),by
  have hi':=Zg.mp hi;refine QeG (Qf4 (Q8 (Qa2 rfl rfl rfl rfl hk) rfl rfl rfl (QdT (hs k hk).2 (hs i hi').1)) rfl (Q8 (Qa2 rfl rfl rfl rfl hk) rfl rfl rfl (QdT (hs k hk).1 (hs i hi').2)) rfl) rfl rfl rfl hb hb2 (hq i hi'),rfl,rfl⟩) ⟨rfl,rfl⟩)
theorem Qx6(hm:Qpy n m)(hi:i<n)(ha:∀r,r<n->(a r).natAbs<=B):(det n (cup m i a)).natAbs<=n*(B*bnd (2^240) n):=by
 have e:det n (cup m i a)=sm n λs=>a s*det n (cup m i (QI s)):=by
  rw[← Qd0 hi a QI n];refine Q1 λj hj r hr=>?_;by_cases q:j=i
  ·subst q;rw[QJ,QJ,Qds hr λs _ ne=>by unfold QI;rw[if_neg ne,ZJ]];unfold QI;rw[if_pos rfl,Zae]
  ·rw[QH _ _ q,QH _ _ q]
 rw[e,Qcu];refine QpP λs hs=>?_;rw[Zak];exact ZaW (ha s hs) (QdZ (hm.put λr _=>by unfold QI;split<;>decide))
theorem QbZ.QuU{n N k:Nat}{A m R:Mt2}{d:Int}(h:QbZ n N k A m R d)(hn:n<=8)(hA:∀j,j<n->∀r,r<n->(A j r).natAbs<=2^240)(hB:∀j,j<N->∀r,r<n->(A j r).natAbs<=2^200000):d.natAbs<2^2000/\∀i j,i<n->j<N->QaM (R i j):=by
 have b:=Ql7 hn;refine⟨by rw[← h.clr.det];exact ZV (QdZ h.col) b,λi j hi hj=>?_⟩;rw[h.clr.ent i j hi hj];refine QkR (k:=202004) ?_ (by decide);refine ZV (Qx6 h.col hi (hB j hj)) ?_;have h1:n*(2^200000*bnd (2^240) n)<=8*(2^200000*2^2000):=ZaW hn (Nat.mul_le_mul_left _ (Zbc b));refine ZV h1 ?_;rw[← Nat.pow_add,show(8:Nat)=2^3 from rfl,← Nat.pow_add];exact Nat.pow_lt_pow_right (by decide) (by decide)
theorem QbZ.QCz{n N k:Nat}{A m R R':Mt2}{d:Int}(h:QbZ n N k A m R d)(hk:k<n)(kN:k<N)(hA:∀j,j<n->∀r,r<n->(A j r).natAbs<=2^240)(hp:R k k≠0)(h1:∀j,j<N->R' k j=R k j)(h2:∀i j,i<n->i≠k->j<N->∀q,R k k*R i j-R i k*R k j=d*q->R' i j=q):QbZ n N (k+1) A (cup m k (A k)) R' (R k k):=
 ⟨h.clr.step hk kN hp h1 h2,h.col.put (hA k hk)⟩
def QfA(d:Den):Prop:=∀(n N:Nat) (A:Mt2),n<=8->n<=N->(∀j,j<n->∀r,r<n->(A j r).natAbs<=2^240)->(∀j,j<N->∀r,r<n->(A j r).natAbs<=2^200000)->∃R,d [Qe n N (λi j=>A j i)]=some (.tup [Qe n N R,.int (det n A)],false)/\(det n A≠0->∃m,QbZ n N n A m R (det n A))
theorem QqJ(hp:Qk5 dp)(ht:Qlo dt):QfA (Qu 5 (Qjv dp dt)):=λn N A n8 hN hA hB=>by
 have key:Run (Qjv dp dt) [slF (Qe n N (λi j=>A j i)),none,none,none,none] λo=>match o with | .rt d fr=>fr=false/\∃R,d= .tup [Qe n N R,.int (det n A)]/\(det n A≠0->∃m,QbZ n N n A m R (det n A)) | _=>False:=by
  refine run_seq (QA (Qbk rfl) ?_);refine rsa rfl ?_;refine Qv (Qav (List.range n) (λk U=>∃m R b j3 j4,QbZ n N k A m R b/\U=[slF (Qe n N (λi j=>A j i)),slF (Qe n N R),slI b,j3,j4]) (Qbl (Qd1 rfl rfl) rfl ⋯) rfl ⟨_,_,_,none,none,QbZ.start n N A,rfl⟩ ?_ ?_)
  ·rintro k k' U hk ⟨m0,R0,b,j3,j4,C0,rfl⟩;obtain⟨hkn,rfl⟩:=QeF hk;have kN:k<N:= ⋯
   obtain⟨R,ep,hR⟩:=hp n N k R0 hkn ⋯ kN;have hC:∃m,QbZ n N k A m R b/\(R k k=0->det n A=0):=by
    rcases hR with⟨rfl,hz⟩ | ⟨i,h1,h2,h3,rfl⟩
    ·exact⟨m0,C0,λz=>C0.clr.stuck hkn kN (hz z)⟩
    ·obtain⟨m',C'⟩:=C0.swap hkn h2 h1;refine⟨m',C',λz=>absurd z ?_⟩;unfold Qda;rw[if_neg ⋯,if_pos rfl];exact h3
   obtain⟨m,C,hzero⟩:=hC;obtain⟨sb,sR⟩:=C.QuU n8 hA hB;refine⟨[slF (Qe n N (λi j=>A j i)),slF (Qe n N R0),slI b,slI k,j4],rfl,?_⟩;refine run_seq (QA (r:=reF (Qe n N R)) ((QeQ (r:=⟨[Qe n N R0,.int k],false,[]⟩) rfl ep rfl).trans rfl) ?_);refine run_seq (QA ((Qbk (QjQ rfl rfl rfl rfl ⋯ ⋯)).trans rfl) ?_);refine Qv (QB (QQ (Qbu (Qa2 rfl rfl rfl rfl kN) rfl rfl rfl) rfl) (λh=>?_) (λh=>Qj ?_))
   ·have dz:=hzero (of_decide_eq_true h);refine Qv (Qa6 rfl ?_);exact⟨rfl,R,by rw[dz],λz=>absurd dz z⟩
   have pv:R k k≠0:=of_decide_eq_false h;have ex:∀i j,∃q,i<n->i≠k->j<N->R k k*R i j-R i k*R k j=b*q:=λi j=>by
    by_cases h:i<n/\i≠k/\j<N
    ·exact⟨_,λh1 h2 h3=>C.clr.exact hkn kN h1 h3 h2⟩
    ·exact⟨0,λh1 h2 h3=>absurd ⟨h1,h2,h3⟩ h⟩
   have zz:∀j,R k k*R k j-R k k*R k j=b*0:=λj=>by rw[Zbt,ZJ]
   have eT:∀i,i<n->dt [Qb N (R i),Qb N (R k),.int k,.int b]=slT (Qb N (λj=>if i=k then 0 else(ex i j).choose)):=λi hi=>
    ht N k (R i) (R k) _ b kN C.clr.nz sb (λj hj=>⟨sR i j hi hj,sR k j hkn hj⟩) λj hj=>by
     by_cases e:i=k
     ·rw[if_pos e,e];exact zz j
     ·rw[if_neg e];exact(ex i j).choose_spec hi e hj
   refine rsa (QE (List.range n) (Q2 rfl rfl) rfl λi hi=>⟨[none,slF (Qb N (R i)),slI k,slI b,slF (Qb N (R k))],rfl,reT (Qb N (λj=>if i=k then 0 else(ex i j).choose)),Qi rfl (eT i (Zg.mp hi)) rfl,rfl,rfl⟩) ?_;refine run_seq (QuD rfl rfl rfl hkn ?_);refine run_seq (QA ((Qbk (Qa2 rfl rfl rfl rfl kN)).trans rfl) (Qj ?_));rw[QdO rfl];refine⟨_,_,_,_,_,C.QCz (R':=λi j=>if i=k then R k j else(λi j=>if i=k then 0 else(ex i j).choose) i j) hkn kN hA pv (λj _=>by show(if k=k then R k j else _)=_;rw[if_pos rfl]) (λi j hi ne hj q hq=>?_),rfl⟩;show(if i=k then R k j else if i=k then 0 else(ex i j).choose)=q;rw[if_neg ne,if_neg ne];exact Zaa C.clr.nz (((ex i j).choose_spec hi ne hj).symm.trans hq)
  ·rintro U ⟨m,R,b,j3,j4,C,rfl⟩;rw[ZC]at C;have hb:=C.clr.all;subst hb;exact Qy rfl ⟨rfl,R,rfl,λ_=>⟨m,C⟩⟩
 obtain⟨o,h1,h2⟩:=key;cases o with
 | rt d fr=>
  obtain⟨rfl,R,rfl,C⟩:=h2;exact⟨R,by show Option.bind (Qjv dp dt [slF (Qe n N (λi j=>A j i)),none,none,none,none]) outD=_;rw[h1];rfl,C⟩
 | _=>exact h2.elim
def Qhh(d:Den):Prop:=∀(n N:Nat) (A:Mt2),n<=8->n<=N->(∀j,j<n->∀r,r<n->(A j r).natAbs<=2^240)->(∀j,j<N->∀r,r<n->(A j r).natAbs<=2^200000)->det n A≠0->∃m R b,d [Qe n N (λi j=>A j i)]=some (.tup [Qe n N R,.int b],false)/\QbZ n N n A m R b
theorem QoM(hc:QfA dc):Qhh (Qu 2 (Qd4 dc)):=λn N A n8 hN hA hB hd=>by
 obtain⟨R,ec,hC⟩:=hc n N A n8 hN hA hB;obtain⟨m,C⟩:=hC hd;refine⟨m,R,det n A,QN ?_,C⟩;refine run_seq (QA ((QeQ (r:=⟨[Qe n N (λi j=>A j i)],false,[]⟩) rfl ec rfl).trans rfl) ?_);refine Qv (QB (b:=false) (QQ (Qbu rfl rfl rfl rfl) (by simp[hd])) (λh=>by cases h) (λ_=>Qj ?_));exact Qy rfl ⟨rfl,rfl⟩
def QgL(d:Den):Prop:=∀(n:Nat) (f:Mt2) (row:Mt1),n<=8->(∀j r,j<n->r<n->(f j r).natAbs<=2^240)->(∀r,r<n->(row r).natAbs<=2^200000)->det n f≠0->∃tops q,d [Qe n n f,Qb n row]=some (.tup [Qb n tops,.int q],true)/\0<q/\q.natAbs<2^2000/\(∀r,r<n->q*row r=sm n λl=>tops l*f l r)/\((∀r,r<n->(row r).natAbs<=2^240)->∀l,l<n->(tops l).natAbs<2^2000)/\(∀t,t∣q->(∀l,l<n->t∣tops l)->t.natAbs=1)
theorem QrO(ht:QcX dt)(hc:Qhh dc)(hl:QfQ dl)(hm:QhT dm):QgL (Qu 6 (Qp7 dt dc dl dm)):=λn f row n8 hf hr hL=>by
 have hA:∀j,j<n->∀r,r<n->((λj r=>if j=n then row r else f j r) j r).natAbs<=2^240:=λj hj r hr'=>by
  show(if j=n then row r else f j r).natAbs<=_;rw[if_neg ⋯];exact hf j r hj hr'
 have hB:∀j,j<n+1->∀r,r<n->((λj r=>if j=n then row r else f j r) j r).natAbs<=2^200000:=λj hj r hr'=>by
  show(if j=n then row r else f j r).natAbs<=_;split
  ·exact hr r hr'
  ·exact Zo (hf j r ⋯ hr') (Zr (by decide) (by decide))
 have hL':det n (λj r=>if j=n then row r else f j r)≠0:=by
  rw[Q1 (k:=f) λj hj r _=>by rw[if_neg ⋯]];exact hL
 obtain⟨m,R,b,ec,C⟩:=hc n (n+1) _ n8 ⋯ hA hB hL';obtain⟨sb,sR⟩:=C.QuU n8 hA hB;obtain⟨g,eg,g0,hg⟩:=hm ((List.range (n+1)).map (up (λi=>R i n) n b));have gb:g∣b:=(hg g).mp ⟨1,⋯⟩ b (ZL.mpr ⟨n,Zg.mpr ⋯,by rw[Qco,if_pos rfl]⟩);have gR:∀i,i<n->g∣R i n:=λi hi=>(hg g).mp ⟨1,⋯⟩ _ (ZL.mpr ⟨i,Zg.mpr ⋯,by rw[Qco,if_neg ⋯]⟩);have bz:=C.clr.nz;have gz:g≠0:=λz=>by rw[z]at gb;obtain⟨x,hx⟩:=gb;rw[ZG]at hx;exact bz hx
 obtain⟨p,hp⟩:∃p,p=if b<0 then 0-g else g:=⟨_,rfl⟩;have pz:p≠0:=by rw[hp];split<;>omega
 have pd:∀x,g∣x->∃y,x=p*y:=λx Z=>by
  obtain⟨y,hy⟩:=Z;rw[hp];split
  ·exact⟨-y,by rw[hy,Zan,Int.neg_mul_neg]⟩
  ·exact⟨y,hy⟩
 obtain⟨q,hq⟩:=pd b gb;have tp:∀i,∃y,i<n->R i n=p*y:=λi=>by
  by_cases h:i<n
  ·obtain⟨y,hy⟩:=pd _ (gR i h);exact⟨y,λ_=>hy⟩
  ·exact⟨0,λh'=>absurd h' h⟩
 have gle:g.natAbs<=b.natAbs:=Zaf.mpr gb |> λh=>Zbi ⋯ h;have ple:p.natAbs<2^2000:=by rw[hp];split<;>omega
 have q0:0<q:=by
  by_cases h:b<0
  ·rw[if_pos h]at hp;refine ZO λz=>?_;have:=Int.mul_nonneg_of_nonpos_of_nonpos (a:=p) (b:=q) ⋯ ⋯;omega
  ·rw[if_neg h]at hp;refine ZO λz=>?_;have:=ZaM (a:=p) (b:=q) ⋯ ⋯;omega
 have qle:q.natAbs<2^2000:=by
  have:q∣b:=⟨p,by rw[hq,ZP]⟩;have:=Zbi ⋯ (Zaf.mpr this);omega
 have low:∀t,t∣q->(∀l,l<n->t∣(tp l).choose)->t.natAbs=1:=λt tq all=>by
  have bg:p*t∣g:=(hg (p*t)).mpr λx hx=>by
   obtain⟨i,hi,rfl⟩:=ZL.mp hx;rw[Qco];split
   ·obtain⟨y,hy⟩:=tq;exact⟨y,by rw[hq,hy,Zx]⟩
   ·rename_i z;have hi':i<n:=by have:=Zg.mp hi;omega
    obtain⟨y,hy⟩:=all i hi';exact⟨y,by rw[(tp i).choose_spec hi',hy,Zx]⟩
  have pg:p.natAbs=g.natAbs:=by rw[hp];split<;>omega
  have h1:=Zbi ⋯ (Zaf.mpr bg);rw[Zak,pg]at h1;have t0:t≠0:=λz=>by
   obtain⟨y,hy⟩:=tq;rw[z,ZG]at hy;omega
  have h2:t.natAbs<2:=by
   refine ZO λh=>?_;have h3:=Nat.mul_le_mul_left g.natAbs (show 2<=t.natAbs by omega);omega
  omega
 have tops_small:(∀r,r<n->(row r).natAbs<=2^240)->∀l,l<n->((tp l).choose).natAbs<2^2000:=λhr2 l hl=>by
  have h:=(tp l).choose_spec hl;have:=(C.small n8 λj hj r hr'=>by
   show(if j=n then row r else f j r).natAbs<=_;split
   ·exact hr2 r hr'
   ·exact hf j r ⋯ hr').2 l n hl ⋯
  by_cases z:(tp l).choose=0
  ·rw[z];exact ZV (Zab _) this
  ·have d:(tp l).choose∣R l n:=⟨p,by rw[ZP];exact h⟩;have nz:R l n≠0:=by rw[h];exact Int.mul_ne_zero pz z
   have:=Zbi ⋯ (Zaf.mpr d);omega
 refine⟨λi=>(tp i).choose,q,QN ?_,q0,qle,λr hr'=>?_,tops_small,low⟩
 ·refine rsa (Qd1 (n:=n) rfl rfl) ?_;refine Qv (QB (QQ (r:=reT (.bl false)) ((Qc4 ((Qfb rfl rfl).trans (by rw[Zq,ZC])) rfl rfl rfl).trans (by simp)) rfl) (λh=>by cases h) (λ_=>Qj ?_));have et:=ht n f ⋯;have eZ:QG (Qaq (Qf 1 dt [] (Qa (Ql 0) Qc)) (Ql 1)) (.tp [1,2]) [none,none,none] QO (QL (Ql 1) (QX (Qa (Ql 2) Qc))) [slF (Qe n n f),slF (Qb n row),slI n,none,none,none]=some (reT (Qe n (n+1) (λi j=>(λj r=>if j=n then row r else f j r) j i))):=by
   refine(QE (List.range n) (Qa5 (Qi (r:=⟨[Qe n n f],false,[]⟩) rfl et rfl) rfl rfl rfl) rfl λi hi=>⟨[none,slF (Qb n (λj=>f j i)),slI (row i)],rfl,reT (Qb (n+1) (up (λj=>f j i) n (row i))),Qf3 rfl rfl rfl ⋯,rfl,rfl⟩).trans ?_;have eT:Qe n (n+1) (λi j=>(λj r=>if j=n then row r else f j r) j i)= .lst ((List.range n).map λi=>Qb (n+1) (up (λj=>f j i) n (row i))):=by
    unfold Qe;refine congrArg D.lst (ZI λi _=>?_);unfold Qb;exact congrArg D.lst (ZI λj _=>by rw[Qco])
   rw[eT]
  refine run_seq (QA ((QeQ (Qn eZ (QP _)) ec rfl).trans rfl) ?_);refine rsa (Qi rfl (hl n (n+1) R n ⋯) rfl) ?_;refine rsa (Qi (Qn (Qf3 rfl rfl rfl ⋯) (QP _)) (by show dm [Qb (n+1) (up (λi=>R i n) n b)]=_;rw[Qla];exact eg) rfl) ?_;refine QbO (P:=λU=>U=[slF (Qe n n f),slF (Qb n row),slI n,slF (.tup [Qe n (n+1) R,.int b]),slT (Qb n (λi=>R i n)),slI p]) ?_ ?_
  ·refine QB (QQ (QaN rfl rfl rfl) rfl) (λh=>?_) (λh=>?_)
   ·refine run_seq (QA rfl (Qj ?_));rw[Q4,hp,if_pos (of_decide_eq_true h)];rfl
   ·refine Qj ?_;rw[hp,if_neg (of_decide_eq_false h)];rfl
  ·rintro U rfl;refine Qy (r:=reT (.tup [Qb n λi=>(tp i).choose,.int q])) ?_ ⟨rfl,rfl⟩;unfold Qar;refine(congrArg (λz=>Option.bind z _) (Qn (QE (List.range n) (Q2 rfl rfl) rfl λi hi=>⟨[none,slI (R i n),slI p],rfl,reT (.int (tp i).choose),QeG rfl rfl rfl rfl pz ple ((tp i).choose_spec (Zg.mp hi)),rfl,rfl⟩) (Qn (QeG rfl rfl rfl rfl pz ple hq) (QP _)))).trans ?_;rfl
 ·have t:=C.clr.tell (j:=n) ⋯ hr';have t:b*row r=sm n λl=>R l n*m l r:=by
   have e:(if n=n then row r else f n r)=row r:=if_pos rfl;rw[← e];exact t
  rw[QbB (g:=λl=>((tp l).choose*f l r)*p) λl hl=>by
   rw[C.clr.own l hl];show R l n*(if l=n then row r else f l r)=_;rw[if_neg ⋯,ZP _ p,← Zx,← (tp l).choose_spec hl],Qnd,hq]at t
  refine Zaa pz ?_;rw[← Zx,t,ZP]
def QmF(d:Den):Prop:=∀(m:Nat) (R L:Lpp) (f:Mt1),m<=8->Qbi m R L->(∀j,j<m->(f j).natAbs<=2^200000)->∃c,d [Qz m R L,Qb m f]=some (Qb m c,true)/\∀r,r<m-> -(2^67)<=QD m (Qw m (Qt R L)) f c r/\QD m (Qw m (Qt R L)) f c r<=2^67
theorem Qwt(ht:QfZ dt)(hs:QgL ds):QmF (Qu 3 (Qol dt ds)):=λm R L f m8 hw hf=>by
 have hg:=hw.good;have tp:=hw.tp;have et:=ht m R L ⋯ ⋯ hg.1 hg.2.1;generalize Qw m (Qt R L)=T at *;obtain⟨tops,q,es,q0,q1,hq,_⟩:=hs m (λi j=>0-T i j) f m8 (λj r hj hr=>by have:=tp.bnd j r hj hr;have:(2:Nat)^64<=2^240:=Zr (by decide) (by decide);omega) hf (Qkb (λj hj r hr=>by have:=tp.bnd j r hj hr;have:(2:Nat)^64<=2^200:=Zr (by decide) (by decide);omega) (QhB tp));refine⟨λl=>tops l / q,QN ?_,QuX m8 tp.bnd q0 hq⟩;refine rsa (Qi (Qn (Qi rfl et rfl) (Qn rfl (QP _))) es rfl) ?_;refine Qy (QE (List.range m) (Q2 rfl rfl) rfl λi _=>⟨[none,slI (tops i),slF (.tup [Qb m tops,.int q])],rfl,reI (tops i / q),QmC rfl rfl rfl rfl q0 q1,rfl,rfl⟩) ⟨rfl,rfl⟩
def Qlp(d:Den):Prop:=∀(m:Nat) (R L:Lpp) (f:Mt1),0<m->m<=8->Qbi m R L->(∀j,j<m->(f j).natAbs<=2^200000)->∃k v,d [Qz m R L,Qb m f]=some (.tup [Qb m (QD m (Qw m (Qt R L)) f k),Qb m k],true)/\Dbl m (Qw m (Qt R L)) v/\Rec m (Qw m (Qt R L)) v (QD m (Qw m (Qt R L)) f k)/\Stb m (Qw m (Qt R L)) (QD m (Qw m (Qt R L)) f k)/\∀j,j<m->0<=QD m (Qw m (Qt R L)) f k j
set_option maxHeartbeats 0 in
theorem Qu2(hn:Qe8 dn)(hc:QmF dc)(ha:QnD da)(hd:Qjo dd)(hs:Qj3 ds):Qlp (Qu 10 (QjX dn dc da dd ds)):=λm R L f m0 m8 hw hf=>by
 have hg:=hw.good;have tp:=hw.tp;obtain⟨c,ec,bc⟩:=hc m R L f m8 hw hf;have ea:=ha m R L f c ⋯ ⋯ hg.1 hg.2.1;have ed:=hd m R L ⋯ ⋯ hg.1 hg.2.1;have sp:∀j,j<m->Qcy R L j=0-Qw m (Qt R L) j j:=λj hj=>(hw.neg hj).symm;rw[show(Qb m λi=>2*Qcy R L i)=Qb m λi=>2*(0-Qw m (Qt R L) i i)from congrArg D.lst (ZI λi hi=>by show D.int (2*Qcy R L i)=D.int (2*(0-Qw m (Qt R L) i i));rw[sp i (Zg.mp hi)])]at ed;obtain⟨v,ev,hv⟩:=hs m R L (λi=>2*(0-Qw m (Qt R L) i i)) m0 ⋯ hw λj hj=>by
  have:=tp.neg j hj;have:=tp.bnd j j hj hj;have:(2:Int)^66<=2^200:=by decide
  omega
 have DD:Dbl m (Qw m (Qt R L)) v:=⟨hv⟩;have still:=hs m R L;generalize Qw m (Qt R L)=T at *;generalize hlow:QD m T f c=low at *;have big:=λj hj=>DD.big (j:=j) hj;have hmo:∀j,j<m->2*(0-T j j)-QD m T (λi=>2*(0-T i i)) v j=Qcj m T v j:=λj hj=>rfl;generalize hmore:Qcj m T v=mo at *;have vb:∀l,l<m->(v l).natAbs<2^2000:=Qo3 (N:=m) m8 (g:=mo) (λj hj r hr=>by have:=tp.bnd j r hj hr;have:(2:Nat)^64<=2^200:=Zr (by decide) (by decide);omega) (QhB tp) (λr hr=>by
  have b:=big r hr;have:=tp.neg r hr;have:=tp.bnd r r hr hr;have:(2:Nat)^66<=2^200:=Zr (by decide) (by decide);omega) λr hr=>by
  rw[← hmore,Qn7,Qcu,← Qez];exact Qp λi _=>by rw[Zan,Zaq]
 obtain⟨top,⟨i0,hi0,etop⟩,hmax,evmax⟩:=Qrb (m:=1+m) ⋯ (λi=>if i<1 then 0 else 0-low (i-1) / mo (i-1));have top0:0<=top:=by have:=hmax 0 ⋯;rw[if_pos ⋯]at this;exact this
 have topj:∀j,j<m->0-low j / mo j<=top:=λj hj=>by
  have:=hmax (j+1) ⋯;rw[if_neg ⋯,Zbj]at this;exact this
 have mo0:∀j,j<m->0<mo j:=λj hj=>by have:=big j hj;have:=tp.neg j hj;omega
 have mo1:∀j,j<m->mo j<2^66:=λj hj=>by have:=big j hj;have:=tp.bnd j j hj hj;omega
 have topU:top<=2^67:=by
  rw[etop];split
  ·decide
  ·rename_i h;have hj:i0-1<m:= ⋯
   have b:=bc (i0-1) hj;have p:=mo0 (i0-1) hj;have: -(2^67)<=low (i0-1) / mo (i0-1):=by
    rw[Int.le_ediv_iff_mul_le p];have:=ZZ (show(1:Int)<=mo (i0-1) by omega) (show(0:Int)<=2^67 by decide);rw[Zau];omega
   omega
 have y0:∀j,j<m->0<=low j+top*mo j:=λj hj=>by
  have h1:=ZaF (topj j hj) (show 0<=mo j from Int.le_of_lt (mo0 j hj));have h2:=Zbx (low j) (mo j);have h3:=ZD (low j) (by have:=mo0 j hj;omega:mo j≠0);rw[Zan,Zau,ZP (low j / mo j)]at h1;omega
 have hi:∀j,j<m->0<=low j+(top+1)*mo j/\low j+(top+1)*mo j<2^200:=λj hj=>by
  have h1:=y0 j hj;have h2:=mo0 j hj;have h3:=mo1 j hj;have h4:=Int.mul_le_mul (show top+1<=2^67+1 by omega) (show mo j<=2^66 by omega) ⋯ (by decide);have h5:(2:Int)^67+(2^67+1)*2^66<2^200:=by decide
  have h6:=(bc j hj).2;rw[Zac,ZT]at h4 ⊢;omega
 obtain⟨u,eu,hu⟩:=still (λj=>low j+(top+1)*mo j) m0 ⋯ hw hi;have key:∀j,QD m T (λj=>low j+(top+1)*mo j) u j=QD m T f (λi=>c i-(top+1)*v i+u i) j:=λj=>by
  rw[← hlow,← hmore];unfold QD;show f j+Qq m (λi=>c i*T i j)+(top+1)*Qcj m T v j+Qq m (λi=>u i*T i j)=f j+Qq m λi=>(c i-(top+1)*v i+u i)*T i j;rw[Qn7,Zaq,← QU];have:(λi=>(c i-(top+1)*v i+u i)*T i j)=λi=>(c i*T i j+ -((top+1)*(v i*T i j)))+u i*T i j:=by
   funext i;rw[Zac,Int.sub_mul,Zx];omega
  rw[this,QaP,QaP,Qez];omega
 have row:Qb m (QD m T (λj=>low j+(top+1)*mo j) u)=Qb m (QD m T f (λi=>c i-(top+1)*v i+u i)):=congrArg D.lst (ZI λj _=>by rw[key j]);refine⟨λi=>c i-(top+1)*v i+u i,v,QN ?_,DD,⟨λj=>low j+top*mo j,u,y0,?_,λj _=>?_⟩,λj hj=>?_,λj hj=>?_⟩
 ·refine run_seq (Qcz (Qi rfl (hn m R L [f]) rfl) ?_);refine rsa (Qi rfl ec rfl) ?_;refine rsa (Qi rfl ea rfl) ?_;refine rsa (Qi (Qn rfl (Qn (Qi rfl ed rfl) (QP _))) ev rfl) ?_;refine rsa (d:=Qb m mo) (QE (List.range m) (Qa5 (Qi rfl ed rfl) rfl rfl rfl) rfl λj hj=>⟨[none,slI (2*(0-T j j)),slI (QD m T (λi=>2*(0-T i i)) v j)],rfl,reI (2*(0-T j j)-QD m T (λi=>2*(0-T i i)) v j),rfl,by rw[← hmo j (Zg.mp hj)],rfl⟩) ?_;refine rsa (Q9 (evmax (Qk9 rfl rfl (QE (List.range m) (Qa5 rfl rfl rfl rfl) rfl λj hj=>⟨[none,slI (low j),slI (mo j)],rfl,reI (0-low j / mo j),Qf4 rfl rfl (QmC rfl rfl rfl rfl (mo0 j (Zg.mp hj)) (by have:=mo0 j (Zg.mp hj);have:=mo1 j (Zg.mp hj);have:(2:Nat)^66<=2^2000:=Zr (by decide) (by decide);omega)) rfl,rfl,rfl⟩) rfl ⋯) rfl) rfl rfl rfl) ?_;refine rsa (QE (List.range m) (Qa5 rfl rfl rfl rfl) rfl λj hj=>⟨[none,slI (low j),slI (mo j),slI (top+1)],rfl,reI (low j+(top+1)*mo j),Q9 rfl rfl (Q8 rfl rfl rfl rfl (QdT (QbA (by have:(2:Nat)^68<=2^2000:=Zr (by decide) (by decide);omega)) (QbA (by have:=mo0 j (Zg.mp hj);have:=mo1 j (Zg.mp hj);have:(2:Nat)^66<=2^2000:=Zr (by decide) (by decide);omega)))) rfl,rfl,rfl⟩) ?_;refine rsa (Qi rfl eu rfl) ?_;refine run_seq (QA (QE (List.range m) (QvM rfl rfl rfl rfl rfl rfl) rfl λi hi=>⟨[none,slI (c i),slI (v i),slI (u i),slI (top+1)],rfl,reI (c i-(top+1)*v i+u i),Q9 (Qf4 rfl rfl (Q8 rfl rfl rfl rfl ?_) rfl) rfl rfl rfl,rfl,rfl⟩) ?_)
  rotate_left
  ·rw[Q4];refine Qy (r:=⟨.tup [Qb m (QD m T (λj=>low j+(top+1)*mo j) u),Qb m λi=>c i-(top+1)*v i+u i],true,[8,9]⟩) rfl ⟨by rw[row],rfl⟩
  ·exact QdT (QbA (by have:(2:Nat)^68<=2^2000:=Zr (by decide) (by decide);omega)) (QbA (vb i (Zg.mp hi)))
 ·refine⟨hu.leg.Qsz λj hj=>?_,λj hj=>?_,λj hj=>?_⟩
  ·show _=low j+top*mo j+Qcj m T v j;rw[hmore,Zac,ZT];omega
  ·have:=hu.pos j hj;rw[Qcw (g:=λj=>low j+top*mo j+Qcj m T v j) j (by show _=low j+top*mo j+Qcj m T v j;rw[hmore,Zac,ZT];omega) λi _=>rfl]at this;exact this
  ·have:=hu.stb j hj;rw[Qcw (g:=λj=>low j+top*mo j+Qcj m T v j) j (by show _=low j+top*mo j+Qcj m T v j;rw[hmore,Zac,ZT];omega) λi _=>rfl]at this;exact this
 ·rw[← key j];exact Qcw j (by show _=low j+top*mo j+Qcj m T v j;rw[hmore,Zac,ZT];omega) λi _=>rfl
 ·rw[← key j];exact hu.stb j hj
 ·rw[← key j];exact hu.pos j hj
theorem QCe.small(h:Qlp d):QhH d:=λm R L f m0 m8 hw hf=>h m R L f m0 m8 hw λj hj=>Zo (hf j hj) (Zr (by decide) (by decide))
theorem QxL.g(h:QgL d):QnZ d:=λn f row n8 hf hr hL=>by
 obtain⟨tops,q,e,q0,ql,hq,ht,hc⟩:=h n f row n8 hf (λr hr'=>Zo (hr r hr') (Zr (by decide) (by decide))) hL;exact⟨tops,q,e,q0,ql,hq,ht hr,hc⟩
theorem Qws.g(h:QfA d):QhR d:=λn N A n8 hN hA=>h n N A n8 hN (λj hj=>hA j ⋯) λj hj r hr=>Zo (hA j hj r hr) (Zr (by decide) (by decide))
theorem Shared.small(h:QnZ d):Qlb d:=λn f row n8 hf hr hl=>by
 have up:(2:Nat)^200<=2^240:=Zr (by decide) (by decide);obtain⟨tops,q,e,q0,ql,hq,ht,hc⟩:=h n f row n8 (λj r hj hr'=>Zo (hf j r hj hr') up) (λr hr'=>Zo (hr r hr') up) (Qkb (λj hj r hr'=>hf j r hj hr') hl);refine⟨tops,q,e,q0,ql,hq,ht,λne=>ZO λz=>ne ?_⟩;have:=hc q (Int.dvd_refl q) λl hl=>ZO λy=>z ⟨l,hl,y⟩;omega
structure QoW (m n0:Nat) (T Lf Rt Lb Rb:Mt2) (len:Mt1):Prop where
 le:n0<=m
 sm:Qsy m (QdQ T) Lf Rt Lb Rb len
 one:∀j,j<n0->len j=1
 big:∀j,n0<=j->j<m->1<len j
 bR:QaB m 130000 Rt
 bB:QaB m 130000 Rb
 ll:∀j,j<m->(len j).natAbs<2^1999
def Quw(dr:Den)(m:Nat)(T Lf Rt Lb Rb:Mt2)(len:Mt1):Prop:=dr [Qe m m (QdQ T)]=some (.tup [Qe m m Lf,Qe m m (QbT len),Qe m m Rt,Qe m m Lb,Qe m m Rb],false)
theorem QlB{len:Mt1}:∀(m:Nat),(∀j,j<m->0<len j)->(∀j,j+1<m->len j∣len (j+1))->∃n0,n0<=m/\(∀j,j<n0->len j=1)/\∀j,n0<=j->j<m->1<len j
 | 0,_,_=>⟨0,Zj _,λj hj=> ⋯,λj _ hj=> ⋯⟩
 | m+1,hp,hn=>by
  obtain⟨n0,h1,h2,h3⟩:=QlB m (λj hj=>hp j ⋯) λj hj=>hn j ⋯;by_cases e:n0=m
  ·subst e;by_cases z:len n0=1
   ·exact⟨n0+1,Zj _,λj hj=>by
     by_cases q:j=n0
     ·rw[q];exact z
     ·exact h2 j ⋯,λj a b=> ⋯⟩
   ·exact⟨n0,⋯,h2,λj a b=>by rw[show j=n0 by omega];have:=hp n0 ⋯;omega⟩
  ·refine⟨n0,⋯,h2,λj a b=>?_⟩;by_cases q:j=m
   ·subst q;have d:=hn (j-1) ⋯;rw[show j-1+1=j by omega]at d;have b1:=h3 (j-1) ⋯ ⋯;have:=Int.le_of_dvd (hp j ⋯) d;omega
   ·exact h3 j a ⋯
theorem Qbi.QCp{m:Nat}{R L:Lpp}(hw:Qbi m R L):(det m λj i=>QdQ (Qw m (Qt R L)) i j)≠0:=by
 rw[Qwl];exact Qkb hw.big (QhB hw.tp)
theorem Qum{dr:Den}(hr:Qj2 dr){m:Nat}{R L:Lpp}(m0:0<m)(m8:m<=8)(hw:Qbi m R L):∃n0 Lf Rt Lb Rb len,QoW m n0 (Qw m (Qt R L)) Lf Rt Lb Rb len/\Quw dr m (Qw m (Qt R L)) Lf Rt Lb Rb len:=by
 obtain⟨Lf,Rt,Lb,Rb,len,e,sm,_,b2,_,b4,ll⟩:=hr m (QdQ (Qw m (Qt R L))) m0 m8 (λi j hi hj=>Zo (hw.big i hi j hj) (Zr (by decide) (by decide))) hw.QCp;obtain⟨n0,h1,h2,h3⟩:=QlB m sm.pos sm.nxt;exact⟨n0,Lf,Rt,Lb,Rb,len,⟨h1,sm,h2,h3,b2,b4,ll⟩,e⟩
theorem QsR{len:Mt1}{m n0:Nat}(h1:n0<=m)(h2:∀j,j<n0->len j=1)(h3:∀j,n0<=j->j<m->1<len j):(List.range m).filter (λj=>decide (1<len j))=(List.range (m-n0)).map (n0+ ·):=by
 rw[show m=n0+(m-n0) by omega,List.range_add,List.filter_append,List.filter_eq_nil_iff.mpr λj hj=>?_,Zcf,List.filter_eq_self.mpr λj hj=>?_]
 ·rw[show n0+(m-n0)-n0=m-n0 by omega]
 ·obtain⟨i,hi,rfl⟩:=ZL.mp hj;have:=h3 (n0+i) ⋯ (by have:=Zg.mp hi;omega);simpa using this
 ·rw[h2 j (Zg.mp hj)];decide
noncomputable def QkQ:DS:=(Qd (QC (QG (Qb9 vv0) (.tp [1,2]) [none,none,none] QO (Qm vv2 vv1))) Qh)
def Qr3(d:Den):Prop:=∀(n:Nat) (len:Mt1),d [Qe n n (QbT len)]=some (Qb n len,true)
theorem QA1:Qr3 (Qu 1 QkQ):=λn len=>
 QN (Qy (QE (List.range n) (Qqo rfl rfl) rfl λi hi=>⟨[none,slI i,slF (Qb n (QbT len i))],rfl,reI (len i),(Qa2 rfl rfl rfl rfl (Zg.mp hi)).trans (by unfold QbT idF;rw[if_pos rfl,Zae]),rfl,rfl⟩) ⟨rfl,rfl⟩)
noncomputable def Qou(m:Nat)(Rt:Mt2)(f:Mt1)(j:Nat):Int:=Qq m λi=>f i*Rt i j
noncomputable def QuG(m n0:Nat)(Rt:Mt2)(len:Mt1)(f:Mt1):Nat->Int:=λj=>Qou m Rt f (n0+j) % len (n0+j)
def Qrf(d:Den):Prop:=∀(m:Nat) (R L:Lpp),m<=8->Qbi m R L->d [Qz m R L]=some (Qe m m (QdQ (Qw m (Qt R L))),true)
theorem Qzh(h:QfZ d):Qrf d:=λm R L m8 hw=>by
 have hg:=hw.good;exact h m R L ⋯ ⋯ hg.1 hg.2.1
noncomputable def Qes(QK:Den)(Q6:Den)(Qa1:Den)(Q5:Den)(QbF:Den)(QaD:Den):DS:=(Qd (Qa8 (Qf 2 QK [] (Qa vv0 (Qa (QX (Qa vv1 Qc)) Qc)))) (Qd (Qo 2 (Qf 1 Qa1 [] (Qa (Qf 1 Q6 [] (Qa vv0 Qc)) Qc))) (Qd (Qo 3 (Qf 2 QbF [] (Qa vv1 (Qa (Qf 1 Q5 [] (Qa (Qm vv2 kk2) Qc)) Qc)))) (Qd (QC (QG (Qaq vv3 (Qf 1 QaD [] (Qa (Qm vv2 kk1) Qc))) (.tp [1,2]) [none,none,none] (QF (dOp gGt vv2 kk1)) (dOp Q3 vv1 vv2))) Qh))))
def Qll(dr d:Den):Prop:=∀(m:Nat) (R L:Lpp) (n0:Nat) (Lf Rt Lb Rb:Mt2) (len f:Mt1),m<=8->Qbi m R L->QoW m n0 (Qw m (Qt R L)) Lf Rt Lb Rb len->Quw dr m (Qw m (Qt R L)) Lf Rt Lb Rb len->(∀i,i<m->QaM (f i))->d [Qz m R L,Qb m f]=some (Qb (m-n0) (QuG m n0 Rt len f),true)
theorem Qti{dn dt dr du dl dm:Den}(hn:Qe8 dn)(ht:Qrf dt)(hu:QcX du)(hl:QhS dl)(hm:Qr3 dm):Qll dr (Qu 4 (Qes dn dt dr du dl dm)):=λm R L n0 Lf Rt Lb Rb len f m8 hw nr re hf=>by
 have et:=ht m R L m8 hw;have en:=hn m R L [f];generalize Qw m (Qt R L)=T at *;refine QN ?_;refine run_seq (Qcz (Qi rfl en rfl) ?_);refine run_seq (QA ((QeQ (Qn (Qi (r:=⟨[Qz m R L],false,[]⟩) rfl et rfl) (QP _)) re rfl).trans rfl) ?_);change Run _ [slF (Qz m R L),slF (Qb m f),slF (.tup [Qe m m Lf,Qe m m (QbT len),Qe m m Rt,Qe m m Lb,Qe m m Rb]),none] _;refine rsa (Qi (Qn (r:=reF (Qb m f)) rfl (Qn (Qi (r:=⟨[Qe m m Rt],false,[]⟩) rfl (hu m Rt ⋯) rfl) (QP _))) (hl m m f (λj i=>Rt i j) hf λj i hj hi=>nr.bR.bits (by decide) i j hi hj) rfl) ?_;change Run _ [slF (Qz m R L),slF (Qb m f),slF (.tup [Qe m m Lf,Qe m m (QbT len),Qe m m Rt,Qe m m Lb,Qe m m Rb]),slT (Qb m (Qou m Rt f))] _;refine Qy (r:=reT (Qb (m-n0) (QuG m n0 Rt len f))) ?_ ⟨rfl,rfl⟩;refine(QfG (List.range m) (Qa5 rfl rfl (Qi (r:=⟨[Qe m m (QbT len)],false,[]⟩) rfl (hm m len) rfl) rfl) rfl λi hi=>⟨[none,slI (Qou m Rt f i),slI (len i)],rfl,rfl,λ_=>⟨(reI (Qou m Rt f i % len i)),Qad rfl rfl rfl rfl (nr.sm.pos i (Zg.mp hi)),rfl,rfl⟩⟩).trans ?_;rw[QsR nr.le nr.one nr.big,Zaw];rfl
section
variable {m n0:Nat}{T Lf Rt Lb Rb:Mt2}{len:Mt1}
end
theorem QzZ{i:Nat}(hr:fr U=some rr)(er:rr.d=Qb m f)(ha:fa U=some (reI i))(hv:fv U=some (reI v))(hi:i<m)(hm:m<=100):QL (QL (Qdp fr Qch (Qcf fa)) (QX (Qa fv Qc))) (Qdp fr (Qcf (QL fa (dC (.int 1)))) Qch) U=some (reT (Qb m (up f i v))):=by
 have e1:=Qf3 (Qq1 hr er ha rfl ⋯) rfl hv ⋯;have e2:=Qli (fb:=QL fa (dC (.int 1))) (n:=i+1) hr er (Q9 ha rfl (Qcc _ _) rfl) rfl ⋯;refine(Qk9 e1 rfl e2 rfl ⋯).trans ?_;rw[show i+1+(m-(i+1))=m by omega];congr 2;refine QeS λj hj=>?_;by_cases z:j<i+1
 ·rw[if_pos z]
 ·rw[if_neg z,Qco,if_neg ⋯,show i+1+(j-(i+1))=j by omega]
theorem Qka{n:Nat}{d:Den}{xd:List D->Option Str}{fs:DA}{k:DE}(a:ApF d xd):Ap (QC (Qm (Qf n d [] fs) k)) (QaJ n xd fs):=λU h=>by unfold QC Qm;rw[QmL a h];rfl
theorem Qw7{f:DS}{fx:DX}{sub:Str->Str->Option Bool}{hl:List Hd}{U:En}{Q:Out->Prop}(h:Run f U Q):Run (QeM f fx sub hl) U Q:=by
 obtain⟨o,h1,h2⟩:=h;exact⟨o,by unfold QeM;rw[h1],h2⟩
theorem QwD{f:DS}{fx:DX}{sub:Str->Str->Option Bool}{y z:Str}{g h:DS}{r:List Hd}{x:Str}{U U':En}{Q:Out->Prop}(a:Ap f fx)(e:fx U=some (x,U'))(hn:sub x z=some false)(hs:sub x y=some true)(q:Run h U' Q):Run (QeM f fx sub ((z,none,g)::(y,none,h)::r)) U Q:=by
 obtain⟨o,h1,h2⟩:=q;refine⟨o,?_,h2⟩;unfold QeM;rw[a U (by rw[e];exact λz=>by cases z)];dsimp only;rw[e,Za];unfold Qlr;rw[hn,Za,if_neg (by decide)];unfold Qlr;rw[hs,Za,if_pos rfl];exact h1
theorem QtB{fa fb:DE}{U:En}{a b:Bool}(ha:fa U=some (reT (.bl a)))(hb:fb U=some (reT (.bl b))):dOp gEq fa fb U=some (reT (.bl (a == b))):=QaN ha hb (by cases a<;>cases b<;>rfl)
theorem QtO{fa fb:DE}{U:En}{a b:Bool}(ha:fa U=some (reT (.bl a)))(hb:fb U=some (reT (.bl b))):dOp gNe fa fb U=some (reT (.bl (a != b))):=QaN ha hb (by cases a<;>cases b<;>rfl)
theorem Qre{fa:DE}{U:En}{a:Int}{r:R}(h:fa U=some r)(e:r.d= .int a):dBf Qi6 (Qa fa Qc) U=some (reI a.natAbs):=by
 unfold dBf;rw[Qn h (QP _),Za,e];show some (HS.R.mk (.int (if a<0 then-a else a)) true [])=_;congr 3;split<;>omega
theorem QfN(s:D):((⟨s,true,[]⟩:R).norm.fr && decide ((⟨s,true,[]⟩:R).norm.M.Nodup))=true:=by unfold R.norm;split<;>rfl
theorem QtX:(D.str "row").sim 8=true:=by decide+kernel
theorem Qyq:(D.str "heap").sim 8=true:=by decide+kernel
theorem Qk4:(D.str "taken").sim 8=true:=by decide+kernel
theorem Qxc{xn:List D->Option Str}(hx:QgG xn){m:Nat}{R L:Lpp}{a b:List D}(hab:a.length≠m∨b.length≠m):xn [Qz m R L,.lst [.lst a,.lst b]]=some "NoRow" :=by
 by_cases ha:a.length=m
 ·have hb:b.length≠m:=by rcases hab with z | z<;>first | exact absurd ha z | exact z
  exact hx m R L [a,b] 1 (by simp) (λi x hi e=>by
   obtain rfl:i=0:= ⋯
   cases e;omega) (λx e=>by cases e;omega)
 ·exact hx m R L [a,b] 0 (by simp) (λi x hi e=> ⋯) (λx e=>by cases e;omega)
theorem Qxl{xn:List D->Option Str}(hx:QgG xn){m:Nat}{R L:Lpp}{a:List D}(ha:a.length≠m):xn [Qz m R L,.lst [.lst a]]=some "NoRow" :=hx m R L [a] 0 (by simp) (λi x hi e=> ⋯) (λx e=>by cases e;omega)
noncomputable def Qd8(QK:Den)(x_need_rows:List D->Option Str):DX:=(QT (Qa8 (Qf 2 QK [] (Qa vv0 (Qa vv1 Qc)))) (QaJ 2 x_need_rows (Qa vv0 (Qa vv1 Qc))) (QT (QaW (QW vv1) (.nm 2) (Qd (sIf (QF (dOp gLt (dBf QcB (Qa vv2 Qc)) kk0)) (Qd Qx Qh) Qh) Qh)) (QiZ (QW vv1) (.nm 2) (Qd (sIf (QF (dOp gLt (dBf QcB (Qa vv2 Qc)) kk0)) (Qd Qx Qh) Qh) Qh) (QT (sIf (QF (dOp gLt (dBf QcB (Qa vv2 Qc)) kk0)) (Qd Qx Qh) Qh) (xIf (QF (dOp gLt (dBf QcB (Qa vv2 Qc)) kk0)) (QT Qx (Qdq "NoHeap" (Qa (dC (.str "a heap has no number below 0")) Qc)) xNo) xNo) xNo)) xNo))
theorem Qwx{dn:Den}{xn:List D->Option Str}(h:ApF dn xn):ApF (Qu 3 (QcW dn)) (Qae 3 (Qd8 dn xn)):=QfD (by unfold QcW Qd8;repeat (first | exact Qah | exact Qbd | assumption | apply Qat | apply QbX | apply Qcv | apply Qau | apply ap_asg | apply QaF))
structure QjP (xd:List D->Option Str):Prop where
 row:∀(m:Nat) (R L:Lpp) (a b:List D),a.length≠m∨b.length≠m->xd [Qz m R L,.lst [.lst a,.lst b]]=some "NoRow"
 heap:∀(m:Nat) (R L:Lpp) (f g:Mt1) (j:Nat),j<m->f j<0∨g j<0->xd [Qz m R L,.lst [Qb m f,Qb m g]]=some "NoHeap"
theorem QsD{dn:Den}{xn:List D->Option Str}(h:ApF dn xn)(hn:Qe8 dn)(hx:QgG xn):QjP (Qae 3 (Qd8 dn xn)) where
 row:=λm R L a b hab=>QdF (Q0 (Qau h) (Qbj (r:=⟨[Qz m R L,.lst [.lst a,.lst b]],false,[]⟩) rfl rfl (Qxc hx hab)))
 heap:=λm R L f g j hj hf=>by
  have apB:Ap (Qd (sIf (QF (dOp gLt (dBf QcB (Qa (Ql 2) Qc)) (dC (.int 0)))) (Qd Qx Qh) Qh) Qh) (QT (sIf (QF (dOp gLt (dBf QcB (Qa (Ql 2) Qc)) (dC (.int 0)))) (Qd Qx Qh) Qh) (xIf (QF (dOp gLt (dBf QcB (Qa (Ql 2) Qc)) (dC (.int 0)))) (QT Qx (Qdq "NoHeap" (Qa (dC (.str "a heap has no number below 0")) Qc)) xNo) xNo) xNo):=Qat (QbX (Qat Qbd Qah) Qah) Qah;have here:∀(f:Mt1) (j2:Option (D×Bool)),(∃j,j<m/\f j<0)->Qeb (QT (sIf (QF (dOp gLt (dBf QcB (Qa (Ql 2) Qc)) (dC (.int 0)))) (Qd Qx Qh) Qh) (xIf (QF (dOp gLt (dBf QcB (Qa (Ql 2) Qc)) (dC (.int 0)))) (QT Qx (Qdq "NoHeap" (Qa (dC (.str "a heap has no number below 0")) Qc)) xNo) xNo) xNo) [slF (Qz m R L),j2,slF (Qb m f)] "NoHeap" :=λf j2 ⟨j,hj,hf⟩=>by
   obtain⟨v,_,hle,hv⟩:=Qm5 (by omega:0<m) f;have h0:=hle j hj;refine Q0 (QbX (Qat Qbd Qah) Qah) (QgJ (b:=true) (QQ (QaN (rb:=reI 0) (d:= .bl (decide (v<0))) (hv (r:=reF (Qb m f)) rfl rfl) rfl rfl) ?_) (λ_=>Q0 Qbd (QpK rfl (Zj _))) (λh=>by cases h));show D.bl _=_;rw[decide_eq_true ⋯]
  refine QdF (Qa4 (Qcz (Qi (r:=⟨[Qz m R L,.lst [Qb m f,Qb m g]],false,[]⟩) rfl (hn m R L [f,g]) rfl) ?_));by_cases z:∃j,j<m/\f j<0
  ·refine Q0 (Qcv apB) (QpX apB (toD:=λf=>Qb m f) [f,g] (λ_ U=>U=[slF (Qz m R L),slF (.lst [Qb m f,Qb m g]),none]) 0 (by simp) (ir:=⟨[Qb m f,Qb m g],[]⟩) rfl rfl rfl (λi x U hi=>absurd hi ⋯) ?_);rintro x U hx rfl;cases hx;exact⟨_,rfl,here f _ z⟩
  ·have gz:∃j,j<m/\g j<0:=⟨j,hj,by rcases hf with q | q;exact absurd ⟨j,hj,q⟩ z;exact q⟩;refine Q0 (Qcv apB) (QpX apB (toD:=λf=>Qb m f) [f,g] (λ_ U=>∃j2,U=[slF (Qz m R L),slF (.lst [Qb m f,Qb m g]),j2]) 1 (by simp) (ir:=⟨[Qb m f,Qb m g],[]⟩) rfl rfl ⟨none,rfl⟩ ?_ ?_)
   ·rintro i x U hi hx ⟨j2,rfl⟩;obtain rfl:i=0:= ⋯
    cases hx;refine⟨_,rfl,?_⟩;obtain⟨v,⟨i,hi,ei⟩,_,hv⟩:=Qm5 (by omega:0<m) f;have:¬f i<0:=λq=>z ⟨i,hi,q⟩;refine run_seq (QB (b:=false) (QQ (QaN (rb:=reI 0) (d:= .bl (decide (v<0))) (hv (r:=reF (Qb m f)) rfl rfl) rfl rfl) ?_) (λh=>by cases h) (λ_=>Qj (Qj ⟨_,rfl⟩)));show D.bl _=_;rw[decide_eq_false ⋯]
   ·rintro x U hx ⟨j2,rfl⟩;cases hx;exact⟨_,rfl,here g _ gz⟩
def Qgb(xd:List D->Option Str):Prop:=∀(m:Nat) (R L:Lpp) (n:Nat) (f:Mt1),n≠m->xd [Qz m R L,Qb n f]=some "NoRow"
def QjT(xd:List D->Option Str):Prop:=∀(m:Nat) (R L:Lpp) (n k:Nat) (f g:Mt1),n≠m∨k≠m->xd [Qz m R L,Qb n f,Qb k g]=some "NoRow"
noncomputable def Qeo(Q5:Den)(Qa0:Den)(Qaj:Den)(Q6:Den)(QK:Den)(x_need_rows:List D->Option Str):DX:=(QT (Qa8 (Qf 2 QK [] (Qa vv0 (Qa (QX (Qa vv1 (Qa vv2 Qc))) Qc)))) (QaJ 2 x_need_rows (Qa vv0 (Qa (QX (Qa vv1 (Qa vv2 Qc))) Qc))) (QT (Qo 3 (Qf 1 Q6 [] (Qa vv0 Qc))) xNo (QT (Qo 4 (Qf 2 Qaj [] (Qa vv3 (Qa (QG (Qaq vv1 vv2) (.tp [1,2]) [none,none,none] QO (dOp QaL vv1 vv2)) Qc)))) xNo (QT (sIf (QF (dOp gEq (Qm vv4 kk1) kk1)) (Qd (QC (Qar (Qa (dC (.str "alike")) (Qa (Qm vv4 kk0) Qc)))) Qh) Qh) (xIf (QF (dOp gEq (Qm vv4 kk1) kk1)) (QT (QC (Qar (Qa (dC (.str "alike")) (Qa (Qm vv4 kk0) Qc)))) xNo xNo) xNo) (QT (Qo 5 (QG (Qb9 (Qm vv4 kk0)) (.tp [1,2]) [none,none,none,some 4] (QF (dOp gNe (dOp Q3 vv2 (Qm vv3 kk1)) kk0)) vv1)) xNo (QT (Qo 6 (Qf 2 Qaj [] (Qa (Qf 1 Q5 [] (Qa vv3 Qc)) (Qa (Qf 2 Qa0 [] (Qa (Qm vv0 kk0) (Qa (Qm vv5 kk0) Qc))) Qc)))) xNo (QT (QC (Qar (Qa (dC (.str "apart")) (Qa (Qm vv6 kk0) (Qa (Qm vv6 kk1) Qc))))) xNo xNo)))))))
theorem QBM{dn dt ds dr du:Den}{xn:List D->Option Str}(h:ApF dn xn):ApF (Qu 7 (Qc7 dn dt ds dr du)) (Qae 7 (Qeo dr du ds dt dn xn)):=QfD (by unfold Qc7 Qeo;repeat (first | exact Qah | exact Qbd | assumption | apply Qat | apply QbX | apply Qcv | apply Qau | apply ap_asg | apply QaF))
theorem QBw{dn dt ds dr du:Den}{xn:List D->Option Str}(h:ApF dn xn)(hx:QgG xn):QjT (Qae 7 (Qeo dr du ds dt dn xn)):=λm R L n k f g hnk=>QdF (Q0 (Qau h) (Qbj (r:=⟨[Qz m R L,.lst [Qb n f,Qb k g]],false,[]⟩) rfl rfl (Qxc hx (by simpa using hnk))))
noncomputable def QjN(Qbe:Den)(Qan:Den)(QdR:Den)(Qbf:Den)(QK:Den)(x_need_rows:List D->Option Str):DX:=(QT (Qa8 (Qf 2 QK [] (Qa vv0 (Qa (QX (Qa vv1 Qc)) Qc)))) (QaJ 2 x_need_rows (Qa vv0 (Qa (QX (Qa vv1 Qc)) Qc))) (QT (Qo 2 (Qf 2 Qbf [] (Qa vv0 (Qa vv1 Qc)))) xNo (QT (Qo 3 (Qf 3 QdR [] (Qa vv0 (Qa vv1 (Qa vv2 Qc))))) xNo (QT (Qo 4 (Qf 2 Qbe [] (Qa vv0 (Qa (Qf 1 Qan [] (Qa vv0 Qc)) Qc)))) xNo (QT (Qo 5 (QG (Qaq (Qf 1 Qan [] (Qa vv0 Qc)) (Qm vv4 kk0)) (.tp [1,2]) [none,none,none] QO (dOp QaL vv1 vv2))) xNo (QT (Qo 6 (QL (dBf QgF (Qa (QL (QX (Qa kk0 Qc)) (QG (Qaq vv3 vv5) (.tp [1,2]) [none,none,none] QO (dOp QaL kk0 (dOp Qbb vv1 vv2)))) Qc)) kk1)) xNo (QT (Qo 7 (QG (Qaq vv3 vv5) (.tp [1,2]) [none,none,none,some 6] QO (QL vv1 (QY vv3 vv2)))) xNo (QT (Qo 8 (Qf 2 Qbe [] (Qa vv0 (Qa vv7 Qc)))) xNo (QT (Qo 9 (QG (Qhp vv2 (Qm vv4 kk1) (Qm vv8 kk1)) (.tp [1,2,3]) [none,none,none,none,some 6] QO (QL (dOp QaL vv1 (QY vv4 vv2)) vv3))) xNo (QT (QC (Qar (Qa (Qm vv8 kk0) (Qa vv9 Qc)))) xNo xNo))))))))))
theorem QBQ{dn dc da dd ds:Den}{xn:List D->Option Str}(h:ApF dn xn):ApF (Qu 10 (QjX dn dc da dd ds)) (Qae 10 (QjN ds dd da dc dn xn)):=QfD (by unfold QjX QjN;repeat (first | exact Qah | exact Qbd | assumption | apply Qat | apply QbX | apply Qcv | apply Qau | apply ap_asg | apply QaF))
theorem QzB{dn dc da dd ds:Den}{xn:List D->Option Str}(h:ApF dn xn)(hx:QgG xn):Qgb (Qae 10 (QjN ds dd da dc dn xn)):=λm R L n f hn=>QdF (Q0 (Qau h) (Qbj (r:=⟨[Qz m R L,.lst [Qb n f]],false,[]⟩) rfl rfl (Qxl hx (by simpa using hn))))
noncomputable def Qek(Qbe:Den)(Qas:Den)(x_need_heaps:List D->Option Str):DX:=(QT (Qa8 (Qf 2 Qas [] (Qa vv0 (Qa (QX (Qa vv1 (Qa vv2 Qc))) Qc)))) (QaJ 2 x_need_heaps (Qa vv0 (Qa (QX (Qa vv1 (Qa vv2 Qc))) Qc))) (QT (QC (Qm (Qf 2 Qbe [] (Qa vv0 (Qa (QG (Qaq vv1 vv2) (.tp [1,2]) [none,none,none] QO (QL vv1 vv2)) Qc))) kk0)) xNo xNo))
theorem QBK{dn ds:Den}{xn:List D->Option Str}(h:ApF dn xn):ApF (Qu 3 (QfC dn ds)) (Qae 3 (Qek ds dn xn)):=QfD (by unfold QfC Qek;repeat (first | exact Qah | exact Qbd | assumption | apply Qat | apply QbX | apply Qcv | apply Qau | apply ap_asg | apply QaF))
theorem QBc{dn ds:Den}{xn:List D->Option Str}(h:ApF dn xn)(hx:QjP xn):QjT (Qae 3 (Qek ds dn xn)):=λm R L n k f g hnk=>QdF (Q0 (Qau h) (Qbj (r:=⟨[Qz m R L,.lst [Qb n f,Qb k g]],false,[]⟩) rfl rfl (hx.row m R L _ _ (by simpa using hnk))))
def Qsg(xd:List D->Option Str):Prop:=∀(m:Nat) (R L:Lpp) (f g:Mt1) (j:Nat),j<m->f j<0∨g j<0->xd [Qz m R L,Qb m f,Qb m g]=some "NoHeap"
theorem QAb{dn ds:Den}{xn:List D->Option Str}(h:ApF dn xn)(hx:QjP xn):Qsg (Qae 3 (Qek ds dn xn)):=λm R L f g j hj hf=>QdF (Q0 (Qau h) (Qbj (r:=⟨[Qz m R L,.lst [Qb m f,Qb m g]],false,[]⟩) rfl rfl (hx.heap m R L f g j hj hf)))
noncomputable def Qij(QaK:Den)(Qac:Den)(x_again:List D->Option Str):DX:=(QT (QC (Qm (Qf 2 Qac [] (Qa vv0 (Qa (Qf 1 QaK [] (Qa vv1 Qc)) Qc))) kk0)) (QaJ 2 x_again (Qa vv0 (Qa (Qf 1 QaK [] (Qa vv1 Qc)) Qc))) xNo)
theorem QCm{dp da:Den}{xa:List D->Option Str}(h:ApF da xa):ApF (Qu 2 (Qh9 dp da)) (Qae 2 (Qij dp da xa)):=QfD (Qat (Qka h) Qah)
theorem QBl{dp da:Den}{xa:List D->Option Str}(h:ApF da xa)(hp:Qj6 dp)(hx:Qgb xa):Qgb (Qae 2 (Qij dp da xa)):=λm R L n f hn=>QdF (Q0 (Qka h) (Qbj (Qn (r:=reF (Qz m R L)) rfl (Qn (Qi (r:=⟨[Qb n f],false,[]⟩) rfl (hp n f) rfl) (QP _))) rfl (hx m R L n _ hn)))
noncomputable def QnA(Qac:Den)(x_again:List D->Option Str):DX:=(QT (QC (Qm (Qf 2 Qac [] (Qa vv0 (Qa (QG (QW vv1) (.nm 1) [none,none,some 2] QO (QY vv2 vv1)) Qc))) kk0)) (QaJ 2 x_again (Qa vv0 (Qa (QG (QW vv1) (.nm 1) [none,none,some 2] QO (QY vv2 vv1)) Qc))) xNo)
def Qp4(xd:List D->Option Str):Prop:=∀(m:Nat) (R L:Lpp) (n:Nat) (f:Mt1),n≠m->xd [Qz m R L,Qb n f,.int 3]=some "NoRow"
theorem QB9{da:Den}{xa:List D->Option Str}(h:ApF da xa):ApF (Qu 3 (Qm1 da)) (Qae 3 (QnA da xa)):=QfD (Qat (Qka h) Qah)
theorem QBq{da:Den}{xa:List D->Option Str}(h:ApF da xa)(hx:Qgb xa):Qp4 (Qae 3 (QnA da xa)):=λm R L n f hn=>QdF (Q0 (Qka h) (Qbj (Qn (r:=reF (Qz m R L)) rfl (Qn (r:=reT (Qb n λj=>3*f j)) (QE (List.range n) (Q2 rfl rfl) rfl λj _=>⟨[none,slI (f j),slI 3],rfl,reI (3*f j),Q8 rfl rfl rfl rfl (Qcm (by decide)),rfl,rfl⟩) (QP _))) rfl (hx m R L n _ hn)))
noncomputable def Qei(QaD:Den)(Q5:Den)(QbF:Den)(Q6:Den)(Qa1:Den)(QK:Den)(x_need_rows:List D->Option Str):DX:=(QT (Qa8 (Qf 2 QK [] (Qa vv0 (Qa (QX (Qa vv1 Qc)) Qc)))) (QaJ 2 x_need_rows (Qa vv0 (Qa (QX (Qa vv1 Qc)) Qc))) (QT (Qo 2 (Qf 1 Qa1 [] (Qa (Qf 1 Q6 [] (Qa vv0 Qc)) Qc))) xNo (QT (Qo 3 (Qf 2 QbF [] (Qa vv1 (Qa (Qf 1 Q5 [] (Qa (Qm vv2 kk2) Qc)) Qc)))) xNo (QT (QC (QG (Qaq vv3 (Qf 1 QaD [] (Qa (Qm vv2 kk1) Qc))) (.tp [1,2]) [none,none,none] (QF (dOp gGt vv2 kk1)) (dOp Q3 vv1 vv2))) xNo xNo))))
theorem QCq{dn dt dr du dl dm:Den}{xn:List D->Option Str}(h:ApF dn xn):ApF (Qu 4 (Qes dn dt dr du dl dm)) (Qae 4 (Qei dm du dl dt dr dn xn)):=QfD (by unfold Qes Qei;repeat (first | exact Qah | exact Qbd | assumption | apply Qat | apply QbX | apply Qcv | apply Qau | apply ap_asg | apply QaF))
theorem QAo{dn dt dr du dl dm:Den}{xn:List D->Option Str}(h:ApF dn xn)(hx:QgG xn):Qgb (Qae 4 (Qei dm du dl dt dr dn xn)):=λm R L n f hn=>QdF (Q0 (Qau h) (Qbj (r:=⟨[Qz m R L,.lst [Qb n f]],false,[]⟩) rfl rfl (Qxl hx (by simpa using hn))))
noncomputable def Qcx(Qaz:Den)(Qbc:Den)(Qac:Den)(Qa9:Den)(Qcp:Den)(QaX:Den):DS:=(Qd (sIf (QF (dOp gEq vv0 kk0)) (Qd (QC (Qf 3 Qaz [] (Qa vv1 (Qa vv2 (Qa vv3 Qc))))) Qh) Qh) (Qd (sIf (QF (dOp gEq vv0 kk1)) (Qd (QC (Qf 3 Qbc [] (Qa vv1 (Qa vv2 (Qa vv3 Qc))))) Qh) Qh) (Qd (sIf (QF (dOp gEq vv0 kk2)) (Qd (QC (Qf 2 Qac [] (Qa vv1 (Qa vv2 Qc)))) Qh) Qh) (Qd (sIf (QF (dOp gEq vv0 kk3)) (Qd (QC (Qf 2 Qa9 [] (Qa vv1 (Qa vv2 Qc)))) Qh) Qh) (Qd (sIf (QF (dOp gEq vv0 kk4)) (Qd (QC (Qf 3 Qcp [] (Qa vv1 (Qa vv2 (Qa kk3 Qc))))) Qh) Qh) (Qd (QC (Qf 2 QaX [] (Qa vv1 (Qa vv2 Qc)))) Qh))))))
noncomputable def Qd7(QaX:Den)(Qcp:Den)(Qa9:Den)(Qac:Den)(Qbc:Den)(Qaz:Den)(x_ring_place:List D->Option Str)(x_times:List D->Option Str)(x_contrary:List D->Option Str)(x_again:List D->Option Str)(x_heap_sum:List D->Option Str)(x_told_alike:List D->Option Str):DX:=(QT (sIf (QF (dOp gEq vv0 kk0)) (Qd (QC (Qf 3 Qaz [] (Qa vv1 (Qa vv2 (Qa vv3 Qc))))) Qh) Qh) (xIf (QF (dOp gEq vv0 kk0)) (QT (QC (Qf 3 Qaz [] (Qa vv1 (Qa vv2 (Qa vv3 Qc))))) (QaJ 3 x_told_alike (Qa vv1 (Qa vv2 (Qa vv3 Qc)))) xNo) xNo) (QT (sIf (QF (dOp gEq vv0 kk1)) (Qd (QC (Qf 3 Qbc [] (Qa vv1 (Qa vv2 (Qa vv3 Qc))))) Qh) Qh) (xIf (QF (dOp gEq vv0 kk1)) (QT (QC (Qf 3 Qbc [] (Qa vv1 (Qa vv2 (Qa vv3 Qc))))) (QaJ 3 x_heap_sum (Qa vv1 (Qa vv2 (Qa vv3 Qc)))) xNo) xNo) (QT (sIf (QF (dOp gEq vv0 kk2)) (Qd (QC (Qf 2 Qac [] (Qa vv1 (Qa vv2 Qc)))) Qh) Qh) (xIf (QF (dOp gEq vv0 kk2)) (QT (QC (Qf 2 Qac [] (Qa vv1 (Qa vv2 Qc)))) (QaJ 2 x_again (Qa vv1 (Qa vv2 Qc))) xNo) xNo) (QT (sIf (QF (dOp gEq vv0 kk3)) (Qd (QC (Qf 2 Qa9 [] (Qa vv1 (Qa vv2 Qc)))) Qh) Qh) (xIf (QF (dOp gEq vv0 kk3)) (QT (QC (Qf 2 Qa9 [] (Qa vv1 (Qa vv2 Qc)))) (QaJ 2 x_contrary (Qa vv1 (Qa vv2 Qc))) xNo) xNo) (QT (sIf (QF (dOp gEq vv0 kk4)) (Qd (QC (Qf 3 Qcp [] (Qa vv1 (Qa vv2 (Qa kk3 Qc))))) Qh) Qh) (xIf (QF (dOp gEq vv0 kk4)) (QT (QC (Qf 3 Qcp [] (Qa vv1 (Qa vv2 (Qa kk3 Qc))))) (QaJ 3 x_times (Qa vv1 (Qa vv2 (Qa kk3 Qc)))) xNo) xNo) (QT (QC (Qf 2 QaX [] (Qa vv1 (Qa vv2 Qc)))) (QaJ 2 x_ring_place (Qa vv1 (Qa vv2 Qc))) xNo))))))
theorem six{w:Nat}(h:w<6):w=0∨w=1∨w=2∨w=3∨w=4∨w=5:= ⋯
section
variable {dt dh da dc di dp:Den}{xt xh xa xc xi xp:List D->Option Str}
theorem QBS(a1:ApF dt xt)(a2:ApF dh xh)(a3:ApF da xa)(a4:ApF dc xc)(a5:ApF di xi)(a6:ApF dp xp):ApF (Qu 4 (Qcx dt dh da dc di dp)) (Qae 4 (Qd7 dp di dc da dh dt xp xi xc xa xh xt)):=QfD (by unfold Qcx Qd7;repeat (first | exact Qah | exact Qbd | assumption | apply Qat | apply QbX | apply Qcv | apply Qau | apply ap_asg | apply QaF))
structure QrZ (xd:List D->Option Str):Prop where
 row:∀(w m:Nat) (R L:Lpp) (n k:Nat) (f g:Mt1),w<6->n≠m∨(w<2/\k≠m)->xd [.int w,Qz m R L,Qb n f,Qb k g]=some "NoRow"
 heap:∀(m:Nat) (R L:Lpp) (f g:Mt1) (j:Nat),j<m->f j<0∨g j<0->xd [.int 1,Qz m R L,Qb m f,Qb m g]=some "NoHeap"
theorem Qz1(a1:ApF dt xt)(a2:ApF dh xh)(a3:ApF da xa)(a4:ApF dc xc)(a5:ApF di xi)(a6:ApF dp xp)(x1:QjT xt)(x2:QjT xh)(y2:Qsg xh)(x3:Qgb xa)(x4:Qgb xc)(x5:Qp4 xi)(x6:Qgb xp):QrZ (Qae 4 (Qd7 dp di dc da dh dt xp xi xc xa xh xt)) where
 row:=λw m R L n k f g hw h=>by
  have nm:2<=w->n≠m:=λz=>by rcases h with q | q;exact q;omega
  have nk:n≠m∨k≠m:=by rcases h with q | q;exact .inl q;exact .inr q.2
  refine QdF ?_;rcases six hw with rfl | rfl | rfl | rfl | rfl | rfl
  ·exact Q0 (QbX (Qat (QaF a1) Qah) Qah) (QgJ (b:=true) rfl (λ_=>Q0 (QaF a1) (Qbj rfl rfl (x1 m R L n k f g nk))) (λh=>by cases h))
  ·refine Qa4 (QB (b:=false) rfl (λh=>by cases h) (λ_=>Qj ?_));exact Q0 (QbX (Qat (QaF a2) Qah) Qah) (QgJ (b:=true) rfl (λ_=>Q0 (QaF a2) (Qbj rfl rfl (x2 m R L n k f g nk))) (λh=>by cases h))
  ·refine Qa4 (QB (b:=false) rfl (λh=>by cases h) (λ_=>Qj ?_));refine Qa4 (QB (b:=false) rfl (λh=>by cases h) (λ_=>Qj ?_));exact Q0 (QbX (Qat (QaF a3) Qah) Qah) (QgJ (b:=true) rfl (λ_=>Q0 (QaF a3) (Qbj rfl rfl (x3 m R L n f (nm ⋯)))) (λh=>by cases h))
  ·refine Qa4 (QB (b:=false) rfl (λh=>by cases h) (λ_=>Qj ?_));refine Qa4 (QB (b:=false) rfl (λh=>by cases h) (λ_=>Qj ?_));refine Qa4 (QB (b:=false) rfl (λh=>by cases h) (λ_=>Qj ?_));exact Q0 (QbX (Qat (QaF a4) Qah) Qah) (QgJ (b:=true) rfl (λ_=>Q0 (QaF a4) (Qbj rfl rfl (x4 m R L n f (nm ⋯)))) (λh=>by cases h))
  ·refine Qa4 (QB (b:=false) rfl (λh=>by cases h) (λ_=>Qj ?_));refine Qa4 (QB (b:=false) rfl (λh=>by cases h) (λ_=>Qj ?_));refine Qa4 (QB (b:=false) rfl (λh=>by cases h) (λ_=>Qj ?_));refine Qa4 (QB (b:=false) rfl (λh=>by cases h) (λ_=>Qj ?_));exact Q0 (QbX (Qat (QaF a5) Qah) Qah) (QgJ (b:=true) rfl (λ_=>Q0 (QaF a5) (Qbj rfl rfl (x5 m R L n f (nm ⋯)))) (λh=>by cases h))
  ·refine Qa4 (QB (b:=false) rfl (λh=>by cases h) (λ_=>Qj ?_));refine Qa4 (QB (b:=false) rfl (λh=>by cases h) (λ_=>Qj ?_));refine Qa4 (QB (b:=false) rfl (λh=>by cases h) (λ_=>Qj ?_));refine Qa4 (QB (b:=false) rfl (λh=>by cases h) (λ_=>Qj ?_));refine Qa4 (QB (b:=false) rfl (λh=>by cases h) (λ_=>Qj ?_));exact Q0 (QaF a6) (Qbj rfl rfl (x6 m R L n f (nm ⋯)))
 heap:=λm R L f g j hj h=>by
  refine QdF (Qa4 (QB (b:=false) rfl (λh=>by cases h) (λ_=>Qj ?_)));exact Q0 (QbX (Qat (QaF a2) Qah) Qah) (QgJ (b:=true) rfl (λ_=>Q0 (QaF a2) (Qbj rfl rfl (y2 m R L f g j hj h))) (λh=>by cases h))
def QoF(d:Den):Prop:=∀(w m:Nat) (R L:Lpp) (f g:Mt1),w<6->0<m->m<=8->Qbi m R L->(∀j,j<m->(f j).natAbs<=10^10)->(∀j,j<m->(g j).natAbs<=10^10)->(w=1->∀j,j<m->0<=f j/\0<=g j)->∃s,d [.int w,Qz m R L,Qb m f,Qb m g]=some (s,true)
theorem QB1(ht:QmD dt)(hh:QpD dh)(ha:QhH da)(hc:QiR dc)(hi:QnC di)(hs:Qj2 dr)(hp:Qll dr dp):QoF (Qu 4 (Qcx dt dh da dc di dp)):=λw m R L f g hw m0 m8 net bf bg pos=>by
 rcases six hw with rfl | rfl | rfl | rfl | rfl | rfl
 ·obtain⟨s,es,_⟩:=ht m R L f g m0 m8 net (λj hj=>Zo (bf j hj) (by decide)) λj hj=>Zo (bg j hj) (by decide);exact⟨s,QN (Qv (QB (b:=true) rfl (λ_=>Qv (Qa6 (Qi rfl es rfl) ⟨rfl,QfN s⟩)) (λh=>by cases h)))⟩
 ·have hb:∀(a:Mt1),(∀j,j<m->(a j).natAbs<=10^10)->(∀j,j<m->0<=a j)->∀j,j<m->0<=a j/\a j<=2^100:=λa h1 h2 j hj=>by have:=h1 j hj;have:=h2 j hj;omega
  obtain⟨s,es⟩:∃s,dh [Qz m R L,Qb m f,Qb m g]=some (s,true):=by obtain⟨c,es,_⟩:=hh m R L f g m0 m8 net (hb f bf λj hj=>(pos rfl j hj).1) (hb g bg λj hj=>(pos rfl j hj).2);exact⟨_,es⟩
  refine⟨s,QN (Qv (QB (b:=false) rfl (λh=>by cases h) (λ_=>Qj ?_)))⟩;exact Qv (QB (b:=true) rfl (λ_=>Qv (Qa6 (Qi rfl es rfl) ⟨rfl,QfN s⟩)) (λh=>by cases h))
 ·obtain⟨s,es⟩:∃s,da [Qz m R L,Qb m f]=some (s,true):=by obtain⟨c,v,es,_⟩:=ha m R L f m0 m8 net λj hj=>Zo (bf j hj) (by decide);exact⟨_,es⟩
  refine⟨s,QN (Qv (QB (b:=false) rfl (λh=>by cases h) (λ_=>Qj ?_)))⟩;refine Qv (QB (b:=false) rfl (λh=>by cases h) (λ_=>Qj ?_));exact Qv (QB (b:=true) rfl (λ_=>Qv (Qa6 (Qi rfl es rfl) ⟨rfl,QfN s⟩)) (λh=>by cases h))
 ·obtain⟨s,es⟩:∃s,dc [Qz m R L,Qb m f]=some (s,true):=by obtain⟨c,es,_⟩:=hc m R L f m0 m8 net λj hj=>Zo (bf j hj) (by decide);exact⟨_,es⟩
  refine⟨s,QN (Qv (QB (b:=false) rfl (λh=>by cases h) (λ_=>Qj ?_)))⟩;refine Qv (QB (b:=false) rfl (λh=>by cases h) (λ_=>Qj ?_));refine Qv (QB (b:=false) rfl (λh=>by cases h) (λ_=>Qj ?_));exact Qv (QB (b:=true) rfl (λ_=>Qv (Qa6 (Qi rfl es rfl) ⟨rfl,QfN s⟩)) (λh=>by cases h))
 ·obtain⟨s,es⟩:∃s,di [Qz m R L,Qb m f,.int 3]=some (s,true):=by obtain⟨c,es,_⟩:=hi m R L f 3 m0 m8 net (λj hj=>Zo (bf j hj) (by decide)) (by decide);exact⟨_,es⟩
  refine⟨s,QN (Qv (QB (b:=false) rfl (λh=>by cases h) (λ_=>Qj ?_)))⟩;refine Qv (QB (b:=false) rfl (λh=>by cases h) (λ_=>Qj ?_));refine Qv (QB (b:=false) rfl (λh=>by cases h) (λ_=>Qj ?_));refine Qv (QB (b:=false) rfl (λh=>by cases h) (λ_=>Qj ?_));exact Qv (QB (b:=true) rfl (λ_=>Qv (Qa6 (Qi rfl es rfl) ⟨rfl,QfN s⟩)) (λh=>by cases h))
 ·obtain⟨n0,Lf,Rt',Lb,Rb,len,nr,re⟩:=Qum hs m0 m8 net;obtain⟨s,es⟩:∃s,dp [Qz m R L,Qb m f]=some (s,true):=⟨_,hp m R L n0 Lf Rt' Lb Rb len f m8 net nr re λj hj=>Qmt (ZV (bf j hj) (by decide))⟩;refine⟨s,QN (Qv (QB (b:=false) rfl (λh=>by cases h) (λ_=>Qj ?_)))⟩;refine Qv (QB (b:=false) rfl (λh=>by cases h) (λ_=>Qj ?_));refine Qv (QB (b:=false) rfl (λh=>by cases h) (λ_=>Qj ?_));refine Qv (QB (b:=false) rfl (λh=>by cases h) (λ_=>Qj ?_));refine Qv (QB (b:=false) rfl (λh=>by cases h) (λ_=>Qj ?_));exact Qy (Qi rfl es rfl) ⟨rfl,QfN s⟩
end
structure QrT (sub:Str->Str->Option Bool):Prop where
 rr:sub "NoRow" "NoRow" =some true
 rh:sub "NoRow" "NoHeap" =some false
 re:sub "NoRow" "HeapError" =some true
 rv:sub "NoRow" "ValueError" =some true
 rt:sub "NoRow" "TooMany" =some false
 hr:sub "NoHeap" "NoRow" =some false
 hh:sub "NoHeap" "NoHeap" =some true
 he:sub "NoHeap" "HeapError" =some true
 hv:sub "NoHeap" "ValueError" =some true
 ht:sub "NoHeap" "TooMany" =some false
noncomputable def Qmc(QaA:Den)(x__law_asked:List D->Option Str)(sub:Str->Str->Option Bool):DS:=(Qd (Qo 4 (dC (.str "taken"))) (Qd (QeM (Qd (Qa8 (Qf 4 QaA [] (Qa vv0 (Qa vv1 (Qa vv2 (Qa vv3 Qc)))))) Qh) (QT (Qa8 (Qf 4 QaA [] (Qa vv0 (Qa vv1 (Qa vv2 (Qa vv3 Qc)))))) (QaJ 4 x__law_asked (Qa vv0 (Qa vv1 (Qa vv2 (Qa vv3 Qc))))) xNo) sub [("NoRow",none,(Qd (Qo 4 (dC (.str "row"))) Qh)),("NoHeap",none,(Qd (Qo 4 (dC (.str "heap"))) Qh))]) (Qd (QC vv4) Qh)))
structure Qi0 (da:Den) (xa:List D->Option Str) (d:Den):Prop where
 row:∀(w m:Nat) (R L:Lpp) (a b:List D),xa [.int w,Qz m R L,.lst a,.lst b]=some "NoRow" ->d [.int w,Qz m R L,.lst a,.lst b]=some (.str "row",true)
 heap:∀(w m:Nat) (R L:Lpp) (a b:List D),xa [.int w,Qz m R L,.lst a,.lst b]=some "NoHeap" ->d [.int w,Qz m R L,.lst a,.lst b]=some (.str "heap",true)
 taken:∀(w m:Nat) (R L:Lpp) (a b:List D) (s:D),da [.int w,Qz m R L,.lst a,.lst b]=some (s,true)->d [.int w,Qz m R L,.lst a,.lst b]=some (.str "taken",true)
theorem Qt7{da:Den}{xa:List D->Option Str}{sub:Str->Str->Option Bool}(ap:ApF da xa)(w:QrT sub):Qi0 da xa (Qu 5 (Qmc da xa sub)) where
 row:=λk m R L a b hx=>by
  refine QN (run_seq (QA rfl ?_));rw[Q4];refine run_seq (Qvs (Qat (Qau ap) Qah) (Ql3 ap rfl rfl hx) w.rr ?_);refine run_seq (QA rfl (Qj ?_));rw[Q4];exact Qy rfl ⟨rfl,rfl⟩
 heap:=λk m R L a b hx=>by
  refine QN (run_seq (QA rfl ?_));rw[Q4];refine run_seq (QwD (Qat (Qau ap) Qah) (Ql3 ap rfl rfl hx) w.hr w.hh ?_);refine run_seq (QA rfl (Qj ?_));rw[Q4];exact Qy rfl ⟨rfl,rfl⟩
 taken:=λk m R L a b s h=>by
  refine QN (run_seq (QA rfl ?_));rw[Q4];refine run_seq (Qw7 (run_seq (Qcz (Qi rfl h rfl) (Qj ?_))));exact Qy rfl ⟨rfl,rfl⟩
noncomputable def Ql8(QaA:Den)(x__law_asked:List D->Option Str)(sub:Str->Str->Option Bool):DS:=(Qd (Qo 5 (dC (.bl false))) (Qd (QeM (Qd (Qa8 (Qf 4 QaA [] (Qa vv0 (Qa vv1 (Qa vv2 (Qa vv3 Qc)))))) Qh) (QT (Qa8 (Qf 4 QaA [] (Qa vv0 (Qa vv1 (Qa vv2 (Qa vv3 Qc)))))) (QaJ 4 x__law_asked (Qa vv0 (Qa vv1 (Qa vv2 (Qa vv3 Qc))))) xNo) sub [("HeapError",some 6,(Qd (Qo 5 (QcY (dOp gEq (QhN sub ["NoRow"] vv6) vv4) (dOp gNe (QhN sub ["NoHeap"] vv6) vv4))) (Qd (Qo 5 (QcY vv5 (QcY (QhN sub ["ValueError"] vv6) (QmX (QhN sub ["TooMany"] vv6))))) Qh)))]) (Qd (QC vv5) Qh)))
structure QlR (xa:List D->Option Str) (d:Den):Prop where
 row:∀(w m:Nat) (R L:Lpp) (a b:List D),xa [.int w,Qz m R L,.lst a,.lst b]=some "NoRow" ->d [.int w,Qz m R L,.lst a,.lst b,.bl true]=some (.bl true,true)
 heap:∀(w m:Nat) (R L:Lpp) (a b:List D),xa [.int w,Qz m R L,.lst a,.lst b]=some "NoHeap" ->d [.int w,Qz m R L,.lst a,.lst b,.bl false]=some (.bl true,true)
theorem Qtz{da:Den}{xa:List D->Option Str}{sub:Str->Str->Option Bool}(ap:ApF da xa)(w:QrT sub):QlR xa (Qu 7 (Ql8 da xa sub)) where
 row:=λk m R L a b hx=>by
  refine QN (run_seq (QA rfl ?_));rw[Q4];refine run_seq (Qo8 (Qat (Qau ap) Qah) (Ql3 ap rfl rfl hx) w.re ?_);refine rsa (QfJ (QtB (Qe9 rfl (any_cons w.rr rfl)) rfl) (QtO (Qe9 rfl (any_cons w.rh rfl)) rfl)) ?_;refine run_seq (QA (QfJ rfl (QfJ (Qe9 rfl (any_cons w.rv rfl)) (QqV (Qe9 rfl (any_cons w.rt rfl))))) (Qj ?_));rw[Q4];exact Qy rfl ⟨rfl,rfl⟩
 heap:=λk m R L a b hx=>by
  refine QN (run_seq (QA rfl ?_));rw[Q4];refine run_seq (Qo8 (Qat (Qau ap) Qah) (Ql3 ap rfl rfl hx) w.he ?_);refine rsa (QfJ (QtB (Qe9 rfl (any_cons w.hr rfl)) rfl) (QtO (Qe9 rfl (any_cons w.hh rfl)) rfl)) ?_;refine run_seq (QA (QfJ rfl (QfJ (Qe9 rfl (any_cons w.hv rfl)) (QqV (Qe9 rfl (any_cons w.ht rfl))))) (Qj ?_));rw[Q4];exact Qy rfl ⟨rfl,rfl⟩
noncomputable def QkW:DS:=(Qd (Qo 2 (dOp Q3 vv1 (dBf Qa3 (Qa vv0 Qc)))) (Qd (QC (QL (QL (Qdp vv0 Qch (Qcf vv2)) (QX (Qa (dOp QaL (Qii kk1) (dOp Q3 (dOp Qbb vv1 kk4) (dOp QmW Qvr kk9))) Qc))) (Qdp vv0 (Qcf (QL vv2 kk1)) Qch))) Qh))
def QjU(d:Den):Prop:=∀(m:Nat) (f:Mt1) (c:Int),0<m->m<=8->∃i v,i<m/\v<0/\v.natAbs<=10^10/\d [Qb m f,.int c]=some (Qb m (up f i v),true)
theorem QsY:QjU (Qu 3 QkW):=λm f c m0 m8=>by
 obtain⟨i,ei⟩:∃i:Nat,c % (m:Int)=i:=⟨(c % (m:Int)).toNat,by have:=ZD c (by omega:(m:Int)≠0);omega⟩;have hi:i<m:=by have:=ZA c (by omega:(0:Int)<m);omega
 have o1:=ZD (c / 4) (by decide:(10^9:Int)≠0);have o2:=ZA (c / 4) (by decide:(0:Int)<10^9);refine⟨i,-1-c / 4 % 10^9,hi,⋯,⋯,QN ?_⟩;refine rsa (d:= .int i) ((Qad rfl rfl (QrI rfl rfl) rfl ⋯).trans (by rw[ei])) ?_;exact Qy (QzZ (m:=m) (f:=f) (i:=i) (v:= -1-c / 4 % 10^9) rfl rfl rfl (Qf4 (a:= -1) (b:=c / 4 % 10^9) (ra:=reI (-1)) rfl rfl (Qad (a:=c / 4) (b:=10^9) (Qe5 (a:=c) (b:=4) rfl rfl (Qcc _ _) rfl (by decide) (by decide)) rfl (Qnv (a:=10) (k:=9) (by decide) (by decide)) rfl (by decide)) rfl) hi ⋯) ⟨rfl,rfl⟩
def QDn(m n:Nat):Prop:=n≠m/\n<=9
theorem Qzn{fr fc:DE}{U:En}{m:Nat}{f:Mt1}{rr:R}{c:Int}(hr:fr U=some rr)(er:rr.d=Qb m f)(hc:fc U=some (reI c))(m0:0<m)(m8:m<=8):∃n o,QDn m n/\Qal (Qm (QX (Qa (QL fr (QX (Qa (dC (.int 0)) Qc))) (Qa (Qdp fr (Qcf (dC (.int 1))) Qch) Qc))) (dOp Q3 fc (dC (.int 2)))) U=some (reF (Qb n o)):=by
 have e1:=Qf3 (fb:=dC (.int 0)) (x:=0) hr er (Qcc _ _) ⋯;have e2:=Qli (fb:=dC (.int 1)) (n:=1) hr er (Qcc _ _) rfl ⋯;have e3:=Qmi (Qn e1 (Qn e2 (QP _))) (Zav rfl);have e4:=Qad hc rfl (Qcc (.int 2) U) rfl (by decide:(0:Int)<2);have o1:=ZD c (by decide:(2:Int)≠0);have o2:=ZA c (by decide:(0:Int)<2);by_cases z:c % 2=0
 ·rw[z]at e4;refine⟨m+1,up f m 0,⟨⋯,⋯⟩,?_⟩;unfold Qal Qm;rw[e3,Za,e4];rfl
 ·rw[show c % 2=1 by omega]at e4;refine⟨m-1,λi=>f (1+i),⟨⋯,⋯⟩,?_⟩;unfold Qal Qm;rw[e3,Za,e4];rfl
noncomputable def Qlj(QaH:Den)(QbG:Den)(Qcr:Den):DS:=(Qd (Qo 4 (Qal (Qm (QX (Qa (QL vv1 (QX (Qa kk0 Qc))) (Qa (Qdp vv1 (Qcf kk1) Qch) Qc))) (dOp Q3 vv3 kk2)))) (Qd (QaW (Qa7 kk6) (.nm 5) (Qd (sIf (bOr (QF (dOp gNe (Qf 4 QaH [] (Qa vv5 (Qa vv0 (Qa vv4 (Qa vv2 Qc))))) (dC (.str "row")))) (Qdo (QF (Qf 5 QbG [] (Qa vv5 (Qa vv0 (Qa vv4 (Qa vv2 (Qa (dC (.bl true)) Qc))))))))) (Qd (QC (dC (.bl false))) Qh) Qh) Qh)) (Qd (Qo 6 (Qf 2 Qcr [] (Qa vv2 (Qa (dOp Qbb vv3 kk2) Qc)))) (Qd (QaW (Qa7 kk2) (.nm 5) (Qd (sIf (bOr (QF (dOp gNe (Qf 4 QaH [] (Qa vv5 (Qa vv0 (Qa vv2 (Qa vv4 Qc))))) (dC (.str "row")))) (Qdo (QF (Qf 5 QbG [] (Qa vv5 (Qa vv0 (Qa vv6 (Qa vv4 (Qa (dC (.bl true)) Qc))))))))) (Qd (QC (dC (.bl false))) Qh) Qh) (Qd (sIf (Qdo (QF (Qf 5 QbG [] (Qa vv5 (Qa vv0 (Qa vv4 (Qa vv6 (Qa (dC (.bl true)) Qc)))))))) (Qd (QC (dC (.bl false))) Qh) Qh) Qh))) (Qd (QC (dC (.bl true))) Qh)))))
def QeR(d:Den):Prop:=∀(m:Nat) (R L:Lpp) (f g:Mt1) (c:Int),0<m->m<=8->Qbi m R L->(∀j,j<m->0<=f j/\f j<=10^9)->(∀j,j<m->0<=g j/\g j<=10^9)->d [Qz m R L,Qb m f,Qb m g,.int c]=some (.bl true,true)
theorem QeD{fa:DE}{U:En}{x:Str}(hs:(D.str x).sim 8=true)(h:fa U=some (reT (.str x))):dOp gNe fa (dC (.str x)) U=some (reT (.bl false)):=QAM (d:= .str x) h rfl rfl rfl hs
theorem QrS{da dw dou db:Den}{xa:List D->Option Str}(hx:QrZ xa)(hw:Qi0 da xa dw)(ho:QlR xa dou)(hb:QjU db):QeR (Qu 7 (Qlj dw dou db)):=λm R L f g c m0 m8 net bf bg=>by
 obtain⟨n,o,⟨on,n9⟩,eo⟩:=Qzn (fr:=Ql 1) (fc:=Ql 3) (U:=[slF (Qz m R L),slF (Qb m f),slF (Qb m g),slI c,none,none,none]) (rr:=reF (Qb m f)) (m:=m) (f:=f) (c:=c) rfl rfl rfl m0 m8;obtain⟨i,v,hi,v0,_,eb⟩:=hb m g (c / 2) m0 m8;refine QN (run_seq (QA eo ?_));change Run _ [slF (Qz m R L),slF (Qb m f),slF (Qb m g),slI c,slF (Qb n o),none,none] _;refine Qv (Qav (toD:=λ(w:Nat)=> .int w) (List.range 6) (λ_ U=>∃j5,U=[slF (Qz m R L),slF (Qb m f),slF (Qb m g),slI c,slF (Qb n o),j5,none]) (Qbl (n:=6) (Qcc _ _) rfl (by decide)) rfl ⟨none,rfl⟩ ?_ ?_)
 ·rintro w w' U hi ⟨j5,rfl⟩;obtain⟨h1,rfl⟩:=Zk.mp hi;rw[List.getElem_range];have w6:w<6:=by simpa using h1
  have q:=hx.row w m R L n m o g w6 (.inl on);refine⟨[slF (Qz m R L),slF (Qb m f),slF (Qb m g),slI c,slF (Qb n o),slI w,none],rfl,?_⟩;exact run_seq (QB (b:=false) (Qgj (a:=false) (b:=false) (QQ (b:=false) (QeD QtX (Qi rfl (hw.row w m R L _ _ q) rfl)) rfl) (Qc2 (b:=true) (QQ (Qi rfl (ho.row w m R L _ _ q) rfl) rfl))) (λh=>by cases h) (λ_=>Qj (Qj ⟨_,rfl⟩)))
 rintro U ⟨j5,rfl⟩;refine rsa (Qi (Qn rfl (Qn (Qe5 rfl rfl (Qcc _ _) rfl (by decide) (by decide)) (QP _))) eb rfl) ?_;change Run _ [slF (Qz m R L),slF (Qb m f),slF (Qb m g),slI c,slF (Qb n o),j5,slT (Qb m (up g i v))] _;refine Qv (Qav (toD:=λ(w:Nat)=> .int w) (List.range 2) (λ_ U=>∃j5,U=[slF (Qz m R L),slF (Qb m f),slF (Qb m g),slI c,slF (Qb n o),j5,slT (Qb m (up g i v))]) (Qbl (n:=2) (Qcc _ _) rfl (by decide)) rfl ⟨j5,rfl⟩ ?_ ?_)
 ·rintro w w' U hi ⟨j5,rfl⟩;obtain⟨h1,rfl⟩:=Zk.mp hi;rw[List.getElem_range];have w2:w<2:=by simpa using h1
  have q1:=hx.row w m R L m n g o ⋯ (.inr ⟨w2,on⟩);have q2:=hx.row w m R L m n (up g i v) o ⋯ (.inr ⟨w2,on⟩);have q3:=hx.row w m R L n m o (up g i v) ⋯ (.inl on);refine⟨[slF (Qz m R L),slF (Qb m f),slF (Qb m g),slI c,slF (Qb n o),slI w,slT (Qb m (up g i v))],rfl,?_⟩;refine run_seq (QB (b:=false) (Qgj (a:=false) (b:=false) (QQ (b:=false) (QeD QtX (Qi rfl (hw.row w m R L _ _ q1) rfl)) rfl) (Qc2 (b:=true) (QQ (Qi rfl (ho.row w m R L _ _ q2) rfl) rfl))) (λh=>by cases h) (λ_=>Qj ?_));exact run_seq (QB (b:=false) (Qc2 (b:=true) (QQ (Qi rfl (ho.row w m R L _ _ q3) rfl) rfl)) (λh=>by cases h) (λ_=>Qj (Qj ⟨_,rfl⟩)))
 rintro U ⟨j5,rfl⟩;exact Qy rfl ⟨rfl,rfl⟩
noncomputable def QiD(Qcr:Den)(QaH:Den)(QbG:Den):DS:=(Qd (Qo 4 (Qf 2 Qcr [] (Qa vv1 (Qa vv3 Qc)))) (Qd (QaW (QW (QX (Qa (Qar (Qa vv4 (Qa vv2 Qc))) (Qa (Qar (Qa vv2 (Qa vv4 Qc))) Qc)))) (.nm 5) (Qd (sIf (bOr (QF (dOp gNe (Qf 4 QaH [] (Qa kk1 (Qa vv0 (Qa (Qm vv5 kk0) (Qa (Qm vv5 kk1) Qc))))) (dC (.str "heap")))) (Qdo (QF (Qf 5 QbG [] (Qa kk1 (Qa vv0 (Qa (Qm vv5 kk0) (Qa (Qm vv5 kk1) (Qa (dC (.bl false)) Qc))))))))) (Qd (QC (dC (.bl false))) Qh) Qh) (Qd (sIf (QF (dOp gNe (Qf 4 QaH [] (Qa kk0 (Qa vv0 (Qa (Qm vv5 kk0) (Qa (Qm vv5 kk1) Qc))))) (dC (.str "taken")))) (Qd (QC (dC (.bl false))) Qh) Qh) Qh))) (Qd (QaW (Qd2 kk2 kk6) (.nm 6) (Qd (sIf (QF (dOp gNe (Qf 4 QaH [] (Qa vv6 (Qa vv0 (Qa vv4 (Qa vv2 Qc))))) (dC (.str "taken")))) (Qd (QC (dC (.bl false))) Qh) Qh) Qh)) (Qd (QC (dC (.bl true))) Qh))))
theorem Qvx{da dw dou db:Den}{xa:List D->Option Str}(hx:QrZ xa)(hk:QoF da)(hw:Qi0 da xa dw)(ho:QlR xa dou)(hb:QjU db):QeR (Qu 7 (QiD db dw dou)):=λm R L f g c m0 m8 net bf bg=>by
 obtain⟨i,v,hi,v0,v1,eb⟩:=hb m f c m0 m8;obtain⟨h,hh⟩:∃h,h=up f i v:=⟨_,rfl⟩;have hneg:h i<0:=by rw[hh,Qco,if_pos rfl];exact v0
 have hbd:∀j,j<m->(h j).natAbs<=10^10:=λj hj=>by rw[hh,Qco];have:=bf j hj;split<;>omega
 have gbd:∀j,j<m->(g j).natAbs<=10^10:=λj hj=>by have:=bg j hj;omega
 rw[← hh]at eb;have x1:=hx.heap m R L h g i hi (.inl hneg);have x2:=hx.heap m R L g h i hi (.inr hneg);obtain⟨s1,t1⟩:=hk 0 m R L h g (by decide) m0 m8 net hbd gbd (λz=>by cases z);obtain⟨s2,t2⟩:=hk 0 m R L g h (by decide) m0 m8 net gbd hbd (λz=>by cases z);refine QN (run_seq (QA (Qi (r:=⟨[Qb m f,.int c],false,[]⟩) rfl eb rfl) ?_));rw[Q4];change Nx _ (.nx [slF (Qz m R L),slF (Qb m f),slF (Qb m g),slI c,slT (Qb m h),none,none]);refine Qv (Qav (toD:=λ(p:(Nat->Int)×(Nat->Int))=> .tup [Qb m p.1,Qb m p.2]) [(h,g),(g,h)] (λk U=>∃j5,U=[slF (Qz m R L),slF (Qb m f),slF (Qb m g),slI c,slF (Qb m h),j5,none]) (ir:=⟨[.tup [Qb m h,Qb m g],.tup [Qb m g,Qb m h]],[4,4]⟩) rfl rfl ⟨none,rfl⟩ ?_ ?_)
 ·rintro k p U hp ⟨j5,rfl⟩;have key:xa [.int 1,Qz m R L,Qb m p.1,Qb m p.2]=some "NoHeap" /\∃s,da [.int 0,Qz m R L,Qb m p.1,Qb m p.2]=some (s,true):=by
   have hm:=Zax hp;simp only[Zi,Zby,or_false]at hm;rcases hm with rfl | rfl
   ·exact⟨x1,s1,t1⟩
   ·exact⟨x2,s2,t2⟩
  obtain⟨k1,s,k2⟩:=key;refine⟨[slF (Qz m R L),slF (Qb m f),slF (Qb m g),slI c,slF (Qb m h),slF (.tup [Qb m p.1,Qb m p.2]),none],rfl,?_⟩;refine run_seq (QB (b:=false) (Qgj (a:=false) (b:=false) (QQ (b:=false) (QeD Qyq (Qi rfl (hw.heap 1 m R L _ _ k1) rfl)) rfl) (Qc2 (b:=true) (QQ (Qi rfl (ho.heap 1 m R L _ _ k1) rfl) rfl))) (λh=>by cases h) (λ_=>Qj ?_));exact run_seq (QB (b:=false) (QQ (b:=false) (QeD Qk4 (Qi rfl (hw.taken 0 m R L _ _ s k2) rfl)) rfl) (λh=>by cases h) (λ_=>Qj (Qj ⟨_,rfl⟩)))
 rintro U ⟨j5,rfl⟩;refine Qv (Qav (toD:=λ(w:Nat)=> .int (2+w:Nat)) (List.range 4) (λ_ U=>∃j6,U=[slF (Qz m R L),slF (Qb m f),slF (Qb m g),slI c,slF (Qb m h),j5,j6]) (ir:=⟨[.int 2,.int 3,.int 4,.int 5],[]⟩) rfl rfl ⟨none,rfl⟩ ?_ ?_)
 ·rintro w w' U hi' ⟨j6,rfl⟩;obtain⟨h1,rfl⟩:=Zk.mp hi';rw[List.getElem_range];have w4:w<4:=by simpa using h1
  obtain⟨s,t⟩:=hk (2+w) m R L h g ⋯ m0 m8 net hbd gbd (λz=> ⋯);refine⟨[slF (Qz m R L),slF (Qb m f),slF (Qb m g),slI c,slF (Qb m h),j5,slI (2+w:Nat)],rfl,?_⟩;exact run_seq (QB (b:=false) (QQ (b:=false) (QeD Qk4 (Qi rfl (hw.taken (2+w) m R L _ _ s t) rfl)) rfl) (λh=>by cases h) (λ_=>Qj (Qj ⟨_,rfl⟩)))
 rintro U ⟨j6,rfl⟩;exact Qy rfl ⟨rfl,rfl⟩
noncomputable def QnH(Qee:Den)(Qdf:Den)(QaY:Den)(QcU:Den)(Qb3:Den)(QaH:Den):DS:=(Qd (Qo 1 (Qf 3 Qee [] (Qa vv0 (Qa kk4 (Qa kk6 Qc))))) (Qd (Qo 2 (QG (QW (Qf 4 Qdf [] (Qa vv0 (Qa (Qm vv1 kk0) (Qa (dOp QmW Qvr kk9) (Qa Qy7 Qc)))))) (.nm 1) [none,none] QO (dBf Qi6 (Qa vv1 Qc)))) (Qd (Qo 3 (QG (QW (Qf 4 Qdf [] (Qa vv0 (Qa (Qm vv1 kk0) (Qa (dOp QmW Qvr kk9) (Qa Qza Qc)))))) (.nm 1) [none,none] QO (dBf Qi6 (Qa vv1 Qc)))) (Qd (Qo 4 (QX (Qa (dList (Qa vv2 Qc)) (Qa (dList (Qa vv3 Qc)) Qc)))) (Qd (Qo 5 (dOp Qbb (Qf 2 QaY [] (Qa vv0 (Qa kk2 Qc))) kk7)) (Qd (sIf (bOr (Qdo (QF (Qf 4 QcU [] (Qa vv1 (Qa (Qm vv4 kk0) (Qa (Qm vv4 kk1) (Qa vv5 Qc))))))) (Qdo (QF (Qf 4 Qb3 [] (Qa vv1 (Qa (Qm vv4 kk0) (Qa (Qm vv4 kk1) (Qa (dOp Qbb vv5 kk2) Qc)))))))) (Qd (QC (dC (.bl false))) Qh) Qh) (Qd (QaW (Qa7 kk6) (.nm 6) (Qd (sIf (QF (dOp gNe (Qf 4 QaH [] (Qa vv6 (Qa vv1 (Qa (Qm vv4 kk0) (Qa (Qm vv4 kk1) Qc))))) (dC (.str "taken")))) (Qd (QC (dC (.bl false))) Qh) Qh) Qh)) (Qd (QC (dOp gEq vv4 (QX (Qa vv2 (Qa vv3 Qc))))) Qh))))))))
theorem QzQ{da dn dr dc ds dg dw:Den}{xa:List D->Option Str}(hn:Qnj dn)(hr:Qmx dr)(hc:QjV dc)(hs:QeR ds)(hg:QeR dg)(hk:QoF da)(hw:Qi0 da xa dw)(ns:List Int)(hl:ns.length<=63)(hbits:∀k,QaM (ns.getD k 0)):Qu 7 (QnH dn dr dc ds dg dw) [.lst (ns.map .int)]=slT (.bl true):=by
 obtain⟨m,R,L,en,m0,m4,net⟩:=hn ns 4 6 hl hbits (by decide) (by decide) (by decide);have m8:m<=8:= ⋯
 obtain⟨F,hF⟩:=hc ns hl hbits;obtain⟨a,ea,ba⟩:=hr ns m (10^9) 16807 hl m0 m8 (by decide) (by decide) (by decide) (by decide);obtain⟨b,eb,bb⟩:=hr ns m (10^9) 39373 hl m0 m8 (by decide) (by decide) (by decide) (by decide);obtain⟨f,ef⟩:∃f:Nat->Int,f=λj=>((a j).natAbs:Int):=⟨_,rfl⟩;obtain⟨g,eg⟩:∃g:Nat->Int,g=λj=>((b j).natAbs:Int):=⟨_,rfl⟩;have bf:∀j,j<m->0<=f j/\f j<=10^9:=λj hj=>by have:=ba j hj;rw[ef];show(0:Int)<=(a j).natAbs/\((a j).natAbs:Int)<=10^9;omega
 have bg:∀j,j<m->0<=g j/\g j<=10^9:=λj hj=>by have:=bb j hj;rw[eg];show(0:Int)<=(b j).natAbs/\((b j).natAbs:Int)<=10^9;omega
 have e1:=hs m R L f g (F 2 / 7) m0 m8 net bf bg;have e2:=hg m R L f g (F 2 / 7 / 2) m0 m8 net bf bg;refine QN (run_seq (QA (Qi (r:=⟨[.lst (ns.map .int),.int (4:Nat),.int (6:Nat)],false,[]⟩) rfl en rfl) ?_));rw[Q4];refine rsa (d:=Qb m f) ((QE (List.range m) (Q2 (Qi (Qn (r:=reF (.lst (ns.map .int))) rfl (Qn (r:=reI m) rfl (Qn (Qnv (a:=10) (k:=9) (by decide) (by decide)) (Qn (Qcc _ _) (QP _))))) ea rfl) rfl) rfl λj _=>⟨[none,slI (a j)],rfl,reT (.int (a j).natAbs),Qre rfl rfl,rfl,rfl⟩).trans (by rw[ef];rfl)) ?_;refine rsa (d:=Qb m g) ((QE (List.range m) (Q2 (Qi (Qn (r:=reF (.lst (ns.map .int))) rfl (Qn (r:=reI m) rfl (Qn (Qnv (a:=10) (k:=9) (by decide) (by decide)) (Qn (Qcc _ _) (QP _))))) eb rfl) rfl) rfl λj _=>⟨[none,slI (b j)],rfl,reT (.int (b j).natAbs),Qre rfl rfl,rfl,rfl⟩).trans (by rw[eg];rfl)) ?_;change Run _ [slF (.lst (ns.map .int)),slT (Qz m R L),slT (Qb m f),slT (Qb m g),none,none,none] _;refine rsa (d:= .lst [Qb m f,Qb m g]) (Qmi (Qn (Qf8 rfl rfl) (Qn (Qf8 rfl rfl) (QP _))) (Zav rfl)) ?_;refine rsa (d:= .int (F 2 / 7)) (Qe5 (Qi (r:=⟨[.lst (ns.map .int),.int (2:Nat)],false,[]⟩) rfl (hF 2 (by decide)).1 rfl) rfl (Qcc _ _) rfl (by decide) (by decide)) ?_;change Run _ [slF (.lst (ns.map .int)),slT (Qz m R L),slT (Qb m f),slT (Qb m g),slT (.lst [Qb m f,Qb m g]),slI (F 2 / 7),none] _;refine Qv (QB (b:=false) (Qgj (a:=false) (b:=false) (Qc2 (b:=true) (QQ (Qi rfl e1 rfl) rfl)) (Qc2 (b:=true) (QQ (Qi (Qn rfl (Qn rfl (Qn rfl (Qn (Qe5 (a:=F 2 / 7) (b:=2) rfl rfl (Qcc _ _) rfl (by decide) (by decide)) (QP _))))) e2 rfl) rfl))) (λh=>by cases h) (λ_=>Qj ?_));refine Qv (Qav (toD:=λ(w:Nat)=> .int w) (List.range 6) (λ_ U=>∃j6,U=[slF (.lst (ns.map .int)),slT (Qz m R L),slT (Qb m f),slT (Qb m g),slT (.lst [Qb m f,Qb m g]),slI (F 2 / 7),j6]) (Qbl (n:=6) (Qcc _ _) rfl (by decide)) rfl ⟨none,rfl⟩ ?_ ?_)
 ·rintro w w' U hi ⟨j6,rfl⟩;obtain⟨h1,rfl⟩:=Zk.mp hi;rw[List.getElem_range];have w6:w<6:=by simpa using h1
  obtain⟨s,t⟩:=hk w m R L f g w6 m0 m8 net (λj hj=>by have:=bf j hj;omega) (λj hj=>by have:=bg j hj;omega) (λ_ j hj=>⟨(bf j hj).1,(bg j hj).1⟩);refine⟨[slF (.lst (ns.map .int)),slT (Qz m R L),slT (Qb m f),slT (Qb m g),slT (.lst [Qb m f,Qb m g]),slI (F 2 / 7),slI w],rfl,?_⟩;exact run_seq (QB (b:=false) (QQ (b:=false) (QeD Qk4 (Qi rfl (hw.taken w m R L _ _ s t) rfl)) rfl) (λh=>by cases h) (λ_=>Qj (Qj ⟨_,rfl⟩)))
 rintro U ⟨j6,rfl⟩;exact Qy (QxC rfl rfl rfl rfl (by simp only[D.sim,List.all_cons,List.all_nil,Bool.and_true,Zm];exact⟨Qq4 6 m f,Qq4 6 m g⟩)) ⟨rfl,rfl⟩
end HS
theorem HS.some_of{α:Type}{x:Option α}{d:α}(h:x.isSome=true):x=some (x.getD d):=by cases x with | none=>cases h | some a=>rfl
namespace Law
open PySem L2 HS
noncomputable section
def top(i:Nat):Stmt:=PySem.Challenge.pw_heapstill_k49_rows_refused.main.body.getD i (.Pass ⟨0,0,0,0⟩)
abbrev cst:List (Str×Int):=[]
abbrev Sc(s:Stmt)(P:List Str):Prop:=Qcn (namesOf (Qr s)) P (Qr s)
theorem scM{s:Stmt}{P:List Str}(h1:(Qr s).kind= .function)(h2:(Qr s).isCoroutine=false)(h3:(Qr s).isGenerator=false)(h4:(namesOf (Qr s)).Nodup/\(namesOf (Qr s)).take P.length=P/\(∀x∈P,(Qr s).names.lookup x=some .local ∨(Qr s).names.lookup x=some .cell)/\∀y∈(Qr s).names,y.2≠ .free):Sc s P:=⟨h1,h2,h3,h4.1,h4.2.1,h4.2.2.1,h4.2.2.2⟩
noncomputable abbrev Cp(s:Stmt)(Γ:List (Str×FnR)):Option DS:=QaC 60 (Qf7 s Γ cst) (Qbm s)
noncomputable abbrev Dn(s:Stmt)(g:DS):Den:=Qu (namesOf (Qr s)).length g
noncomputable abbrev Gc(x:Str)(n:Nat)(d:Den)(Γ:List (Str×FnR)):List (Str×FnR):=(x,⟨n,[],d⟩)::Γ
structure Kn (x:Str) (s:Stmt) (P:List Str) (Γ:List (Str×FnR)) (g:DS):Prop where
 a:Sc s P
 b:QaG x s P
 c:Cp s Γ=some g
theorem eqQ(P:Den->Prop)(d:Den){e:Den}(h:P e)(q:d=e:=by kernel_rfl):P d:=q▸h
theorem kc{Pr:Program}{w:World}{K:PySem.W.Frag}{mg:Str->Option Value}{h:Heap}{x:Str}{s:Stmt}{P:List Str}{k:Nat}{Γ:List (Str×FnR)}{g:DS}(X:K.In h)(G:h.Ns mainGlobals mg)(M:QeW mg cst)(t:∀b:Heap,Qcg Pr w K mg b k Γ)(q:Kn x s P Γ g)(F:Fact K x s)(b:Heap):Qcg Pr w K mg b (k+1) ((x,⟨P.length,[],Dn s g⟩)::Γ):=(t b).cons (Qcd X G F q.a q.b M (t b) q.c)
local macro_rules | `(tactic| trivial)=> `(tactic| (refine⟨scM rfl rfl rfl (by decide+kernel),λ_ _ _ _ _ _=>?_,some_of (by decide+kernel)⟩;repeat' first | exact l0 rfl | refine lc λ_=>?_))
noncomputable abbrev cls:List Str:=["NoRow","NoHeap"]
noncomputable abbrev QDw:List (Str×List (Str×Bool)):=[("NoRow",[("NoRow",true),("NoHeap",false),("HeapError",true),("ValueError",true),("TooMany",false)]),("NoHeap",[("NoRow",false),("NoHeap",true),("HeapError",true),("ValueError",true),("TooMany",false)])]
noncomputable abbrev sub:=Qxy QDw
noncomputable abbrev CpT(s:Stmt)(Γ:List (Str×FnR))(Γx:List (Str×(Nat×(List D->Option Str))))(hΓ:List (Str×FnR)):Option DS:=QaC 60 (thT 60 s Γ cst ⟨Γx,cls⟩ sub hΓ) (Qbm s)
noncomputable abbrev CpX(s:Stmt)(Γ:List (Str×FnR))(Γx:List (Str×(Nat×(List D->Option Str)))):Option DX:=Qe7 60 (Qf7 s Γ cst) ⟨Γx,cls⟩ (Qbm s)
abbrev QbH:=top 7
theorem QiK:Sc QbH ["net","rows"]:=scM rfl rfl rfl (by decide+kernel)
theorem Qkz:QaG "need_rows" QbH ["net","rows"]:=λ_ _ _ _ _ _=>lc λ_=>lc λ_=>l0 rfl
noncomputable def QiO:=(CpX QbH [] []).getD xNo
theorem QpL:CpX QbH [] []=some QiO:=some_of (by decide+kernel)
noncomputable abbrev Qbw:=Qae (namesOf (Qr QbH)).length QiO
noncomputable abbrev QfU:List (Str×(Nat×(List D->Option Str))):=("need_rows",(2,Qbw))::[]
def Qkl:=(Cp QbH []).getD Qx
theorem Qqx:Cp QbH []=some Qkl:=some_of (by decide+kernel)
abbrev QK:=Dn QbH Qkl
abbrev Qdu:=Gc "need_rows" 2 QK []
abbrev Qbr:=top 8
theorem Qiu:Sc Qbr ["net","heaps"]:=scM rfl rfl rfl (by decide+kernel)
theorem Qi1:QaG "need_heaps" Qbr ["net","heaps"]:=λ_ _ _ _ _ _=>lc λ_=>lc λ_=>l0 rfl
noncomputable def Qim:=(CpX Qbr Qdu QfU).getD xNo
theorem Qok:CpX Qbr Qdu QfU=some Qim:=some_of (by decide+kernel)
noncomputable abbrev QcN:=Qae (namesOf (Qr Qbr)).length Qim
noncomputable abbrev Qfn:List (Str×(Nat×(List D->Option Str))):=("need_heaps",(2,QcN))::QfU
def Qjz:=(Cp Qbr Qdu).getD Qx
theorem Qqd:Cp Qbr Qdu=some Qjz:=some_of (by decide+kernel)
abbrev Qas:=Dn Qbr Qjz
abbrev Qf2:=Gc "need_heaps" 2 Qas Qdu
abbrev QkV:=top 10
def Qpd:=(Cp QkV Qf2).getD Qx
theorem QvG:Kn "column" QkV ["table","at"] Qf2 Qpd:=by trivial
abbrev QcA:=Dn QkV Qpd
abbrev Qlm:=Gc "column" 2 QcA Qf2
abbrev QkS:=top 11
def Qqc:=(Cp QkS Qlm).getD Qx
theorem Qvt:Kn "turned" QkS ["table"] Qlm Qqc:=by trivial
abbrev Q5:=Dn QkS Qqc
abbrev Qlk:=Gc "turned" 1 Q5 Qlm
abbrev QhK:=top 12
def Ql2:=(Cp QhK Qlk).getD Qx
theorem Qsr:Kn "unit_row" QhK ["size","at"] Qlk Ql2:=by trivial
abbrev Qa0:=Dn QhK Ql2
abbrev Qic:=Gc "unit_row" 2 Qa0 Qlk
abbrev QfP:=top 13
def Qjw:=(Cp QfP Qic).getD Qx
theorem QpZ:Kn "unit_table" QfP ["size"] Qic Qjw:=by trivial
abbrev QaV:=Dn QfP Qjw
abbrev Qgm:=Gc "unit_table" 1 QaV Qic
abbrev Qh6:=top 14
def QlM:=(Cp Qh6 Qgm).getD Qx
theorem Qsi:Kn "opposite" Qh6 ["line"] Qgm QlM:=by trivial
abbrev QaK:=Dn Qh6 QlM
abbrev Qh3:=Gc "opposite" 1 QaK Qgm
abbrev Qk6:=top 15
def Qo1:=(Cp Qk6 Qh3).getD Qx
theorem QvF:Kn "scalar" Qk6 ["one","other"] Qh3 Qo1:=by trivial
abbrev QhZ:=Dn Qk6 Qo1
abbrev Qk0:=Gc "scalar" 2 QhZ Qh3
abbrev QiW:=top 17
def QnK:=(Cp QiW Qk0).getD Qx
theorem Qtq:Kn "line_by" QiW ["line","columns"] Qk0 QnK:=by trivial
abbrev QbF:=Dn QiW QnK
abbrev Qja:=Gc "line_by" 2 QbF Qk0
abbrev Qjg:=top 16
def Qob:=(Cp Qjg Qja).getD Qx
theorem Qt0:Kn "product" Qjg ["one","other"] Qja Qob:=by trivial
abbrev QbJ:=Dn Qjg Qob
abbrev QiI:=Gc "product" 2 QbJ Qja
abbrev Qlw:=top 18
def QoO:=(Cp Qlw QiI).getD Qx
theorem QwP:Kn "common" Qlw ["numbers"] QiI QoO:=by trivial
abbrev QdK:=Dn Qlw QoO
abbrev Qlg:=Gc "common" 1 QdK QiI
abbrev QfV:=top 20
def QiE:=(Cp QfV Qlg).getD Qx
theorem Qpc:Kn "with_pivot" QfV ["lines","at"] Qlg QiE:=by trivial
abbrev Qed:=Dn QfV QiE
abbrev Qgg:=Gc "with_pivot" 2 Qed Qlg
abbrev Qhd:=top 21
def Qke:=(Cp Qhd Qgg).getD Qx
theorem QqB:Kn "taken_off" Qhd ["line","pivot_line","at","before"] Qgg Qke:=by trivial
abbrev QeY:=Dn Qhd Qke
abbrev Qhe:=Gc "taken_off" 4 QeY Qgg
abbrev Qjm:=top 19
def Qn6:=(Cp Qjm Qhe).getD Qx
theorem QuV:Kn "cleared" Qjm ["lines"] Qhe Qn6:=by trivial
abbrev QdW:=Dn Qjm Qn6
abbrev QiF:=Gc "cleared" 1 QdW Qhe
abbrev Qem:=top 22
def QgB:=(Cp Qem QiF).getD Qx
theorem Qmh:Kn "cleared_whole" Qem ["lines"] QiF QgB:=by trivial
abbrev QaT:=Dn Qem QgB
abbrev Qeh:=Gc "cleared_whole" 1 QaT QiF
abbrev Qfv:=top 23
def Qit:=(Cp Qfv Qeh).getD Qx
theorem Qog:Kn "turned_back" Qfv ["table"] Qeh Qit:=by trivial
abbrev QdA:=Dn Qfv Qit
abbrev Qft:=Gc "turned_back" 1 QdA Qeh
abbrev QfY:=top 24
def QiT:=(Cp QfY Qft).getD Qx
theorem Qpq:Kn "shared_out" QfY ["table","row"] Qft QiT:=by trivial
abbrev Qaj:=Dn QfY QiT
abbrev QfW:=Gc "shared_out" 2 Qaj Qft
abbrev Qne:=top 26
def QqS:=(Cp Qne QfW).getD Qx
theorem Qyg:Kn "steps" Qne ["roads","lanes"] QfW QqS:=by trivial
abbrev QdV:=Dn Qne QqS
abbrev Qm7:=Gc "steps" 2 QdV QfW
abbrev QfR:=top 27
def Qjd:=(Cp QfR Qm7).getD Qx
theorem QpN:Kn "toll_table" QfR ["net"] Qm7 Qjd:=by trivial
abbrev QaE:=Dn QfR Qjd
abbrev Qgn:=Gc "toll_table" 1 QaE Qm7
abbrev Qg7:=top 28
def Qky:=(Cp Qg7 Qgn).getD Qx
theorem QqH:Kn "span_list" Qg7 ["net"] Qgn Qky:=by trivial
abbrev QeZ:=Dn Qg7 Qky
abbrev Qg8:=Gc "span_list" 1 QeZ Qgn
abbrev QmB:=top 29
def Qro:=(Cp QmB Qg8).getD Qx
theorem QyK:Kn "after" QmB ["net","row","counts"] Qg8 Qro:=by trivial
abbrev QdR:=Dn QmB Qro
abbrev Qm4:=Gc "after" 3 QdR Qg8
abbrev QgU:=top 31
def Qkk:=(Cp QgU Qm4).getD Qx
theorem Qqq:Kn "net_table" QgU ["net"] Qm4 Qkk:=by trivial
abbrev Q6:=Dn QgU Qkk
abbrev Qdr:=Gc "net_table" 1 Q6 Qm4
abbrev Qby:=top 32
theorem Qis:Sc Qby ["net","one","other"]:=scM rfl rfl rfl (by decide+kernel)
theorem Qjb:QaG "told_alike" Qby ["net","one","other"]:=λ_ _ _ _ _ _=>lc λ_=>lc λ_=>lc λ_=>l0 rfl
noncomputable def QiC:=(CpX Qby Qdr Qfn).getD xNo
theorem Qof:CpX Qby Qdr Qfn=some QiC:=some_of (by decide+kernel)
noncomputable abbrev QcJ:=Qae (namesOf (Qr Qby)).length QiC
noncomputable abbrev Qfu:List (Str×(Nat×(List D->Option Str))):=("told_alike",(3,QcJ))::Qfn
def QjE:=(Cp Qby Qdr).getD Qx
theorem Qpm:Cp Qby Qdr=some QjE:=some_of (by decide+kernel)
abbrev Qaz:=Dn Qby QjE
abbrev Qf1:=Gc "told_alike" 3 Qaz Qdr
abbrev QiM:=top 35
def QnP:=(Cp QiM Qf1).getD Qx
theorem Quo:Kn "settled" QiM ["tolls","heap","counts"] Qf1 QnP:=by trivial
abbrev QgM:=Dn QiM QnP
abbrev Qi8:=Gc "settled" 3 QgM Qf1
abbrev Qnc:=top 34
def Qrn:=(Cp Qnc Qi8).getD Qx
theorem Qy2:Kn "still" Qnc ["net","heap"] Qi8 Qrn:=by trivial
abbrev Qbe:=Dn Qnc Qrn
abbrev Qnp:=Gc "still" 2 Qbe Qi8
abbrev Qfs:=top 38
def QiA:=(Cp Qfs Qnp).getD Qx
theorem Qoo:Kn "near_counts" Qfs ["net","row"] Qnp QiA:=by trivial
abbrev Qbf:=Dn Qfs QiA
abbrev Qfm:=Gc "near_counts" 2 Qbf Qnp
abbrev Qel:=top 39
def Qgt:=(Cp Qel Qfm).getD Qx
theorem Qmf:Kn "doubled_spans" Qel ["net"] Qfm Qgt:=by trivial
abbrev Qan:=Dn Qel Qgt
abbrev Qb7:=Gc "doubled_spans" 1 Qan Qfm
abbrev s_again:=top 37
theorem QpT:Sc s_again ["net","row"]:=scM rfl rfl rfl (by decide+kernel)
theorem QqX:QaG "again" s_again ["net","row"]:=λ_ _ _ _ _ _=>lc λ_=>lc λ_=>l0 rfl
noncomputable def QoV:=(CpX s_again Qb7 Qfu).getD xNo
theorem Qwv:CpX s_again Qb7 Qfu=some QoV:=some_of (by decide+kernel)
noncomputable abbrev QdH:=Qae (namesOf (Qr s_again)).length QoV
noncomputable abbrev QkF:List (Str×(Nat×(List D->Option Str))):=("again",(2,QdH))::Qfu
def QqZ:=(Cp s_again Qb7).getD Qx
theorem Qyb:Cp s_again Qb7=some QqZ:=some_of (by decide+kernel)
abbrev Qac:=Dn s_again QqZ
abbrev QhF:=Gc "again" 2 Qac Qb7
abbrev Qb2:=top 40
theorem Qkh:Sc Qb2 ["net","one","other"]:=scM rfl rfl rfl (by decide+kernel)
theorem QlA:QaG "heap_sum" Qb2 ["net","one","other"]:=λ_ _ _ _ _ _=>lc λ_=>lc λ_=>lc λ_=>l0 rfl
noncomputable def QkD:=(CpX Qb2 QhF QkF).getD xNo
theorem QqK:CpX Qb2 QhF QkF=some QkD:=some_of (by decide+kernel)
noncomputable abbrev QcO:=Qae (namesOf (Qr Qb2)).length QkD
noncomputable abbrev Qha:List (Str×(Nat×(List D->Option Str))):=("heap_sum",(3,QcO))::QkF
def Qmu:=(Cp Qb2 QhF).getD Qx
theorem QsK:Cp Qb2 QhF=some Qmu:=some_of (by decide+kernel)
abbrev Qbc:=Dn Qb2 Qmu
abbrev Qea:=Gc "heap_sum" 3 Qbc QhF
abbrev Qb5:=top 41
theorem Qkg:Sc Qb5 ["net","row"]:=scM rfl rfl rfl (by decide+kernel)
theorem QlD:QaG "contrary" Qb5 ["net","row"]:=λ_ _ _ _ _ _=>lc λ_=>lc λ_=>l0 rfl
noncomputable def Qkv:=(CpX Qb5 Qea Qha).getD xNo
theorem Qqw:CpX Qb5 Qea Qha=some Qkv:=some_of (by decide+kernel)
noncomputable abbrev Qdt:=Qae (namesOf (Qr Qb5)).length Qkv
noncomputable abbrev Qhb:List (Str×(Nat×(List D->Option Str))):=("contrary",(2,Qdt))::Qha
def Ql4:=(Cp Qb5 Qea).getD Qx
theorem Qsl:Cp Qb5 Qea=some Ql4:=some_of (by decide+kernel)
abbrev Qa9:=Dn Qb5 Ql4
abbrev Qev:=Gc "contrary" 2 Qa9 Qea
abbrev QdY:=top 42
theorem QpJ:Sc QdY ["net","row","factor"]:=scM rfl rfl rfl (by decide+kernel)
theorem QqW:QaG "times" QdY ["net","row","factor"]:=λ_ _ _ _ _ _=>lc λ_=>lc λ_=>lc λ_=>l0 rfl
noncomputable def Qpa:=(CpX QdY Qev Qhb).getD xNo
theorem Qu7:CpX QdY Qev Qhb=some Qpa:=some_of (by decide+kernel)
noncomputable abbrev Qgp:=Qae (namesOf (Qr QdY)).length Qpa
noncomputable abbrev QkP:List (Str×(Nat×(List D->Option Str))):=("times",(3,Qgp))::Qhb
def QrC:=(Cp QdY Qev).getD Qx
theorem Qzv:Cp QdY Qev=some QrC:=some_of (by decide+kernel)
abbrev Qcp:=Dn QdY QrC
abbrev Qnl:=Gc "times" 3 Qcp Qev
abbrev Qg4:=top 49
def Qki:=(Cp Qg4 Qnl).getD Qx
theorem QqM:Kn "in_common" Qg4 ["lines","number"] Qnl Qki:=by trivial
abbrev Qcb:=Dn Qg4 Qki
abbrev QgX:=Gc "in_common" 2 Qcb Qnl
abbrev QmR:=top 53
def Qrp:=(Cp QmR QgX).getD Qx
theorem Qzo:Kn "added" QmR ["factor","line","other_factor","other_line"] QgX Qrp:=by trivial
abbrev Qdk:=Dn QmR Qrp
abbrev QmG:=Gc "added" 4 Qdk QgX
abbrev Qjh:=top 54
def QnW:=(Cp Qjh QmG).getD Qx
theorem QtH:Kn "weighed" Qjh ["one","other"] QmG QnW:=by trivial
abbrev QgD:=Dn Qjh QnW
abbrev QiU:=Gc "weighed" 2 QgD QmG
abbrev QeB:=top 52
def Qhu:=(Cp QeB QiU).getD Qx
theorem Qnq:Kn "column_steps" QeB ["free","last"] QiU Qhu:=by trivial
abbrev Qdl:=Dn QeB Qhu
abbrev QeP:=Gc "column_steps" 2 Qdl QiU
abbrev QkL:=top 48
def QpH:=(Cp QkL QeP).getD Qx
theorem QvZ:Kn "within" QkL ["line","length"] QeP QpH:=by trivial
abbrev QeH:=Dn QkL QpH
abbrev QkK:=Gc "within" 2 QeH QeP
abbrev QmA:=top 51
def Qq6:=(Cp QmA QkK).getD Qx
theorem Qx5:Kn "mixed" QmA ["one","other","length"] QkK Qq6:=by trivial
abbrev QjK:=Dn QmA Qq6
abbrev Qnb:=Gc "mixed" 3 QjK QkK
abbrev Qfj:=top 50
def Qiv:=(Cp Qfj Qnb).getD Qx
theorem Qoj:Kn "free_column" Qfj ["lines","length"] Qnb Qiv:=by trivial
abbrev QdB:=Dn Qfj Qiv
abbrev Qfg:=Gc "free_column" 2 QdB Qnb
abbrev QkJ:=top 47
def Qpv:=(Cp QkJ Qfg).getD Qx
theorem Qvg:Kn "shared" QkJ ["line","number"] Qfg Qpv:=by trivial
abbrev QdJ:=Dn QkJ Qpv
abbrev Qlc:=Gc "shared" 2 QdJ Qfg
abbrev QeA:=top 45
def Qhm:=(Cp QeA Qlc).getD Qx
theorem Qnw:Kn "right_tables" QeA ["parts","whole"] Qlc Qhm:=by trivial
abbrev Qdm:=Dn QeA Qhm
abbrev Qey:=Gc "right_tables" 2 Qdm Qlc
abbrev Qhk:=top 46
def Qkj:=(Cp Qhk Qey).getD Qx
theorem Qqy:Kn "by_number" Qhk ["line","factor"] Qey Qkj:=by trivial
abbrev Qe3:=Dn Qhk Qkj
abbrev Qg3:=Gc "by_number" 2 Qe3 Qey
abbrev Qfl:=top 44
def Qio:=(Cp Qfl Qg3).getD Qx
theorem Qoq:Kn "ring_tables" Qfl ["table"] Qg3 Qio:=by trivial
abbrev Qa1:=Dn Qfl Qio
abbrev Qfq:=Gc "ring_tables" 1 Qa1 Qg3
abbrev QdN:=top 56
def Qf9:=(Cp QdN Qfq).getD Qx
theorem QkM:Kn "middle_entries" QdN ["middle"] Qfq Qf9:=by trivial
abbrev QaD:=Dn QdN Qf9
abbrev QbQ:=Gc "middle_entries" 1 QaD Qfq
abbrev Qbt:=top 57
theorem Qiy:Sc Qbt ["net","row"]:=scM rfl rfl rfl (by decide+kernel)
theorem QjC:QaG "ring_place" Qbt ["net","row"]:=λ_ _ _ _ _ _=>lc λ_=>lc λ_=>l0 rfl
noncomputable def Qip:=(CpX Qbt QbQ QkP).getD xNo
theorem Qoe:CpX Qbt QbQ QkP=some Qip:=some_of (by decide+kernel)
noncomputable abbrev QcL:=Qae (namesOf (Qr Qbt)).length Qip
noncomputable abbrev Qfk:List (Str×(Nat×(List D->Option Str))):=("ring_place",(2,QcL))::QkP
def Qjn:=(Cp Qbt QbQ).getD Qx
theorem QpU:Cp Qbt QbQ=some Qjn:=some_of (by decide+kernel)
abbrev QaX:=Dn Qbt Qjn
abbrev Qgd:=Gc "ring_place" 2 QaX QbQ
abbrev Qg5:=top 59
def Qkq:=(Cp Qg5 Qgd).getD Qx
theorem QqL:Kn "_law_cell" Qg5 ["_law_script","_law_k"] Qgd Qkq:=by trivial
abbrev QaY:=Dn Qg5 Qkq
abbrev Qg1:=Gc "_law_cell" 2 QaY Qgd
abbrev Qhf:=top 60
def Qkt:=(Cp Qhf Qg1).getD Qx
theorem QqF:Kn "_law_base" Qhf ["_law_many","_law_turn","_law_kind"] Qg1 Qkt:=by trivial
abbrev Qe1:=Dn Qhf Qkt
abbrev Qhj:=Gc "_law_base" 3 Qe1 Qg1
abbrev Qhg:=top 61
def Qkn:=(Cp Qhg Qhj).getD Qx
theorem Qqz:Kn "_law_fits" Qhg ["_law_many","_law_ways"] Qhj Qkn:=by trivial
abbrev QbK:=Dn Qhg Qkn
abbrev Qg9:=Gc "_law_fits" 2 QbK Qhj
abbrev QgY:=top 62
def Qku:=(Cp QgY Qg9).getD Qx
theorem QqD:Kn "_law_more" QgY ["_law_ways","_law_cells","_law_many","_law_kind"] Qg9 Qku:=by trivial
abbrev Qe2:=Dn QgY Qku
abbrev QgW:=Gc "_law_more" 4 Qe2 Qg9
abbrev QhP:=top 63
def QlQ:=(Cp QhP QgW).getD Qx
theorem QsZ:Kn "_law_net" QhP ["_law_script","_law_most","_law_upto"] QgW QlQ:=by trivial
abbrev Qee:=Dn QhP QlQ
abbrev QhV:=Gc "_law_net" 3 Qee QgW
abbrev QhU:=top 64
def QlT:=(Cp QhU QhV).getD Qx
theorem QsT:Kn "_law_row" QhU ["_law_script","_law_many","_law_far","_law_by"] QhV QlT:=by trivial
abbrev Qdf:=Dn QhU QlT
abbrev Qeq:=Gc "_law_row" 4 Qdf QhV
abbrev Qbs:=top 65
theorem Qin:Sc Qbs ["_law_way","_law_net_here","_law_one","_law_other"]:=scM rfl rfl rfl (by decide+kernel)
theorem QjA:QaG "_law_asked" Qbs ["_law_way","_law_net_here","_law_one","_law_other"]:=λ_ _ _ _ _ _=>lc λ_=>lc λ_=>lc λ_=>lc λ_=>l0 rfl
noncomputable def Qir:=(CpX Qbs Qeq Qfk).getD xNo
theorem Qom:CpX Qbs Qeq Qfk=some Qir:=some_of (by decide+kernel)
noncomputable abbrev Qb0:=Qae (namesOf (Qr Qbs)).length Qir
noncomputable abbrev QdD:List (Str×(Nat×(List D->Option Str))):=("_law_asked",(4,Qb0))::Qfk
def Qi4:=(Cp Qbs Qeq).getD Qx
theorem Qqf:Cp Qbs Qeq=some Qi4:=some_of (by decide+kernel)
abbrev QaA:=Dn Qbs Qi4
abbrev Qgc:=Gc "_law_asked" 4 QaA Qeq
abbrev Qdv:=top 66
theorem Qql:Sc Qdv ["_law_way","_law_net_here","_law_one","_law_other"]:=scM rfl rfl rfl (by decide+kernel)
theorem Qqr:QaG "_law_word" Qdv ["_law_way","_law_net_here","_law_one","_law_other"]:=λ_ _ _ _ _ _=>lc λ_=>lc λ_=>lc λ_=>lc λ_=>l0 rfl
def Qkp:=(CpT Qdv Qgc QdD []).getD Qx
theorem Qqv:CpT Qdv Qgc QdD []=some Qkp:=some_of (by decide+kernel)
abbrev QaH:=Dn Qdv Qkp
abbrev Qg2:=Gc "_law_word" 4 QaH Qgc
abbrev Qdy:=top 67
theorem QoR:Sc Qdy ["_law_way","_law_net_here","_law_one","_law_other","_law_short_here"]:=scM rfl rfl rfl (by decide+kernel)
theorem QqA:QaG "_law_ours" Qdy ["_law_way","_law_net_here","_law_one","_law_other","_law_short_here"]:=λ_ _ _ _ _ _=>lc λ_=>lc λ_=>lc λ_=>lc λ_=>lc λ_=>l0 rfl
def Qks:=(CpT Qdy Qg2 QdD []).getD Qx
theorem QqN:CpT Qdy Qg2 QdD []=some Qks:=some_of (by decide+kernel)
abbrev QbG:=Dn Qdy Qks
abbrev Qg0:=Gc "_law_ours" 5 QbG Qg2
abbrev Qf6:=top 68
def Qjf:=(Cp Qf6 Qg0).getD Qx
theorem Qqh:Kn "_law_below" Qf6 ["_law_heap","_law_cell_here"] Qg0 Qjf:=by trivial
abbrev Qcr:=Dn Qf6 Qjf
abbrev Qge:=Gc "_law_below" 2 Qcr Qg0
abbrev Qgf:=top 69
def Qi7:=(Cp Qgf Qge).getD Qx
theorem Qpx:Kn "_law_short" Qgf ["_law_net_here","_law_one","_law_other","_law_cell_here"] Qge Qi7:=by trivial
abbrev QcU:=Dn Qgf Qi7
abbrev Qgh:=Gc "_law_short" 4 QcU Qge
abbrev Qeu:=top 70
def Qgz:=(Cp Qeu Qgh).getD Qx
theorem QlK:Kn "_law_negative" Qeu ["_law_net_here","_law_one","_law_other","_law_cell_here"] Qgh Qgz:=by trivial
abbrev Qb3:=Dn Qeu Qgz
abbrev QgA:=Gc "_law_negative" 4 Qb3 Qgh
abbrev Qmm:=top 71
theorem Qzz:Sc Qmm ["_law_script"]:=scM rfl rfl rfl (by decide+kernel)
theorem QCL:QaG "law" Qmm ["_law_script"]:=λ_ _ _ _ _ _=>lc λ_=>l0 rfl
def Qxw:=(Cp Qmm QgA).getD Qx
theorem QBT:Cp Qmm QgA=some Qxw:=some_of (by decide+kernel)
abbrev Qso:=Dn Qmm Qxw
theorem Qkx:QK=Qu 3 (HS.Qdw):=by kernel_rfl
theorem Qjc:Qas=Qu 3 (HS.QcW QK):=by kernel_rfl
theorem QgH:QaT=Qu 2 (HS.Qd4 QdW):=by kernel_rfl
theorem Qzg:QdV=Qu 4 (HS.Qnr):=by kernel_rfl
theorem QoU:QaE=Qu 5 (HS.Qgq QdV):=by kernel_rfl
theorem Qji:Qaz=Qu 7 (HS.Qc7 QK Q6 Qaj Q5 Qa0):=by kernel_rfl
theorem Qq0:Qac=Qu 10 (HS.QjX QK Qbf QdR Qan Qbe):=by kernel_rfl
theorem QlP:Qbc=Qu 3 (HS.QfC Qas Qbe):=by kernel_rfl
theorem QlJ:Qa9=Qu 2 (HS.Qh9 QaK Qac):=by kernel_rfl
theorem Qri:Qcp=Qu 3 (HS.Qm1 Qac):=by kernel_rfl
theorem QiL:QaX=Qu 4 (HS.Qes QK Q6 Qa1 Q5 QbF QaD):=by kernel_rfl
theorem QiG:QaA=Qu 4 (HS.Qcx Qaz Qbc Qac Qa9 Qcp QaX):=by kernel_rfl
theorem QBI:Qso=Qu 7 (HS.QnH Qee Qdf QaY QcU Qb3 QaH):=by kernel_rfl
theorem Qi3:Qbw=Qae 3 (HS.QeX):=by kernel_rfl
theorem Qiz:QcN=Qae 3 (HS.Qd8 QK Qbw):=by kernel_rfl
theorem Qix:QcJ=Qae 7 (HS.Qeo Q5 Qa0 Qaj Q6 QK Qbw):=by kernel_rfl
theorem QpA:QdH=Qae 10 (HS.QjN Qbe Qan QdR Qbf QK Qbw):=by kernel_rfl
theorem QgR:QcO=Qae 3 (HS.Qek Qbe Qas QcN):=by kernel_rfl
theorem Qkw:Qdt=Qae 2 (HS.Qij QaK Qac QdH):=by kernel_rfl
theorem QoI:Qgp=Qae 3 (HS.QnA Qac QdH):=by kernel_rfl
theorem QiB:QcL=Qae 4 (HS.Qei QaD Q5 QbF Q6 Qa1 QK Qbw):=by kernel_rfl
theorem Qiw:Qb0=Qae 4 (HS.Qd7 QaX Qcp Qa9 Qac Qbc Qaz QcL Qgp Qdt QdH QcO QcJ):=by kernel_rfl
end
end Law
namespace HS
open PySem PySem.Spec L2
noncomputable def Qwz(mg:Str->Option Value):List Str->Prop
 | []=>True
 | x::r=>mg x=none/\Qwz mg r
theorem Qpj{mg:Str->Option Value}:∀{l:List Str},Qwz mg l->∀x∈l,mg x=none
 | [],_,x,h=>by simp at h
 | y::r,h,x,hx=>by
  rcases Zi.mp hx with rfl | hx
  ·exact h.1
  ·exact Qpj h.2 x hx
noncomputable def Qvp(mg:Str->Option Value):List (Str×Int)->Prop
 | []=>True
 | (x,i)::r=>(∃t,mg x=some (.int i t))/\Qvp mg r
theorem QpW{mg:Str->Option Value}:∀{l:List (Str×Int)},Qvp mg l->∀x i,look x l=some i->∃t,mg x=some (.int i t)
 | [],_,x,i,h=>by cases h
 | (y,j)::r,h,x,i,hx=>by
  unfold look at hx;split at hx
  ·rename_i e;cases hx;subst e;exact h.1
  ·exact QpW h.2 x i hx
theorem QAj{mg:Str->Option Value}{cs:List (Str×Int)}(b:Qwz mg Qqn)(c:Qvp mg cs):QeW mg cs:=⟨Qpj b,QpW c⟩
end HS
namespace Law
open HS
theorem QoB:Qf0 QaE:=by rw[QoU,Qzg];exact Qyk
def QrV:=eqQ Qj6 QaK QAl
def Qmy:=eqQ QfZ Q6 (QuY QrV QoB)
def Qm3:=eqQ QfQ QcA Qtx
def QfH:=eqQ QcX Q5 (Qug Qm3)
def Qyx:=eqQ QkO QhZ QuR
def Qrq:=eqQ QhS QbF (Qux Qyx)
def Qqg:=eqQ Qgw QbJ (QsW QfH Qrq)
def QrA:=eqQ QhT QdK Qs2
def QsG:=eqQ Qjr Qa0 QxE
def Qp5:=eqQ Qho QaV (QwV QsG)
def QC4:=eqQ Qk5 Qed (QuZ QrV)
def QCh:=eqQ Qlo QeY QuQ
def Qxu:=eqQ QfA QdW (QqJ QC4 QCh)
theorem QCH:Qhh QaT:=by rw[QgH];exact QoM Qxu
theorem QDB:QhR QdW:=Qws.g Qxu
theorem QDo:Qg6 QaT:=by rw[QgH];exact Qpu QDB
def hTB:=eqQ QmE QdA (Qvv QsG QDo)
def QtR:=eqQ QjW Qcb (Qw0 QrA)
def QtL:=eqQ QjR Qdk Qw6
def QAP:=eqQ Qnn QgD (Qv0 QtL)
def QBB:=eqQ QmM Qdl (Qwy Qp5 QAP QtL QfH)
def Qrj:=eqQ Qh8 QeH Qtp
def QA4:=eqQ Qnz QjK (QwN QtR Qrj)
def QCG:=eqQ QoZ QdB (QyY Qm3 QA4)
def Qq2:=eqQ Qh0 QdJ Qun
def QBm:=eqQ QmN Qdm (Qv6 Qp5 QtR Qq2 Qrj QCG QBB Qqg)
def QA8:=eqQ Qnu Qe3 QwW
def QAY:=eqQ Qj2 Qa1 (Qu6 hTB QBm QA8 Qp5 Qq2 Qqg QfH)
theorem QjG:Qe8 QK:=by rw[Qkx];exact Qyj
def QDb:=eqQ Qr3 QaD QA1
theorem QyT:Qll Qa1 QaX:=by rw[QiL];exact Qti QjG (Qzh Qmy) QfH Qrq QDb
theorem Qtk:Qj5 Qas:=by rw[Qjc];exact Qww QjG
def QwX:=eqQ Qjs QgM QsV
def Qtc:=eqQ Qj3 Qbe (QwL Qtk QoB QwX)
def QBA:=eqQ QnD QdR (Qvk QjG QoB)
def QAs:=eqQ QpC QeZ (Qzk QoB)
def Qvb:=eqQ Qjo Qan (QrU QAs)
def QxA:=eqQ QgL Qaj (QrO QfH QCH Qm3 QrA)
theorem QCW:Qlb Qaj:=Shared.small (QxL.g QxA)
def QBP:=eqQ QmF Qbf (Qwt Qmy QxA)
theorem Qzt:Qlp Qac:=by rw[Qq0];exact Qu2 QjG QBP QBA Qvb Qtc
theorem Qpi:QhH Qac:=QCe.small Qzt
theorem QAw:QmD Qaz:=by rw[Qji];exact Qw5 QjG Qmy QCW QfH QsG
theorem QCw:QpD Qbc:=by rw[QlP];exact QyA Qtk Qtc
def Qxi:=eqQ QjV QaY QvV
def QCN:=eqQ Qqk Qe1 Qzl
def QBU:=eqQ QpG QbK QxD
def QBW:=eqQ QoP Qe2 (QyO QBU)
def QDD:=eqQ Qnj Qee (QvE Qxi QCN QBW)
def QDq:=eqQ Qmx Qdf QvC
theorem QyR:QiR Qa9:=by rw[QlJ];exact QsB QrV Qpi
theorem QBs:QnC Qcp:=by rw[Qri];exact Qvl Qpi
theorem QiV:ApF QK Qbw:=by rw[Qkx,Qi3];exact Qzd
theorem xNd:QgG Qbw:=by rw[Qi3];exact Qwk
theorem QwS:ApF Qas QcN:=by rw[Qjc,Qiz];exact Qwx QiV
theorem xNh:QjP QcN:=by rw[Qiz];exact QsD QiV QjG xNd
theorem Qz8:ApF Qaz QcJ:=by rw[Qji,Qix];exact QBM QiV
theorem xTa:QjT QcJ:=by rw[Qix];exact QBw QiV xNd
theorem Qng:ApF Qac QdH:=by rw[Qq0,QpA];exact QBQ QiV
theorem xAg:Qgb QdH:=by rw[QpA];exact QzB QiV xNd
theorem QAL:ApF Qbc QcO:=by rw[QlP,QgR];exact QBK QwS
theorem xHs:QjT QcO:=by rw[QgR];exact QBc QwS xNh
theorem yHs:Qsg QcO:=by rw[QgR];exact QAb QwS xNh
theorem QAJ:ApF Qa9 Qdt:=by rw[QlJ,Qkw];exact QCm Qng
theorem xCo:Qgb Qdt:=by rw[Qkw];exact QBl Qng QrV xAg
theorem QBx:ApF Qcp Qgp:=by rw[Qri,QoI];exact QB9 Qng
theorem xTi:Qp4 Qgp:=by rw[QoI];exact QBq Qng xAg
theorem QBd:ApF QaX QcL:=by rw[QiL,QiB];exact QCq QiV
theorem xRp:Qgb QcL:=by rw[QiB];exact QAo QiV xNd
theorem QzG:ApF QaA Qb0:=by rw[QiG,Qiw];exact QBS Qz8 QAL Qng QAJ QBx QBd
theorem xAs:QrZ Qb0:=by rw[Qiw];exact Qz1 Qz8 QAL Qng QAJ QBx QBd xTa xHs yHs xAg xCo xTi xRp
theorem w49:QrT sub:=⟨by decide+kernel,by decide+kernel,by decide+kernel,by decide+kernel,by decide+kernel,by decide+kernel,by decide+kernel,by decide+kernel,by decide+kernel,by decide+kernel⟩
theorem QAz:QoF QaA:=by rw[QiG];exact QB1 QAw QCw Qpi QyR QBs QAY QyT
def Qsc:=eqQ (Qi0 QaA Qb0) QaH (Qt7 QzG w49)
def Qxs:=eqQ (QlR Qb0) QbG (Qtz QzG w49)
def Qui:=eqQ QjU Qcr QsY
def QAg:=eqQ QeR QcU (QrS xAs Qsc Qxs Qui)
def QzA:=eqQ QeR Qb3 (Qvx xAs QAz Qsc Qxs Qui)
theorem QBo(ns:List Int)(h:ns.length<=63)(hb:∀k:Nat,PySem.Builtin.Int.intBits (ns.getD k 0)<=2^20):∃fr,Qso [.lst (ns.map .int)]=some (.bl true,fr):=by
 rw[QBI];exact⟨true,QzQ QDD QDq Qxi QAg QzA QAz Qsc ns h hb⟩
end Law
namespace PySem.W.Fast
def tw6559022383753963203:=0
def tw3290854597774330428:=0
def tw9488107360058926142:=0
def tw5197791201264149734:=0
def tw10746528318024706429:=0
def tw7882471892405598611:=0
def tw601657538135436930:=0
def tw7449467029661270037:=0
def tw16136741030869206965:=0
def tw11045979874885645634:=0
def tw10777251309349380705:=0
def tw7844752794896925019:=0
def tw4915176050034975250:=0
def tw12776127386793480602:=0
def tw1473875759853304909:=0
def tw17866422376197149965:=0
def tw10514066395550530222:=0
def tw4799091803895481209:=0
def tw11781645853796934675:=0
def tw18332475622165013318:=0
def tw10503629033724394371:=0
def tw14499154719733432553:=0
def tw5561514368636634769:=0
def tw11501506339774311042:=0
def tw14779116936558771332:=0
def tw11683097836913106069:=0
def tw17240715390158162037:=0
def tw4762724433335876349:=0
def tw6132593901109056286:=0
def tw3657714016414057909:=0
def tw822082267803397678:=0
def tw14993971632344405134:=0
def tw27117078430143527:=0
def tw5018992259640683397:=0
def tw16934903546151088766:=0
def tw15132467555470850521:=0
def tw6619913696755458565:=0
def tw14673212016896264603:=0
def tw14611132301024624430:=0
def tw11047442984143064738:=0
def tw1273852285829507359:=0
def tw15294793328010804546:=0
def tw4581929251942449213:=0
def tw15607152182908686192:=0
def tw240246510476023473:=0
def tw131003565478831642:=0
def tw13842371352052437309:=0
def tw4786405069672871966:=0
def tw10108756048007546556:=0
def tw11710725146089460049:=0
def tw10479623499722684677:=0
def tw2793364871543957319:=0
def tw5484592639219413775:=0
def tw3719183999512002537:=0
def tw12768874477232279214:=0
def tw1714388024723006096:=0
def tw1479293226899820564:=0
def tw2558729749337769548:=0
def tw12297237904433559872:=0
def tw13588359268727969552:=0
def tw15644793535846545404:=0
def tw11345527620643115100:=0
def tw8295309675236147525:=0
def tw1933560190088822540:=0
def tw13043257360128581833:=0
def tw15217444210318904099:=0
def tw16948883307111633180:=0
def tw9802285035139651619:=0
def tw17113993348175395994:=0
def tw13283635727794845431:=0
def tw14538647560543338672:=0
def tw15755029018168595863:=0
def tw11097778630332509318:=0
def tw1610949660014888740:=0
def tw15558067026560027910:=0
def tw11149236368118327369:=0
def tw5624137486443904810:=0
def tw13173836226275894923:=0
def tw11380139259344738844:=0
def tw2771963406243614761:=0
def tw16061035320737961114:=0
def tw13623312575909304022:=0
def tw18268661203934924255:=0
def tw7771132721548767655:=0
def tw10447625961829963674:=0
def tw11777921418552927567:=0
def tw436772027585097948:=0
def tw9151352411053195350:=0
def tw5183274218308854557:=0
def tw5417807142788588020:=0
def tw12003903600434465684:=0
def tw11292172430150917256:=0
def tw5213201063716488992:=0
def tw4983720967617831941:=0
def tw1746161426874341833:=0
def tw8659982673650620633:=0
def tw5823032698293613044:=0
def tw5506500865141811736:=0
def tw1542744422482912974:=0
def tw17985839853810404840:=0
def tw15213791285679217389:=0
def tw2508947881495000827:=0
def tw1894581516092045216:=0
def tw12315988185201718273:=0
def tw2237714692137132501:=0
def tw18194903878404712928:=0
def tw718421424590912859:=0
def tw5764514543961579475:=0
def tw3161330222008207973:=0
def tw12235719038692810330:=0
def tw14778564397867308447:=0
def tw16962720807036455455:=0
def tw5756812325714859322:=0
def tw16991648761045606530:=0
def tw14442554149681615955:=0
def tw8475990304980308321:=0
def tw17995598876859378936:=0
def tw9807449753372325255:=0
def tw9610540603441280800:=0
def tw2788669105468101454:=0
def tw16008543227713273435:=0
def tw6849760270097354798:=0
def tw12982049516769879886:=0
def tw4310877719905625614:=0
def tw1899210381443338835:=0
def tw166001840701559335:=0
def tw16163813834379755461:=0
def tw11528451018406343275:=0
def tw9815194964206770423:=0
def tw13661395926907731245:=0
def tw5074855150113677612:=0
def tw789803256567406554:=0
def tw2879236439368132775:=0
def tw9391082884987849672:=0
def tw14445662550825957123:=0
def tw15900911667611863735:=0
def tw3572848383138474358:=0
def tw3302713721213118914:=0
def tw7204405035616631364:=0
def tw6034270676742515195:=0
def tw16493660558327417984:=0
def tw14427961717037592643:=0
def tw4637296982395452432:=0
def tw8520015625271090747:=0
def tw2630230987106198806:=0
def tw6428827608834183407:=0
def tw3940381048187486867:=0
def tw15581484556941171327:=0
def tw6997702062590465117:=0
def tw9210751024427946155:=0
def tw142821323388412925:=0
def tw5328426593291533102:=0
def tw14963606529399174729:=0
def tw1367126074411258502:=0
def tw8313659919655271968:=0
def tw4573339787226536672:=0
def tw4115171797018956119:=0
def tw3040301344630661271:=0
end PySem.W.Fast
local macro_rules | `(tactic| trivial)=> `(tactic| ((try dsimp only[L2.KOf]);refine' HS.fact_mk ?a ?l ?c ?k;(case a=>k_is);(case l=>k_is);(case c=>k_is);(case k=>k_is)))
open PySem PySem.W PyProof.Rows HS
set_option maxRecDepth 100000 in
set_option maxHeartbeats 0 in
theorem PySem.Challenge.cw_heapstill_k49_rows_refused_holds : PySem.Challenge.rw_heapstill_k49_rows_refused.Holds := by
 w_on;o_law;k_head;(case hw=>w_witness2)
 k_fill
 refine HS.Qts (l:=PySem.Challenge.rw_heapstill_k49_rows_refused) (k:=57) (x:= "_law_script") (den:=Law.Qso) rfl rfl ⟨rfl,by decide,by decide⟩ (λw h Y=>PySem.W.kIn_of Y) Law.QBo ?F
 case F=>
  intro w mg fa h KX G hmg;have M:HS.QeW mg Law.cst:=by
   refine HS.QAj ⟨?_,?_,?_,?_,?_,?_,?_,?_,?_,?_,?_,?_,?_,?_,?_,?_,?_,?_,True.intro⟩ True.intro<;>exact PySem.W.mg_none_of KX G (by k_is)
  have t0:∀base:Heap,HS.Qcg (PySem.Challenge.rw_heapstill_k49_rows_refused).prog w (L2.KOf KX) mg base 0 []:=λ_=>HS.Qcg.nil;have hcl:∀x∈Law.cls,HS.QiJ (L2.KOf KX) x:=HS.Qry (by refine⟨?_,?_,trivial⟩<;>(dsimp only[L2.KOf];refine' HS.Qy8 ?a ?b;(case a=>k_is);(case b=>k_exc)));have hsub:HS.Qck (L2.KOf KX) Law.sub:=by
   refine HS.QxF ⟨⟨?_,?_,?_,?_,?_,?_,trivial⟩,⟨?_,?_,?_,?_,?_,?_,trivial⟩,trivial⟩<;>(dsimp only[L2.KOf];first | (refine' HS.QBV ?a ?b ?c ?d ?e ?f ?g;(case a=>k_is);(case b=>k_is);(case c=>k_is);(case d=>k_is);(case e=>k_is);(case f=>k_is);(case g=>k_is)) | (refine' HS.Qwn ?a ?b ?c ?d;(case a=>k_is);(case b=>k_is);(case c=>kts_exm);(case d=>kit_is)) | (refine' HS.Qyt ?a ?b ?c ?d;(case a=>k_is);(case b=>k_is);(case c=>kts_exm);(case d=>kit_is)))
  have x0:∀base:Heap,HS.Qfr (PySem.Challenge.rw_heapstill_k49_rows_refused).prog w (L2.KOf KX) mg base 0 []:=λ_=>HS.Qfr.nil;have y1:=λb=>(x0 b).cons (HS.Qdb KX G (by trivial) Law.QiK Law.Qkz M (t0 b) (x0 b) hcl Law.QpL);have t1:=λb=>(t0 b).cons (HS.Qcd KX G (by trivial) Law.QiK Law.Qkz M (t0 b) Law.Qqx);have y2:=λb=>(y1 b).cons (HS.Qdb KX G (by trivial) Law.Qiu Law.Qi1 M (t1 b) (y1 b) hcl Law.Qok);have t2:=λb=>(t1 b).cons (HS.Qcd KX G (by trivial) Law.Qiu Law.Qi1 M (t1 b) Law.Qqd);have t3:=Law.kc KX G M t2 Law.QvG (by trivial);have t4:=Law.kc KX G M t3 Law.Qvt (by trivial);have t5:=Law.kc KX G M t4 Law.Qsr (by trivial);have t6:=Law.kc KX G M t5 Law.QpZ (by trivial);have t7:=Law.kc KX G M t6 Law.Qsi (by trivial);have t8:=Law.kc KX G M t7 Law.QvF (by trivial);have t9:=Law.kc KX G M t8 Law.Qtq (by trivial);have t10:=Law.kc KX G M t9 Law.Qt0 (by trivial);have t11:=Law.kc KX G M t10 Law.QwP (by trivial);have t12:=Law.kc KX G M t11 Law.Qpc (by trivial);have t13:=Law.kc KX G M t12 Law.QqB (by trivial);have t14:=Law.kc KX G M t13 Law.QuV (by trivial);have t15:=Law.kc KX G M t14 Law.Qmh (by trivial);have t16:=Law.kc KX G M t15 Law.Qog (by trivial);have t17:=Law.kc KX G M t16 Law.Qpq (by trivial);have t18:=Law.kc KX G M t17 Law.Qyg (by trivial);have t19:=Law.kc KX G M t18 Law.QpN (by trivial);have t20:=Law.kc KX G M t19 Law.QqH (by trivial);have t21:=Law.kc KX G M t20 Law.QyK (by trivial);have t22:=Law.kc KX G M t21 Law.Qqq (by trivial);have y3:=λb=>(y2 b).mono (k:=22) (Zav rfl);have y4:=λb=>(y3 b).cons (HS.Qdb KX G (by trivial) Law.Qis Law.Qjb M (t22 b) (y3 b) hcl Law.Qof);have t23:=λb=>(t22 b).cons (HS.Qcd KX G (by trivial) Law.Qis Law.Qjb M (t22 b) Law.Qpm);have t24:=Law.kc KX G M t23 Law.Quo (by trivial);have t25:=Law.kc KX G M t24 Law.Qy2 (by trivial);have t26:=Law.kc KX G M t25 Law.Qoo (by trivial);have t27:=Law.kc KX G M t26 Law.Qmf (by trivial);have y5:=λb=>(y4 b).mono (k:=27) (Zav rfl);have y6:=λb=>(y5 b).cons (HS.Qdb KX G (by trivial) Law.QpT Law.QqX M (t27 b) (y5 b) hcl Law.Qwv);have t28:=λb=>(t27 b).cons (HS.Qcd KX G (by trivial) Law.QpT Law.QqX M (t27 b) Law.Qyb);have y7:=λb=>(y6 b).cons (HS.Qdb KX G (by trivial) Law.Qkh Law.QlA M (t28 b) (y6 b) hcl Law.QqK);have t29:=λb=>(t28 b).cons (HS.Qcd KX G (by trivial) Law.Qkh Law.QlA M (t28 b) Law.QsK);have y8:=λb=>(y7 b).cons (HS.Qdb KX G (by trivial) Law.Qkg Law.QlD M (t29 b) (y7 b) hcl Law.Qqw);have t30:=λb=>(t29 b).cons (HS.Qcd KX G (by trivial) Law.Qkg Law.QlD M (t29 b) Law.Qsl);have y9:=λb=>(y8 b).cons (HS.Qdb KX G (by trivial) Law.QpJ Law.QqW M (t30 b) (y8 b) hcl Law.Qu7);have t31:=λb=>(t30 b).cons (HS.Qcd KX G (by trivial) Law.QpJ Law.QqW M (t30 b) Law.Qzv);have t32:=Law.kc KX G M t31 Law.QqM (by trivial);have t33:=Law.kc KX G M t32 Law.Qzo (by trivial);have t34:=Law.kc KX G M t33 Law.QtH (by trivial);have t35:=Law.kc KX G M t34 Law.Qnq (by trivial);have t36:=Law.kc KX G M t35 Law.QvZ (by trivial);have t37:=Law.kc KX G M t36 Law.Qx5 (by trivial);have t38:=Law.kc KX G M t37 Law.Qoj (by trivial);have t39:=Law.kc KX G M t38 Law.Qvg (by trivial);have t40:=Law.kc KX G M t39 Law.Qnw (by trivial);have t41:=Law.kc KX G M t40 Law.Qqy (by trivial);have t42:=Law.kc KX G M t41 Law.Qoq (by trivial);have t43:=Law.kc KX G M t42 Law.QkM (by trivial);have y10:=λb=>(y9 b).mono (k:=43) (Zav rfl);have y11:=λb=>(y10 b).cons (HS.Qdb KX G (by trivial) Law.Qiy Law.QjC M (t43 b) (y10 b) hcl Law.Qoe);have t44:=λb=>(t43 b).cons (HS.Qcd KX G (by trivial) Law.Qiy Law.QjC M (t43 b) Law.QpU);have t45:=Law.kc KX G M t44 Law.QqL (by trivial);have t46:=Law.kc KX G M t45 Law.QqF (by trivial);have t47:=Law.kc KX G M t46 Law.Qqz (by trivial);have t48:=Law.kc KX G M t47 Law.QqD (by trivial);have t49:=Law.kc KX G M t48 Law.QsZ (by trivial);have t50:=Law.kc KX G M t49 Law.QsT (by trivial);have y12:=λb=>(y11 b).mono (k:=50) (Zav rfl);have y13:=λb=>(y12 b).cons (HS.Qdb KX G (by trivial) Law.Qin Law.QjA M (t50 b) (y12 b) hcl Law.Qom);have t51:=λb=>(t50 b).cons (HS.Qcd KX G (by trivial) Law.Qin Law.QjA M (t50 b) Law.Qqf);have t52:=λb=>(t51 b).cons (HS.QrG KX G (by trivial) Law.Qql Law.Qqr M (t51 b) (y13 b) hcl hsub HS.Qm0.nil Law.Qqv);have y14:=λb=>(y13 b).mono (k:=52) (Zav rfl);have t53:=λb=>(t52 b).cons (HS.QrG KX G (by trivial) Law.QoR Law.QqA M (t52 b) (y14 b) hcl hsub HS.Qm0.nil Law.QqN);have t54:=Law.kc KX G M t53 Law.Qqh (by trivial);have t55:=Law.kc KX G M t54 Law.Qpx (by trivial);have t56:=Law.kc KX G M t55 Law.QlK (by trivial);exact HS.QCI KX G hmg (by trivial) Law.Qzz Law.QCL M t56 Law.QBT
