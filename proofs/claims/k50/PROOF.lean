import PyProof.Rows.All
import Wide.All
import OpenK.AllK
import Wide.FinOn
import Lean
import PyProof.EqAt
import PyProof.EqKinds
import PyProof.TupleCall
import PyProof.ZipIter
import PyProof.EnumMake
import PyProof.Rows.FactsT2
import PyProof.Rows.EnumRows
import PyProof.P3In
import PyProof.NeData
import KE.KUnpack
import PyProof.Rows.SumAny
import PyProof.Rows.MinMaxN
import PyProof.Rows.ListRangeD
import PyProof.Rows.Range3
import PyProof.Rows.RuleM_int
import PyProof.Rows.SortShell
import KE.KTryOn
import PyProof.ExcBaseAll.ValueError
import PyProof.RulesAs
import PyProof.ExcAttrAll.ValueError
import PyProof.Rows.RegTopCatchBFacts
import KE.RegKTryMore
import KE.RegKIsAll
import PySem.Challenge.RW_heapstill_k50_whole_wide_nets
set_option Elab.async false
set_option linter.all false
set_option maxRecDepth 100000
local macro_rules | `(⋯)=> `(by first | with_reducible assumption | with_reducible exact Int.natCast_nonneg _ | with_reducible exact Int.ofNat_lt.2 (by assumption) | omega)
def Za:= @Option.bind_some
def Zb:= @PySem.Heap.get?_push_of_some
def Zc:= @List.mem_cons_of_mem
def Zd:= @List.getElem?_set_ne
def Ze:= @List.mem_range
def Zf:= @List.mem_append_right
def Zg:= @Bool.and_eq_true
def Zh:= @Nat.le_refl
def Zi:= @List.getElem?_eq_some_iff
def Zj:= @List.length_map
def Zk:= @Option.map_eq_some_iff
def Zl:= @List.mem_append_left
def Zm:= @List.mem_cons_self
def Zn:= @Nat.pow_le_pow_right
def Zo:= @List.mem_cons
def Zp:= @Nat.le_trans
def Zq:= @Int.mul_assoc
def Zr:= @List.getElem?_map
def Zs:= @List.getElem?_set_self
def Zt:= @List.length_range
def Zu:= @List.getElem?_eq_none
def Zv:= @List.size_toArray
def Zw:= @Nat.lt_of_lt_of_le
def Zx:= @List.length_append
def Zy:= @PySem.Heap.lt_size
def Zz:= @List.lookup_cons
def ZA:= @Int.zero_mul
def ZC:= @Int.mul_zero
def ZD:= @List.mem_singleton
def ZE:= @PySem.Heap.get?_push_size
def ZF:= @List.map_congr_left
def ZG:= @Int.emod_lt_of_pos
def ZH:= @List.mem_append
def ZI:= @Int.emod_nonneg
def ZJ:= @List.length_cons
def ZK:= @List.getElem?_range
def ZL:= @Int.mul_comm
def ZM:= @List.map_cons
def ZN:= @List.mem_map
def ZO:= @Nat.lt_of_le_of_lt
def ZP:= @Classical.byContradiction
def ZQ:= @Int.add_mul
def ZR:= @Int.one_mul
def ZS:= @Int.mul_left_comm
def ZT:= @List.mem_of_getElem?
def ZU:= @Int.mul_one
def ZV:= @PyProof.Rows.callWith_type1
def ZW:= @List.count_eq_zero
def ZX:= @Option.map_some
def ZY:= @Int.zero_sub
def ZZ:= @Int.mul_le_mul_of_nonneg_left
def Zaa:= @Nat.ne_of_lt
def Zab:= @Int.toNat_natCast
def Zac:= @Int.mul_neg
def Zad:= @Int.natAbs_mul
def Zae:= @List.getElem?_eq_getElem
def Zaf:= @List.length_set
def Zag:= @Nat.lt_irrefl
def Zah:= @Int.eq_of_mul_eq_mul_left
def Zai:= @Nat.zero_le
def Zaj:= @List.map_map
def Zak:= @Int.neg_mul
def Zal:= @Int.natAbs_dvd_natAbs
def Zam:= @Array.length_toList
def Zan:= @Int.mul_le_mul_of_nonneg_right
def Zao:= @List.eq_nil_of_length_eq_zero
def Zap:= @List.count_pos_iff
def Zaq:= @Int.natCast_mul
def Zar:= @PySem.mem_of_lookup
def Zas:= @List.replicate_succ
def Zat:= @PySem.Heap.size_push
def Zau:= @List.nodup_iff_count
def Zav:= @List.take_of_length_le
def Zaw:= @List.getElem?_append_left
def Zax:= @List.drop_eq_getElem_cons
def Zay:= @List.flatten_cons
def Zaz:= @List.count_append
def ZaA:= @List.nodup_nil
def ZaB:= @Int.mul_add
def ZaC:= @Int.dvd_mul_of_dvd_left
def ZaD:= @Int.mul_nonneg
def ZaE:= @List.mem_filter
def ZaF:= @List.nodup_cons
def ZaG:= @List.getElem?_zip_eq_some
def ZaH:= @List.take_append_drop
def ZaI:= @Bool.false_ne_true
def ZaJ:= @List.length_take
def ZaK:= @List.all_eq_true
def ZaL:= @List.sum_cons
def ZaM:= @Bool.not_eq_true'
def ZaN:= @PySem.F.plainAttrs_list
def ZaO:= @List.map_append
def ZaP:= @Int.natCast_add
def ZaQ:= @Int.dvd_add
def ZaR:= @List.length_drop
def ZaS:= @List.getD_eq_getElem?_getD
def ZaT:= @Nat.eq_zero_or_pos
def ZaU:= @Nat.mul_le_mul
def ZaV:= @Int.sub_add_cancel
def ZaW:= @Int.mul_nonpos_of_nonneg_of_nonpos
def ZaX:= @Int.emod_add_mul_ediv
def ZaY:= @List.set_eq_take_append_cons_drop
def ZaZ:= @List.count_cons
def Zba:= @Nat.min_eq_left
def Zbb:= @Int.ediv_nonneg
def Zbc:= @List.append_assoc
def Zbd:= @Nat.lt_succ_of_lt
def Zbe:= @Nat.mul_comm
def Zbf:= @List.ext_getElem?
def Zbg:= @List.eraseIdx_cons_succ
def Zbh:= @Int.neg_neg
def Zbi:= @Nat.le_of_lt
def Zbj:= @List.append_nil
def Zbk:= @List.nil_append
def Zbl:= @PySem.W.kia_one
def Zbm:= @List.map_take
def Zbn:= @List.length_singleton
def Zbo:= @List.getElem?_append_right
def Zbp:= @Int.le_refl
def Zbq:= @Nat.mul_le_mul_right
def Zbr:= @Nat.lt_succ_self
def Zbs:= @Int.emod_eq_emod_iff_emod_sub_eq_zero
def Zbt:= @Int.add_zero
def Zbu:= @List.map_eq_nil_iff
def Zbv:= @PyProof.noPylong_of_log2
def Zbw:= @Nat.le_of_dvd
def Zbx:= @List.mem_filterMap
def Zby:= @Nat.add_sub_cancel
def Zbz:= @PyProof.Rows.intBits_le
def ZbA:= @Int.dvd_sub
def ZbB:= @Nat.le_mul_of_pos_right
def ZbC:= @Nat.ne_of_gt
def ZbD:= @PyProof.Rows.boot_list
def ZbE:= @List.nodup_append
def ZbF:= @List.range_succ_eq_map
def ZbG:= @Int.emod_eq_of_lt
def ZbH:= @Int.sub_self
def ZbI:= @Int.natAbs_add_le
def ZbJ:= @List.contains_iff_mem
def ZbK:= @List.cons_append
def ZbL:= @List.mem_flatten
def ZbM:= @Nat.min_le_right
def ZbN:= @Nat.le_succ
def ZbO:= @Nat.add_le_add_right
def ZbP:= @Int.mul_sub
def ZbQ:= @PySem.F.slot_zip_next
def ZbR:= @List.filterMap_cons
def ZbS:= @List.take_succ_cons
def ZbT:= @List.filter_eq_self
def ZbU:= @List.sum_append_int
def ZbV:= @Nat.sub_zero
def ZbW:= @Int.fdiv_eq_ediv_of_nonneg
def ZbX:= @List.drop_zero
def ZbY:= @List.nodup_iff_pairwise_ne
def ZbZ:= @List.getElem?_set
def Zca:= @Option.isSome_iff_exists
def Zcb:= @PySem.F.slot_list_append
def Zcc:= @PySem.F.type_list_append
def Zcd:= @List.map_drop
def Zce:= @List.getElem?_replicate
def Zcf:= @List.not_mem_nil
def Zcg:= @PySem.Heap.IsList.push
def Zch:= @List.foldlM_cons
def Zci:= @PyProof.Rows.boot_tuple
def Zcj:= @List.take_length
def Zck:= @Classical.axiomOfChoice
def Zcl:= @PySem.W.cellsFrom_some
def Zcm:= @Nat.lt_trans
def Zcn:= @List.append_eq_nil_iff
def Zco:= @List.drop_of_length_le
def Zcp:= @Nat.pow_succ
def Zcq:= @Int.fmod_nonneg_of_pos
def Zcr:= @List.of_mem_zip
def Zcs:= @List.forIn_cons
def Zct:= @Bool.or_eq_true
def Zcu:= @Nat.log2_lt
def Zcv:= @Int.add_assoc
abbrev Mt2:=Nat->Nat->Int
abbrev Mt1:=Nat->Int
abbrev Lpp:=List (Int×Int)
abbrev LAd:=List PySem.Addr
abbrev Fgg:=PySem.W.Frag
namespace L2
open PySem PySem.Spec PyProof.Rows
noncomputable abbrev Key:=Sum Int Str
noncomputable def Qxj:Key->Value->Bool
 | .inl k,v=>Value.isInt k v
 | .inr x,v=>Value.isStrOf x v
noncomputable def QDg(w:World):Key->Int
 | .inl k=>hashInt k
 | .inr x=>hashStr w x
theorem Qbx:∀{k:Key}{v:Value},Qxj k v=true->(∃i t,k=Sum.inl i/\v=Value.int i t)∨(∃x t,k=Sum.inr x/\v=Value.str x t)
 | .inl i,v,h=>by
  obtain⟨t,e⟩:=Value.isInt_shape (k:=i) (v:=v) h;exact .inl ⟨i,t,rfl,e⟩
 | .inr x,v,h=>by
  obtain⟨t,e⟩:=Value.isStrOf_shape (x:=x) (v:=v) h;exact .inr ⟨x,t,rfl,e⟩
theorem QBk(a b:Int):decide ((Sum.inl a:Key)=Sum.inl b)=(a == b):=by
 by_cases e:a=b
 ·subst e;simp
 ·have h:¬(Sum.inl a:Key)=Sum.inl b:=λq=>e (Sum.inl.inj q);rw[decide_eq_false h];exact(beq_eq_false_iff_ne.mpr e).symm
theorem QAH(a b:Str):decide ((Sum.inr a:Key)=Sum.inr b)=decide (a=b):=by
 by_cases e:a=b
 ·subst e;simp
 ·have h:¬(Sum.inr a:Key)=Sum.inr b:=λq=>e (Sum.inr.inj q);rw[decide_eq_false h,decide_eq_false e]
theorem QzX(a:Int)(b:Str):decide ((Sum.inl a:Key)=Sum.inr b)=false:=decide_eq_false (λq=>nomatch q)
theorem QAl(a:Str)(b:Int):decide ((Sum.inr a:Key)=Sum.inl b)=false:=decide_eq_false (λq=>nomatch q)
noncomputable def QmS(prog:Program)(w:World):PySem.KeyKind prog w Key where
 is:=Qxj
 hash:=QDg w
 inj:=λv a b ha hb=>by
  rcases Qbx ha with⟨i,t,rfl,rfl⟩ | ⟨x,t,rfl,rfl⟩
  ·rcases Qbx hb with⟨j,u,rfl,e⟩ | ⟨y,u,rfl,e⟩
   ·injection e with e1 _;rw[e1]
   ·exact nomatch e
  ·rcases Qbx hb with⟨j,u,rfl,e⟩ | ⟨y,u,rfl,e⟩
   ·exact nomatch e
   ·injection e with e1 _;rw[e1]
 byValue:=λk v h=>by
  rcases Qbx h with⟨i,t,rfl,rfl⟩ | ⟨x,t,rfl,rfl⟩<;>rfl
 pyHash:=λhv h=>by
  rcases Qbx hv with⟨i,t,rfl,rfl⟩ | ⟨x,t,rfl,rfl⟩
  ·exact wpAny_pyHash_int h
  ·exact wpAny_pyHash_str h
 eqBool:=λhu hv h=>by
  rcases Qbx hu with⟨i,t,rfl,rfl⟩ | ⟨x,t,rfl,rfl⟩
  ·rcases Qbx hv with⟨j,u,rfl,rfl⟩ | ⟨y,u,rfl,rfl⟩
   ·rw[QBk]at h;exact wpAny_eqBool_int h
   ·rw[QzX]at h;exact SeqAt.EqAt.int_str i t y u _ _ _ _ h
  ·rcases Qbx hv with⟨j,u,rfl,rfl⟩ | ⟨y,u,rfl,rfl⟩
   ·rw[QAl]at h;exact SeqAt.EqAt.str_int x t j u _ _ _ _ h
   ·rw[QAH]at h;exact wpAny_eqBool_str h
 «strs» :=λk x t v h=>by
  rcases Qbx h with⟨i,u,rfl,e⟩ | ⟨y,u,rfl,e⟩
  ·exact nomatch e
  ·injection e with e1 _;subst e1;cases v<;>rfl
end L2
namespace L2
open PySem PySem.Spec PyProof.Rows
inductive V where
 | non | bl (b:Bool) | int (i:Int) | str (x:Str) | byt (b:Array UInt8) | flt (b:UInt64) | ref (a:Addr) | ty (n:String)
 deriving DecidableEq
noncomputable def RelV:V->Value->Prop
 | .non,u=>u=Value.none
 | .bl b,u=>u=Value.bool b
 | .int i,u=>∃t,u=Value.int i t
 | .str x,u=>∃t,u=Value.str x t
 | .byt b,u=>∃t,u=Value.bytes b t
 | .flt b,u=>∃t,u=Value.float b t
 | .ref a,u=>u=Value.ref a
 | .ty n,u=>u=Value.type n
noncomputable abbrev QL:List V->List Value->Prop:=Paired RelV
theorem QL.length{xs:List V}{us:List Value}(r:QL xs us):xs.length=us.length:=Paired.length r
theorem QL.get:∀{xs:List V}{us:List Value}{i:Nat}{x:V},QL xs us->xs[i]? =some x->∃u,us[i]? =some u/\RelV x u
 | _,_,_,_,.nil,e=>by simp at e
 | _,_,0,_,.cons r _,e=>by simp at e;subst e;exact⟨_,rfl,r⟩
 | _,_,i+1,x,.cons _ t,e=>by
  obtain⟨u,h1,h2⟩:=QL.get (i:=i) (x:=x) t (by simpa using e);exact⟨u,by simpa using h1,h2⟩
theorem QL.set{x:V}{u:Value}(r:RelV x u):∀{xs:List V}{us:List Value}(i:Nat),QL xs us->QL (xs.set i x) (us.set i u)
 | _,_,_,.nil=> .nil
 | _,_,0,.cons _ t=> .cons r t
 | _,_,i+1,.cons q t=> .cons q (QL.set r i t)
theorem exK{α β γ δ:Type}{P Q R:α->β->γ->δ->Prop}{G:Prop}(k:∀a b c d,P a b c d->Q a b c d->R a b c d->G)(h:∃a b c d,P a b c d/\Q a b c d/\R a b c d):G:=let ⟨a,b,c,d,p,q,r⟩:=h;k a b c d p q r
theorem exJ{α β:Type}{P Q R:α->β->Prop}{G:Prop}(k:∀a b,P a b->Q a b->R a b->G)(h:∃a b,P a b/\Q a b/\R a b):G:=let ⟨a,b,p,q,r⟩:=h;k a b p q r
theorem QL.append{xs ys:List V}{us ws:List Value}(h:QL xs us)(s:QL ys ws):QL (xs++ys) (us++ws):=by
 induction h with
 | nil=>exact s
 | cons r t ih=>exact .cons r ih
theorem QL.take:∀{xs:List V}{us:List Value}(n:Nat),QL xs us->QL (xs.take n) (us.take n)
 | _,_,0,_=> .nil
 | _,_,_+1,.nil=> .nil
 | _,_,n+1,.cons r t=> .cons r (QL.take n t)
theorem QL.drop:∀{xs:List V}{us:List Value}(n:Nat),QL xs us->QL (xs.drop n) (us.drop n)
 | _,_,0,r=>r
 | _,_,_+1,.nil=> .nil
 | _,_,n+1,.cons _ t=>QL.drop n t
noncomputable def QzH:Option V->Option Value->Prop
 | some v,some u=>RelV v u
 | none,none=>True
 | _,_=>False
noncomputable def KV{κ:Type}:List (κ×V)->List (κ×Value)->Prop:=Paired λ(p:κ×V) (q:κ×Value)=>p.1=q.1/\RelV p.2 q.2
noncomputable def kV:Key->V
 | .inl i=> .int i
 | .inr x=> .str x
inductive HO where
 | lst (xs:List V)
 | tup (xs:List V)
 | dK (kvs:List (Key×V)) | dT (kvs:List (List Key×V))
 | set (S:Int->Bool) (n:Nat)
 | ins (C dx:Addr) (fs:List (Str×V))
 | own (x:Addr)
 | xd (fs:List (Str×V))
 | met (f x:Addr)
 | rng (lo hi:Int)
 | frz (o:Obj) (u:HO)
 | tbl (ps:Array Value)
 | ext (φ:Heap->Prop)
noncomputable abbrev Hp:=Addr->Option HO
noncomputable def upd(H:Hp)(a:Addr)(o:HO):Hp:=λb=>if b=a then some o else H b
theorem Qau{H:Hp}{a:Addr}{o:HO}:upd H a o a=some o:=by unfold upd;rw[if_pos rfl]
theorem Q0{H:Hp}{a b:Addr}{o:HO}(h:b≠a):upd H a o b=H b:=by unfold upd;rw[if_neg h]
theorem Qow{H:Hp}{a b:Addr}{o u:HO}(h:H a=some o)(h':H b=some u)(d:o≠u):a≠b:=by
 intro e;subst e;rw[h]at h';exact d (Option.some.inj h')
theorem Qcb{H:Hp}{a b:Addr}{o:HO}(h:H a=some o)(h':H b=none):a≠b:=by
 intro e;subst e;rw[h]at h';cases h'
section
variable (P:Program) (w:World)
noncomputable def QcK(H:Hp)(h:Heap)(a:Addr):HO->Prop
 | .lst xs=>xs.length<=sizeLine/\∃(its:List Value) (n:Nat),QL xs its/\h.get? a=some {cls:= .type "list",data:= .seq its.toArray n}
 | .tup xs=>xs.length<=sizeLine/\∃its:List Value,QL xs its/\IsTup h a its.toArray
 | .dK kvs=>kvs.length<=sizeLine/\(a == sysModules)=false/\∃vs,KV kvs vs/\h.DictOf (QmS P w) a vs
 | .dT kvs=>kvs.length<=sizeLine/\(a == sysModules)=false/\∃xs:List (List Key×Addr×Value),
   Paired (λ(p:List Key×V) (q:List Key×Addr×Value)=>p.1=q.1/\H q.2.1=some (.tup (p.1.map kV))/\RelV p.2 q.2.2) kvs xs∧
   ∃o es ep,h.get? a=some o/\o.ExactDict/\o.data= .dict es ep/\es.toList=xs.map (entryOfKey (tupleKind (QmS P w)))/\(xs.map (·.1)).Nodup
 | .set S n=>h.SetOf (intKind P w) a S n
 | .ins C dx fs=>H dx=some (.own a)/\fs.length<=1000/\dx≠a/\h.get? a=some (PySem.W.instObj C dx)∧
   ∃mA,h.Ns1 dx mA/\(∀f,QzH (fs.lookup f) (mA f))/\PySem.Within mA (fs.map (·.1))
 | .own _=>∃o,h.get? a=some o
 | .xd fs=>∃mA,h.Ns1 a mA/\∀f,QzH (fs.lookup f) (mA f)
 | .rng lo hi=>∃t u v,h.get? a=some {cls:= .type "range",data:= .fields #[.int lo t,.int hi u,.int 1 v]}
 | .frz o u=>h.get? a=some o/\QcK H h a u
 | .tbl ps=>h.get? a=some {cls:= .none,data:= .fields ps}
 | .met f x=>h.get? a=some (PySem.W.methodObj (.ref f) (.ref x))
 | .ext φ=>φ h/\(∃o,h.get? a=some o)/\∀h1 h2:Heap,φ h1->(∀o,h1.get? a=some o->h2.get? a=some o)->φ h2
def HOk(H:Hp)(h:Heap):Prop:=∀a o,H a=some o->QcK P w H h a o
end
section
variable {P:Program}{w:World}{H H':Hp}{h h':Heap}{a:Addr}{o:HO}
theorem QcK.lt(x:QcK P w H h a o):a<h.objs.size:=by
 cases o with
 | lst xs=>obtain⟨_,_,_,_,e⟩:=x;exact Zy e
 | tup xs=>obtain⟨_,_,_,p⟩:=x;exact p.lt
 | dK kvs=>obtain⟨_,_,_,_,o,_,_,e,_⟩:=x;exact Zy e
 | dT kvs=>obtain⟨_,_,_,_,o,_,_,e,_⟩:=x;exact Zy e
 | set S n=>obtain⟨o,_,_,_,e,_⟩:=x;exact Zy e
 | ins C dx fs=>obtain⟨_,_,_,e,_⟩:=x;exact Zy e
 | own y=>obtain⟨_,e⟩:=x;exact Zy e
 | xd fs=>obtain⟨_,⟨_,_,_,e,_⟩,_⟩:=x;exact Zy e
 | rng lo hi=>obtain⟨_,_,_,e⟩:=x;exact Zy e
 | frz ob u=>obtain⟨e,_⟩:=x;exact Zy e
 | tbl ps=>exact Zy (show h.get? a=some _ from x)
 | met f y=>exact Zy (show h.get? a=some _ from x)
 | ext φ=>obtain⟨_,⟨_,e⟩,_⟩:=x;exact Zy e
theorem Paired.Qzu{α β:Type}{F G:α->β->Prop}:∀{l₁:List α}{l₂:List β},Paired F l₁ l₂->(∀a b,F a b->G a b)->Paired G l₁ l₂
 | _,_,.nil,_=> .nil
 | _,_,.cons r t,f=> .cons (f _ _ r) (Paired.Qzu t f)
theorem QcK.Qlg(x:QcK P w H h a o)(k:∀b u,(b=a∨H b=some (.own a))->h.get? b=some u->h'.get? b=some u)
  (ho:∀b,H b=some (.own a)->H' b=some (.own a)) (ht:∀b xs,H b=some (.tup xs)->H' b=some (.tup xs)):QcK P w H' h' a o:=by
 induction o with
 | lst xs=>obtain⟨z,its,n,r,e⟩:=x;exact⟨z,its,n,r,k _ _ (.inl rfl) e⟩
 | tup xs=>obtain⟨z,its,r,ob,e,c⟩:=x;exact⟨z,its,r,ob,k _ _ (.inl rfl) e,c⟩
 | dK kvs=>obtain⟨z,y,vs,r,ob,es,ep,e,c⟩:=x;exact⟨z,y,vs,r,ob,es,ep,k _ _ (.inl rfl) e,c⟩
 | dT kvs=>
  obtain⟨z,y,xs,r,ob,es,ep,e,c⟩:=x;exact⟨z,y,xs,Paired.Qzu r λp q z=>⟨z.1,ht _ _ z.2.1,z.2.2⟩,ob,es,ep,k _ _ (.inl rfl) e,c⟩
 | set S n=>obtain⟨ob,es,ep,t,e,c⟩:=x;exact⟨ob,es,ep,t,k _ _ (.inl rfl) e,c⟩
 | ins C dx fs=>
  obtain⟨d,z,ne,e,mA,⟨od,es,ep,e2,c⟩,r⟩:=x;exact⟨ho _ d,z,ne,k _ _ (.inl rfl) e,mA,⟨od,es,ep,k _ _ (.inr d) e2,c⟩,r⟩
 | own y=>obtain⟨ob,e⟩:=x;exact⟨ob,k _ _ (.inl rfl) e⟩
 | xd fs=>obtain⟨mA,⟨od,es,ep,e,c⟩,r⟩:=x;exact⟨mA,⟨od,es,ep,k _ _ (.inl rfl) e,c⟩,r⟩
 | rng lo hi=>obtain⟨t,u,v,e⟩:=x;exact⟨t,u,v,k _ _ (.inl rfl) e⟩
 | frz ob u ih=>obtain⟨e,q⟩:=x;exact⟨k _ _ (.inl rfl) e,ih q⟩
 | tbl ps=>
  have e:h.get? a=some {cls:= .none,data:= .fields ps}:=x;show h'.get? a=some {cls:= .none,data:= .fields ps};exact k a _ (.inl rfl) e
 | met f y=>
  have e:h.get? a=some (PySem.W.methodObj (.ref f) (.ref y)):=x;show h'.get? a=some (PySem.W.methodObj (.ref f) (.ref y));exact k a _ (.inl rfl) e
 | ext φ=>obtain⟨p,⟨o,e⟩,st⟩:=x;exact⟨st _ _ p λo q=>k _ _ (.inl rfl) q,⟨o,k _ _ (.inl rfl) e⟩,st⟩
theorem HOk.lt(x:HOk P w H h)(e:H a=some o):a<h.objs.size:=(x a o e).lt
theorem HOk.fresh(x:HOk P w H h)(e:h.objs.size<=a):H a=none:=by
 cases q:H a with
 | none=>rfl
 | some u=>exact absurd (Zw (x.lt q) e) (Zag _)
theorem HOk.kept(x:HOk P w H h)(k:∀b u,h.get? b=some u->h'.get? b=some u):HOk P w H h':=λa o e=>
 (x a o e).Qlg (λb u _ q=>k b u q) (λ_ q=>q) λ_ _ q=>q
theorem HOk.laid(x:HOk P w H h)(k:∀b u,h.get? b=some u->h'.get? b=some u)(hp:h.objs.size<=a)(new:QcK P w (upd H a o) h' a o):HOk P w (upd H a o) h':=λb u e=>by
 have hn:=x.fresh hp;by_cases hb:b=a
 ·subst hb;rw[Qau]at e;cases e;exact new
 ·rw[Q0 hb]at e;exact(x b u e).Qlg (λc v _ q=>k c v q) (λc q=>by rw[Q0 (Qcb q hn)];exact q) λc xs q=>by rw[Q0 (Qcb q hn)];exact q
end
def Rd(H:Hp)(a:Addr)(u:HO):Prop:=H a=some u∨∃o,H a=some (.frz o u)
theorem Rd.ok{P:Program}{w:World}{H:Hp}{h:Heap}{a:Addr}{u:HO}(r:Rd H a u)(x:HOk P w H h):QcK P w H h a u:=by
 rcases r with r | ⟨o,r⟩
 ·exact x a u r
 ·obtain⟨_,q⟩:=x a _ r;exact q
noncomputable def Mut:Option HO->Prop
 | some (.lst _)=>True
 | some (.dK _)=>True
 | some (.dT _)=>True
 | some (.set _ _)=>True
 | some (.ins _ _ _)=>True
 | some (.ext _)=>True
 | _=>False
section
variable {P:Program}{w:World}{H:Hp}{h h':Heap}{x e:Addr}{o':HO}
theorem HOk.write(ok:HOk P w H h)(mu:Mut (H x))(he:e=x∨H e=some (.own x))(k:∀b u,b≠e->h.get? b=some u->h'.get? b=some u)(heo:∃u,h'.get? e=some u)
  (new:QcK P w (upd H x o') h' x o'):HOk P w (upd H x o') h':=λb u q=>by
 have nown:∀c y,H c=some (.own y)->c≠x:=λc y r z=>by subst z;rw[r]at mu;exact mu
 have ntup:∀c xs,H c=some (.tup xs)->c≠x:=λc xs r z=>by subst z;rw[r]at mu;exact mu
 by_cases hb:b=x
 ·subst hb;rw[Qau]at q;cases q;exact new
 ·rw[Q0 hb]at q;by_cases hbe:b=e
  ·have q':H b=some (.own x):=by
    rcases he with z | z
    ·exact absurd (hbe.trans z) hb
    ·rw[hbe];exact z
   rw[q]at q';cases q';obtain⟨v,hv⟩:=heo;exact⟨v,by rw[hbe];exact hv⟩
  ·refine(ok b u q).Qlg (λc v hc r=>k c v ?_ r) (λc r=>by rw[Q0 (nown c b r)];exact r) λc xs r=>by rw[Q0 (ntup c xs r)];exact r
   rcases hc with rfl | hc
   ·exact hbe
   ·rintro rfl;rcases he with z | z
    ·exact nown c b hc z
    ·rw[hc]at z;cases z;exact hb rfl
end
structure Un (fs ex:LAd) (H H':Hp) (h h':Heap):Prop where
 keep:∀b o,h.get? b=some o->H b=none->b∉fs->b∉ex->h'.get? b=some o
 slot:∀b o,h.get? b=some o->H b=none->b∈fs->b∉ex->∃sl,h'.get? b=some {o with slots:=sl}
 free:∀b o,h.get? b=some o->H b=none->b∉ex->H' b=none
 there:∀b o,h.get? b=some o->b∉ex->∃o',h'.get? b=some o'
 tups:∀b xs,H b=some (.tup xs)->H' b=some (.tup xs)
 frzs:∀b o u,H b=some (.frz o u)->H' b=some (.frz o u)
 tbls:∀b ps,H b=some (.tbl ps)->∃more,H' b=some (.tbl (ps++more))
section
variable {fs fs' ex ex':LAd}{H H1 H2:Hp}{h h1 h2 h':Heap}{a x e:Addr}{o:HO}
theorem Un.any(u:Un fs ex H H1 h h1){b:Addr}{ob:Obj}(q:h.get? b=some ob)(n:H b=none)(hx:b∉ex):∃sl,h1.get? b=some {ob with slots:=sl}:=by
 by_cases hb:b∈fs
 ·exact u.slot b ob q n hb hx
 ·exact⟨ob.slots,u.keep b ob q n hb hx⟩
theorem Un.kept(k:∀b u,h.get? b=some u->h'.get? b=some u):Un fs ex H H h h':=
 ⟨λb ob q _ _ _=>k b ob q,λb ob q _ _ _=>⟨ob.slots,k b ob q⟩,λ_ _ _ n _=>n,λb ob q _=>⟨ob,k b ob q⟩,λ_ _ q=>q,λ_ _ _ q=>q,λ_ ps q=>⟨#[],by rw[q];simp⟩⟩
theorem Un.refl:Un fs ex H H h h:=Un.kept λ_ _ q=>q
theorem Un.laid(k:∀b u,h.get? b=some u->h'.get? b=some u)(hp:h.objs.size<=a)(hn:H a=none):Un fs ex H (upd H a o) h h' where
 keep:=λb u q _ _ _=>k b u q
 slot:=λb u q _ _ _=>⟨u.slots,k b u q⟩
 free:=λb u q n _=>by rw[Q0 (Zaa (Zw (Zy q) hp))];exact n
 there:=λb u q _=>⟨u,k b u q⟩
 tups:=λb xs q=>by rw[Q0 (Qcb q hn)];exact q
 frzs:=λb u xs q=>by rw[Q0 (Qcb q hn)];exact q
 tbls:=λb ps q=>⟨#[],by rw[Q0 (Qcb q hn),q];simp⟩
theorem Un.write(mu:Mut (H x))(he:e=x∨H e=some (.own x))(k:∀b u,b≠e->h.get? b=some u->h'.get? b=some u)(heo:∃u,h'.get? e=some u):Un fs ex H (upd H x o) h h':=by
 have hx:∀b,H b=none->b≠x:=λb n z=>by subst z;rw[n]at mu;exact mu
 have hb:∀b,H b=none->b≠e:=λb n z=>by
  subst z;rcases he with r | r
  ·exact hx b n r
  ·rw[n]at r;cases r
 have hm:∀b u,H b=some u->¬Mut (some u)->b≠x:=λb u q nm z=>by subst z;rw[q]at mu;exact nm mu
 refine⟨λb u q n _ _=>k b u (hb b n) q,λb u q n _ _=>⟨u.slots,k b u (hb b n) q⟩,λb u q n _=>by rw[Q0 (hx b n)];exact n,λb u q _=>?_,
  λb xs q=>by rw[Q0 (hm b _ q λz=>z)];exact q,λb u xs q=>by rw[Q0 (hm b _ q λz=>z)];exact q,λb ps q=>⟨#[],by rw[Q0 (hm b _ q λz=>z),q];simp⟩⟩
 by_cases hbe:b=e
 ·subst hbe;exact heo
 ·exact⟨u,k b u hbe q⟩
end
noncomputable def trk(h:Heap)(H:Hp):List Addr:=(List.range h.objs.size).filter λa=>(H a).isSome
noncomputable def QiB(h:Heap)(H:Hp):Heap:=PySem.W.hideAll h (trk h H)
theorem Qum(h:Heap)(H:Hp):(QiB h H).objs.size=h.objs.size:=PySem.W.hideAll_size _ _
theorem QvM{h:Heap}{H:Hp}{b:Addr}{o:Obj}(e:h.get? b=some o)(n:H b=none):(QiB h H).get? b=some o:=
 PySem.W.hideAll_get _ e λhm=>by
  have q:(H b).isSome=true:=(ZaE.mp hm).2;rw[n]at q;simp at q
theorem QxP{h:Heap}{H:Hp}{b:Addr}{o:Obj}(e:(QiB h H).get? b=some o):h.get? b=some o/\H b=none:=by
 have e':h.get? b=some o:=PySem.W.of_hideAll (trk h H) e;refine⟨e',?_⟩;cases q:H b with
 | none=>rfl
 | some x=>
  have hm:b∈trk h H:=ZaE.mpr ⟨Ze.mpr (Zy e'),by simp[q]⟩;have z:(QiB h H).get? b=none:=PySem.W.hideAll_none (trk h H) hm;rw[z]at e;cases e
end L2
namespace L2
open PySem PySem.Spec PyProof.Rows
structure Mod (K:Fgg) (mg:Str->Option Value) (base:Heap):Prop where
 kin:K.In base
 glob:base.Ns mainGlobals mg
 blt:∃mb,base.Ns builtinsNs mb/\∀x:Str,x≠ "__name__" ->mb x=bootBuiltins x
 nolimit:base.NoLimit
structure Cx where
 prog:Program
 w:World
 K:PySem.W.Frag
 mg:Str->Option Value
 base:Heap
 A:Around
 N:List Str
 s₀:Shared
 H₀:Hp
 env:Env
 outer:List Env
 stack:List Env
 ex:List Addr
 fn:Str->Bool
 calm:Bool
 pn:List (Addr×Obj)
 xe:Value->Shared->Prop
noncomputable def frs(l:List Env):List Addr:=l.filterMap (·.frame)
noncomputable abbrev Cx.fs(X:Cx):List Addr:=frs X.outer
def Vis(sc:Scope)(x:Str):Prop:=sc.names.lookup x=some .local ∨sc.names.lookup x=some .cell∨sc.names.lookup x=some .free
def Loc(sc:Scope)(x:Str):Prop:=sc.names.lookup x=some .local ∨sc.names.lookup x=some .cell
def Look(env:Env)(h:Heap)(m:Str->Option Value)(x:Str)(u:Value):Prop:=
 (env.kindOf x=some .local /\m x=some u)∨((env.kindOf x=some .cell∨env.kindOf x=some .free)/\∃c,env.cells.lookup x=some c/\h.IsCell c (some u))
structure Cx.Ok (X:Cx):Prop where
 mod:Mod X.K X.mg X.base
 kind:X.env.scope.kind= .function
 glob:X.env.globals=mainGlobals
 blt:X.env.builtins=builtinsNs
 above:X.s₀.heap.objs.size<=X.env.locals
 inj:∀x y c,X.env.cells.lookup x=some c->X.env.cells.lookup y=some c->x=y
 has:∀x,(X.env.kindOf x=some .cell∨X.env.kindOf x=some .free)->∃c,X.env.cells.lookup x=some c
 cab:∀x c,X.fn x=true->X.env.cells.lookup x=some c->X.s₀.heap.objs.size<=c
 hd:X.calm=true->X.A.handled=none
 frames:X.A.frames=some X.stack
 stk:X.stack=X.outer∨(X.stack=X.env::X.outer/\X.env.frame=some X.env.locals)
 exf:∀b∈X.ex,b≠X.env.locals/\∀x c,X.env.cells.lookup x=some c->c≠b
 bs:∀b o,X.base.get? b=some o->X.s₀.heap.get? b=some o/\X.H₀ b=none
 bsz:X.base.objs.size<=X.s₀.heap.objs.size
 noex:∀b o,X.base.get? b=some o->b∉X.ex
 exfs:∀b∈X.ex,b∉X.fs
 Qgp:X.s₀.heap.FunFrames X.base X.outer
 frf:∀b∈X.fs,X.H₀ b=none
structure Inv (X:Cx) (pins:List (Addr×Obj)) (σ:List (Option V)) (H:Hp) (s:Shared):Prop where
 ok:X.Ok
 os:s.os=X.s₀.os
 bare:AllBare s.gens
 base:Un X.fs X.ex X.H₀ H X.s₀.heap s.heap
 loc:∃m,s.heap.Ns X.env.locals m/\∀(i:Nat) (x:Str) (v:V),X.N[i]? =some x->σ[i]? =some (some v)->Vis X.env.scope x->∃u,RelV v u/\Look X.env s.heap m x u
 cell:∀x c,X.env.cells.lookup x=some c->∃v,s.heap.IsCell c v
 free:H X.env.locals=none
 freeC:∀x c,X.env.cells.lookup x=some c->H c=none
 pin:∀p∈X.pn++pins,s.heap.get? p.1=some p.2/\H p.1=none/\p.1≠X.env.locals/\p.1∉X.fs/\∀v,p.2.data≠ .cell v
 hok:HOk X.prog X.w H s.heap
 len:σ.length=X.N.length
section
variable {X:Cx}{pins:List (Addr×Obj)}{σ:List (Option V)}{H H':Hp}{s:Shared}{h':Heap}
theorem Cx.Ok.QCN(ok:X.Ok){b:Addr}{o:Obj}(e:X.base.get? b=some o):b∉X.fs:=λhb=>by
 have:=(ok.Qgp.mem hb).1;rw[e]at this;cases this
theorem Inv.bs(I:Inv X pins σ H s):∀b o,X.base.get? b=some o->s.heap.get? b=some o/\H b=none:=λb o e=>
 ⟨I.base.keep b o (I.ok.bs b o e).1 (I.ok.bs b o e).2 (I.ok.QCN e) (I.ok.noex b o e),I.base.free b o (I.ok.bs b o e).1 (I.ok.bs b o e).2 (I.ok.noex b o e)⟩
theorem Inv.bk(I:Inv X pins σ H s):∀b o,X.base.get? b=some o->s.heap.get? b=some o:=λb o e=>(I.bs b o e).1
theorem Inv.mod(I:Inv X pins σ H s):Mod X.K X.mg X.base:=I.ok.mod
theorem Inv.kIn(I:Inv X pins σ H s):X.K.In s.heap:=I.ok.mod.kin.keeps I.bk
theorem Inv.lt(I:Inv X pins σ H s):X.env.locals<s.heap.objs.size:=let ⟨_,hn,_⟩:=I.loc;hn.lt
theorem Inv.sz(I:Inv X pins σ H s):X.s₀.heap.objs.size<=s.heap.objs.size:=Zp I.ok.above (Zbi I.lt)
theorem Inv.QCH(I:Inv X pins σ H s){a:Addr}(h:s.heap.objs.size<=a):a∉X.fs:=λhb=>by
 obtain⟨_,o,ho,_⟩:=I.ok.Qgp.mem hb;exact absurd (Zw (Zy ho) (Zp I.sz h)) (Zag _)
theorem Inv.cne(I:Inv X pins σ H s):∀x c,X.env.cells.lookup x=some c->c≠X.env.locals:=λx c e z=>by
 obtain⟨v,o,ho,hd⟩:=I.cell x c e;obtain⟨m,⟨o',es,ep,ho',hd',_⟩,_⟩:=I.loc;rw[z,ho']at ho;cases ho;rw[hd']at hd;cases hd
theorem Inv.Qgp(I:Inv X pins σ H s):s.heap.FunFrames X.base X.outer:=by
 have all:∀(l:List Env),(∀b∈frs l,b∈X.fs)->X.s₀.heap.FunFrames X.base l->s.heap.FunFrames X.base l:=by
  intro l
  induction l with
  | nil=>intro _ _;trivial
  | cons env r ih=>
   intro hs hl;obtain⟨hk,⟨L,o,hf,hn,ho,hd⟩,hr⟩:=hl;have hL:L∈X.fs:=hs L (by unfold frs;rw[ZbR,hf];exact Zm);obtain⟨sl,e⟩:=I.base.slot L o ho (I.ok.frf L hL) hL λz=>I.ok.exfs L z hL;exact⟨hk,⟨L,_,hf,hn,e,hd⟩,ih (λb hb=>hs b (by unfold frs;rw[ZbR,hf];exact Zc _ hb)) hr⟩
 exact all X.outer (λ_ hb=>hb) I.ok.Qgp
theorem Inv.stack(I:Inv X pins σ H s):s.heap.FunFrames X.base X.stack:=by
 rcases I.ok.stk with e | ⟨e,hf⟩
 ·rw[e];exact I.Qgp
 ·rw[e];obtain⟨m,hn,_⟩:=I.loc;refine .cons (by rw[I.ok.kind];decide) hf hn ?_ I.Qgp;exact Heap.get?_none_of_le (Zp I.ok.bsz I.ok.above)
theorem Inv.Ql1(I:Inv X pins σ H s):∀b∈frs X.stack,b∈X.env.locals::X.fs:=λb hb=>by
 rcases I.ok.stk with e | ⟨e,hf⟩
 ·rw[e]at hb;exact Zc _ hb
 ·rw[e]at hb;unfold frs at hb;rw[ZbR,hf]at hb;exact hb
theorem Inv.Qrp(I:Inv X pins σ H s):∀b∈frs X.stack,H b=none:=λb hb=>by
 rcases Zo.mp (I.Ql1 b hb)with e | hb
 ·rw[e];exact I.free
 ·obtain⟨_,o,ho,_⟩:=I.ok.Qgp.mem hb;exact I.base.free b o ho (I.ok.frf b hb) λz=>I.ok.exfs b z hb
theorem Inv.step{g':Array GenState}{t':Nat}{d':Drawn}{ch:LAd}(I:Inv X pins σ H s)
  (hch:∀b∈ch,(b∈X.ex∨X.s₀.heap.objs.size<=b)/\b≠X.env.locals/\(∀x c,X.env.cells.lookup x=some c->c≠b)/\∀p∈X.pn++pins,p.1≠b)
  (keep:∀b o,b≠X.env.locals->b∉X.fs->b∉ch->s.heap.get? b=some o->H b=none->h'.get? b=some o)
  (slot:∀b o,b≠X.env.locals->b∈X.fs->b∉ch->s.heap.get? b=some o->H b=none->∃sl,h'.get? b=some {o with slots:=sl}) (free:∀b o,b∉ch->s.heap.get? b=some o->H b=none->H' b=none)
  (there:∀b o,b∉ch->s.heap.get? b=some o->∃o',h'.get? b=some o')
  (tups:∀b xs,H b=some (.tup xs)->H' b=some (.tup xs)) (frzs:∀b o u,H b=some (.frz o u)->H' b=some (.frz o u)) (tbls:∀b ps,H b=some (.tbl ps)->∃more,H' b=some (.tbl (ps++more)))
  (ns:∀m,s.heap.Ns X.env.locals m->h'.Ns X.env.locals m) (hok:HOk X.prog X.w H' h') (hg:AllBare g'):
  Inv X pins σ H' {s with heap:=h',gens:=g',drawn:=d',toks:=t'}:=by
 have neL:∀b o,X.s₀.heap.get? b=some o->b≠X.env.locals:=λb o e=>Zaa (Zw (Zy e) I.ok.above);have neC:∀b o,X.s₀.heap.get? b=some o->b∉X.ex->b∉ch:=λb o e hx hb=>by
  rcases(hch b hb).1 with z | z
  ·exact hx z
  ·exact absurd (Zw (Zy e) z) (Zag _)
 have cellK:∀x c,X.env.cells.lookup x=some c->∀v,s.heap.IsCell c v->h'.IsCell c v:=λx c e v Z=>by
  obtain⟨o,ho,hd⟩:=Z;have nch:c∉ch:=λz=>(hch c z).2.2.1 x c e rfl;by_cases hc:c∈X.fs
  ·obtain⟨sl,q⟩:=slot c o (I.cne x c e) hc nch ho (I.freeC x c e);exact⟨_,q,hd⟩
  ·exact⟨o,keep c o (I.cne x c e) hc nch ho (I.freeC x c e),hd⟩
 refine⟨I.ok,I.os,hg,⟨λb o e n hb hx=>?_,λb o e n hb hx=>?_,λb o e n hx=>?_,λb o e hx=>?_,λb xs e=>tups b xs (I.base.tups b xs e),λb o xs e=>frzs b o xs (I.base.frzs b o xs e),λb ps e=>?_⟩,?_,λx c e=>?_,?_,λx c e=>?_,λp hp=>?_,hok,I.len⟩
 ·exact keep b o (neL b o e) hb (neC b o e hx) (I.base.keep b o e n hb hx) (I.base.free b o e n hx)
 ·obtain⟨sl,e1⟩:=I.base.slot b o e n hb hx;obtain⟨sl',e2⟩:=slot b _ (neL b o e) hb (neC b o e hx) e1 (I.base.free b o e n hx);exact⟨sl',e2⟩
 ·obtain⟨o',e1⟩:=I.base.there b o e hx;exact free b o' (neC b o e hx) e1 (I.base.free b o e n hx)
 ·obtain⟨o',e1⟩:=I.base.there b o e hx;exact there b o' (neC b o e hx) e1
 ·obtain⟨m1,e1⟩:=I.base.tbls b ps e;obtain⟨m2,e2⟩:=tbls b _ e1;exact⟨m1++m2,by rw[e2,Array.append_assoc]⟩
 ·obtain⟨m,hn,hl⟩:=I.loc;refine⟨m,ns m hn,λi x v e1 e2 e3=>?_⟩;obtain⟨u,r,l⟩:=hl i x v e1 e2 e3;refine⟨u,r,?_⟩;rcases l with l | ⟨k,c,e,z⟩
  ·exact .inl l
  ·exact .inr ⟨k,c,e,cellK x c e _ z⟩
 ·obtain⟨v,z⟩:=I.cell x c e;exact⟨v,cellK x c e v z⟩
 ·obtain⟨m,⟨o,_,_,ho,_⟩,_⟩:=I.loc;exact free _ o (λz=>(hch _ z).2.1 rfl) ho I.free
 ·obtain⟨v,o,ho,hd⟩:=I.cell x c e;exact free c o (λz=>(hch c z).2.2.1 x c e rfl) ho (I.freeC x c e)
 ·obtain⟨e,n,ne,nf,d⟩:=I.pin p hp;have nch:p.1∉ch:=λz=>(hch p.1 z).2.2.2 p hp rfl;exact⟨keep p.1 p.2 ne nf nch e n,free p.1 p.2 nch e n,ne,nf,d⟩
theorem Inv.un{t':Nat}(I:Inv X pins σ H s)(u:Un X.fs [] H H' s.heap h')(hok:HOk X.prog X.w H' h'):Inv X pins σ H' {s with heap:=h',toks:=t'}:=by
 obtain⟨m,⟨o,es,ep,ho,r⟩,_⟩:=id I.loc;obtain⟨sl,hL⟩:=u.any ho I.free (by simp);exact I.step (g':=s.gens) (d':=s.drawn) (ch:=[]) (λ_ z=>nomatch z) (λb o _ hb _ e n=>u.keep b o e n hb (by simp)) (λb o _ hb _ e n=>u.slot b o e n hb (by simp)) (λb o _ e n=>u.free b o e n (by simp)) (λb o _ e=>u.there b o e (by simp)) u.tups u.frzs u.tbls (λm' hm=>by
  obtain⟨o',es',ep',ho',r'⟩:=hm;rw[ho]at ho';cases ho';exact⟨_,es',ep',hL,r'⟩) hok I.bare
theorem Inv.call{g':Array GenState}{t':Nat}{d':Drawn}{ch:LAd}(I:Inv X pins σ H s)(u:Un (frs X.stack) ch H H' s.heap h')(hok:HOk X.prog X.w H' h')(hg:AllBare g')
  (hch:∀b∈ch,(b∈X.ex∨X.s₀.heap.objs.size<=b)/\b≠X.env.locals/\(∀x c,X.env.cells.lookup x=some c->c≠b)/\∀p∈X.pn++pins,p.1≠b):
  Inv X pins σ H' {s with heap:=h',gens:=g',drawn:=d',toks:=t'}:=by
 obtain⟨m,⟨o,es,ep,ho,r⟩,_⟩:=id I.loc;obtain⟨sl,hL⟩:=u.any ho I.free λz=>(hch _ z).2.1 rfl;exact I.step (ch:=ch) hch (λb o hL hb hc e n=>u.keep b o e n (λz=>(Zo.mp (I.Ql1 b z)).elim hL hb) hc) (λb o _ _ hc e n=>u.any e n hc) (λb o hc e n=>u.free b o e n hc) (λb o hc e=>u.there b o e hc) u.tups u.frzs u.tbls (λm' hm=>by
  obtain⟨o',es',ep',ho',r'⟩:=hm;rw[ho]at ho';cases ho';exact⟨_,es',ep',hL,r'⟩) hok hg
theorem Inv.turned{t':Nat}{it:Addr}(I:Inv X pins σ H s)(k:∀b o,b≠it->s.heap.get? b=some o->h'.get? b=some o)(hn:H it=none)(hL:it≠X.env.locals)
  (h1:it∈X.ex∨X.s₀.heap.objs.size<=it) (h2:∀x c,X.env.cells.lookup x=some c->c≠it) (h3:∀p∈X.pn++pins,p.1≠it):Inv X pins σ H {s with heap:=h',toks:=t'}:=by
 have nit:∀b u,H b=some u->b≠it:=λb u e z=>by rw[z,hn]at e;cases e
 refine I.step (g':=s.gens) (d':=s.drawn) (ch:=[it]) (λb hb=>?_) (λb o _ _ hc e _=>k b o (λz=>hc (by simp[z])) e) (λb o _ _ hc e _=>⟨o.slots,k b o (λz=>hc (by simp[z])) e⟩) (λ_ _ _ _ n=>n)
  (λb o hc e=>⟨o,k b o (λz=>hc (by simp[z])) e⟩) (λ_ _ e=>e) (λ_ _ _ e=>e) (λb ps e=>⟨#[],by rw[e];simp⟩) (λm hm=>?_) (λb u e=>?_) I.bare
 ·have e:b=it:=by simpa using hb
  subst e;exact⟨h1,hL,h2,h3⟩
 ·obtain⟨o,es,ep,ho,r⟩:=hm;exact⟨o,es,ep,k _ o (Ne.symm hL) ho,r⟩
 ·refine(I.hok b u e).Qlg (λc v hc q=>k c v ?_ q) (λ_ q=>q) λ_ _ q=>q;rcases hc with z | z
  ·rw[z];exact nit b u e
  ·exact nit c _ z
theorem Inv.tok(I:Inv X pins σ H s)(t:Nat):Inv X pins σ H {s with toks:=t}:=I.un (h':=s.heap) (t':=t) Un.refl I.hok
theorem Inv.kept{t':Nat}(I:Inv X pins σ H s)(k:∀b u,s.heap.get? b=some u->h'.get? b=some u):Inv X pins σ H {s with heap:=h',toks:=t'}:=I.un (Un.kept k) (I.hok.kept k)
theorem Inv.laid{a:Addr}{o:HO}{t':Nat}(I:Inv X pins σ H s)(k:∀b u,s.heap.get? b=some u->h'.get? b=some u)(hp:s.heap.objs.size<=a)(new:QcK X.prog X.w (upd H a o) h' a o):
  Inv X pins σ (upd H a o) {s with heap:=h',toks:=t'}:=I.un (Un.laid k hp (I.hok.fresh hp)) (I.hok.laid k hp new)
theorem Inv.write{x e:Addr}{o:HO}{t':Nat}(I:Inv X pins σ H s)(mu:Mut (H x))(he:e=x∨H e=some (.own x))(k:∀b u,b≠e->s.heap.get? b=some u->h'.get? b=some u)(heo:∃u,h'.get? e=some u)
  (new:QcK X.prog X.w (upd H x o) h' x o):Inv X pins σ (upd H x o) {s with heap:=h',toks:=t'}:=I.un (Un.write mu he k heo) (I.hok.write mu he k heo new)
theorem Inv.weak{σ':List (Option V)}(I:Inv X pins σ H s)(hl:σ'.length=σ.length)(w:∀(i:Nat) v,σ'[i]? =some (some v)->σ[i]? =some (some v)):Inv X pins σ' H s:=
 ⟨I.ok,I.os,I.bare,I.base,let ⟨m,hn,hl'⟩:=I.loc;⟨m,hn,λi x v e1 e2 e3=>hl' i x v e1 (w i v e2) e3⟩,I.cell,I.free,I.freeC,I.pin,I.hok,hl.trans I.len⟩
theorem Inv.Qrs{pins':List (Addr×Obj)}(I:Inv X pins σ H s)(h:∀p∈pins',s.heap.get? p.1=some p.2/\H p.1=none/\p.1≠X.env.locals/\p.1∉X.fs/\∀v,p.2.data≠ .cell v):Inv X pins' σ H s:=
 ⟨I.ok,I.os,I.bare,I.base,I.loc,I.cell,I.free,I.freeC,λp hp=>(ZH.mp hp).elim (λz=>I.pin p (Zl _ z)) (h p),I.hok,I.len⟩
theorem Qpd{N:List Str}(hN:N.Nodup){i j:Nat}{x:Str}(a:N[i]? =some x)(b:N[j]? =some x):i=j:=by
 obtain⟨h1,e1⟩:=Zi.mp a;obtain⟨h2,e2⟩:=Zi.mp b;exact(List.getElem_inj hN).mp (e1.trans e2.symm)
theorem Qnx{M:Model}{A:Around}{E:Value->Shared->Prop}{i:Nat}{x:Str}{v:V}{u:Value}{Q:Unit->Shared->Prop}(I:Inv X pins σ H s)(hN:X.N.Nodup)(hi:X.N[i]? =some x)(hx:Loc X.env.scope x)(r:RelV v u)
  (h:∀s',Inv X pins (σ.set i (some v)) H s'->(∃a,Heap.SameBut a s.heap s'.heap/\(a=X.env.locals∨X.env.cells.lookup x=some a))->Q () s') (hf:X.fn x=true∨X.env.scope.names.lookup x=some .local :=by first | exact .inl rfl | exact .inr rfl | assumption):wpAny M A (storeName X.env x u) Q E s:=by
 obtain⟨m,hn,hl⟩:=id I.loc;have hcls:(X.env.scope.kind == .class || (X.env.scope.kind == .module && X.env.locals != X.env.globals))=false:=by rw[I.ok.kind];rfl
 have hiσ:i<σ.length:=by rw[I.len];exact(Zi.mp hi).1
 have cne:=I.cne;have tracked:∀{a:Addr}{h':Heap},(∃o,s.heap.get? a=some o/\H a=none)->Heap.SameBut a s.heap h'->HOk X.prog X.w H h':=λ{a h'} ha hs b ob e=>by
  obtain⟨_,_,hfree⟩:=ha;refine(I.hok b ob e).Qlg (λc w' hc q=>(hs.2 c ?_).trans q) (λ_ q=>q) λ_ _ q=>q;rintro rfl;rcases hc with rfl | hc
  ·rw[hfree]at e;cases e
  ·rw[hfree]at hc;cases hc
 rcases hx with hk | hk
 ·refine wpAny_storeName_local hk hn (λh' hn' hs=>?_) hcls;obtain⟨oL,_,_,hoL,_⟩:=id hn;refine h _ ⟨I.ok,I.os,I.bare,⟨λb o e n hb hx=>?_,λb o e n hb hx=>?_,I.base.free,λb o e hx=>?_,I.base.tups,I.base.frzs,I.base.tbls⟩,⟨_,hn',λj y v' e1 e2 e3=>?_⟩,λy c e=>?_,I.free,I.freeC,λp hp=>?_,tracked ⟨oL,hoL,I.free⟩ hs,by simpa using I.len⟩ ⟨_,hs,.inl rfl⟩
  ·exact(hs.2 b (Zaa (Zw (Zy e) I.ok.above))).trans (I.base.keep b o e n hb hx)
  ·obtain⟨sl,e1⟩:=I.base.slot b o e n hb hx;exact⟨sl,(hs.2 b (Zaa (Zw (Zy e) I.ok.above))).trans e1⟩
  ·obtain⟨o',e1⟩:=I.base.there b o e hx;exact⟨o',(hs.2 b (Zaa (Zw (Zy e) I.ok.above))).trans e1⟩
  ·by_cases hj:j=i
   ·subst hj;rw[hi]at e1;cases e1;rw[Zs hiσ]at e2;cases e2;exact⟨u,r,.inl ⟨hk,by simp⟩⟩
   ·rw[Zd (Ne.symm hj)]at e2;obtain⟨u',r',q⟩:=hl j y v' e1 e2 e3;refine⟨u',r',?_⟩;rcases q with⟨k,e⟩ | ⟨k,c,e,z⟩
    ·refine .inl ⟨k,?_⟩;have:y≠x:=λe=>hj (Qpd hN e1 (e▸hi));simp[this,e]
    ·exact .inr ⟨k,c,e,z.sameBut hs (cne y c e)⟩
  ·obtain⟨w',z⟩:=I.cell y c e;exact⟨w',z.sameBut hs (cne y c e)⟩
  ·obtain⟨e,n,ne,nf,d⟩:=I.pin p hp;exact⟨(hs.2 p.1 ne).trans e,n,ne,nf,d⟩
 ·have hfn:X.fn x=true:=by
   rcases hf with z | z
   ·exact z
   ·rw[z]at hk;cases hk
  obtain⟨c,hc⟩:=I.ok.has x (.inl hk);obtain⟨w',z⟩:=I.cell x c hc;refine wpAny_storeName_cell I.ok.kind hk hc z (λh' hc' hs=>?_);obtain⟨oc,hoc,hocd⟩:=id z;refine h {s with heap:=h'} ⟨I.ok,I.os,I.bare,⟨λb o e n hb hx=>?_,λb o e n hb hx=>?_,I.base.free,λb o e hx=>?_,I.base.tups,I.base.frzs,I.base.tbls⟩,⟨m,hn.sameBut hs (Ne.symm (cne x c hc)),λj y v' e1 e2 e3=>?_⟩,λy c' e=>?_,I.free,I.freeC,λp hp=>?_,tracked ⟨oc,hoc,I.freeC x c hc⟩ hs,by simpa using I.len⟩ ⟨c,hs,.inr hc⟩
  ·exact(hs.2 b (Zaa (Zw (Zy e) (I.ok.cab x c hfn hc)))).trans (I.base.keep b o e n hb hx)
  ·obtain⟨sl,e1⟩:=I.base.slot b o e n hb hx;exact⟨sl,(hs.2 b (Zaa (Zw (Zy e) (I.ok.cab x c hfn hc)))).trans e1⟩
  ·obtain⟨o',e1⟩:=I.base.there b o e hx;exact⟨o',(hs.2 b (Zaa (Zw (Zy e) (I.ok.cab x c hfn hc)))).trans e1⟩
  ·by_cases hj:j=i
   ·subst hj;rw[hi]at e1;cases e1;rw[Zs hiσ]at e2;cases e2;exact⟨u,r,.inr ⟨.inl hk,c,hc,hc'⟩⟩
   ·rw[Zd (Ne.symm hj)]at e2;obtain⟨u',r',q⟩:=hl j y v' e1 e2 e3;refine⟨u',r',?_⟩;rcases q with q | ⟨k,c',e,z'⟩
    ·exact .inl q
    ·refine .inr ⟨k,c',e,z'.sameBut hs ?_⟩;rintro rfl;exact hj (Qpd hN e1 (I.ok.inj _ _ _ e hc▸hi))
  ·by_cases hcc:c'=c
   ·subst hcc;exact⟨_,hc'⟩
   ·obtain⟨w2,z2⟩:=I.cell y c' e;exact⟨w2,z2.sameBut hs hcc⟩
  ·obtain⟨e,n,ne,nf,d⟩:=I.pin p hp;refine⟨(hs.2 p.1 ?_).trans e,n,ne,nf,d⟩;intro q;rw[q,hoc]at e;have q':oc=p.2:=Option.some.inj e;exact d w' (by rw[← q'];exact hocd)
theorem QoT{M:Model}{A:Around}{E:Value->Shared->Prop}{i:Nat}{x:Str}{v:V}{u:Value}{Q:Unit->Shared->Prop}(I:Inv X pins σ H s)(hN:X.N.Nodup)(hi:X.N[i]? =some x)(hx:Loc X.env.scope x)(r:RelV v u)
  (h:∀s',Inv X pins (σ.set i (some v)) H s'->Q () s') (hf:X.fn x=true∨X.env.scope.names.lookup x=some .local :=by first | exact .inl rfl | exact .inr rfl | assumption):wpAny M A (storeName X.env x u) Q E s:=
 Qnx I hN hi hx r (λs' I' _=>h s' I') hf
theorem Inv.QCs{s':Shared}{ch:LAd}(I:Inv X pins σ H s)(ho:s'.os=s.os)(u:Un (frs X.stack) ch H H' s.heap s'.heap)(hok:HOk X.prog X.w H' s'.heap)(hg:AllBare s'.gens)
  (hch:∀b∈ch,(b∈X.ex∨X.s₀.heap.objs.size<=b)/\b≠X.env.locals/\(∀x c,X.env.cells.lookup x=some c->c≠b)/\∀p∈X.pn++pins,p.1≠b):Inv X pins σ H' s':=by
 obtain⟨h',g',d',t',o'⟩:=s';have e:o'=s.os:=ho;subst e;exact I.call (g':=g') (t':=t') (d':=d') u hok hg hch
end
noncomputable abbrev XK:=Value->Option Addr->Hp->Prop
noncomputable abbrev St:=List (Option V)
noncomputable abbrev VK:=V->Hp->Prop
noncomputable abbrev TE:=St->Hp->VK->Prop
noncomputable abbrev TT:=St->Hp->(Bool->Hp->Prop)->Prop
noncomputable abbrev TA:=St->Hp->(List V->Hp->Prop)->Prop
structure Ends where
 nx:St->Hp->Prop
 rt:VK
 bk:St->Hp->Prop:=λ_ _=>False
 ct:St->Hp->Prop:=λ_ _=>False
noncomputable abbrev TS:=Ends->St->Hp->Prop
def EP(X:Cx)(pins:List (Addr×Obj))(σ:St)(Q:VK)(u:Value)(s':Shared):Prop:=∃v H',Inv X pins σ H' s'/\RelV v u/\Q v H'
def TP(X:Cx)(pins:List (Addr×Obj))(σ:St)(Q:Bool->Hp->Prop)(b:Bool)(s':Shared):Prop:=∃H',Inv X pins σ H' s'/\Q b H'
def AP(X:Cx)(pins:List (Addr×Obj))(σ:St)(Q:List V->Hp->Prop)(us:List Value)(s':Shared):Prop:=∃vs H',Inv X pins σ H' s'/\QL vs us/\Q vs H'
def SP(X:Cx)(pins:List (Addr×Obj))(D:Ends)(f:Flow)(s':Shared):Prop:=
 match f with
 | .next=>∃σ' H',Inv X pins σ' H' s'/\D.nx σ' H'
 | .brk=>∃σ' H',Inv X pins σ' H' s'/\D.bk σ' H'
 | .cont=>∃σ' H',Inv X pins σ' H' s'/\D.ct σ' H'
 | .ret u=>∃v σ' H',Inv X pins σ' H' s'/\RelV v u/\D.rt v H'
def PE(X:Cx)(e:Expr)(t:TE):Prop:=
 ∀(pins:List (Addr×Obj)) (s:Shared) (σ:St) (H:Hp) (Q:VK),Inv X pins σ H s->t σ H Q->wpAny (model X.prog X.w) X.A (eval e X.env) (EP X pins σ Q) X.xe s
def PT(X:Cx)(e:Expr)(t:TT):Prop:=
 ∀(pins:List (Addr×Obj)) (s:Shared) (σ:St) (H:Hp) (Q:Bool->Hp->Prop),Inv X pins σ H s->t σ H Q->wpAny (model X.prog X.w) X.A (isTrue e X.env (eval e X.env)) (TP X pins σ Q) X.xe s
def PW(X:Cx)(e:Expr)(t:TT):Prop:=
 ∀(whole:Sem Value) (pins:List (Addr×Obj)) (s:Shared) (σ:St) (H:Hp) (Q:Bool->Hp->Prop),Inv X pins σ H s->t σ H Q->wpAny (model X.prog X.w) X.A (isTrue e X.env whole) (TP X pins σ Q) X.xe s
theorem PW.pt{X:Cx}{e:Expr}{t:TT}(h:PW X e t):PT X e t:=h _
def PA(X:Cx)(es:List Expr)(t:TA):Prop:=
 ∀(pos:Pos) (pins:List (Addr×Obj)) (s:Shared) (σ:St) (H:Hp) (Q:List V->Hp->Prop),Inv X pins σ H s->t σ H Q->wpAny (model X.prog X.w) X.A (spliced (backTo pos (starEach es X.env))) (AP X pins σ Q) X.xe s
def PS(X:Cx)(st:Stmt)(t:TS):Prop:=
 ∀(pins:List (Addr×Obj)) (s:Shared) (σ:St) (H:Hp) (D:Ends),Inv X pins σ H s->t D σ H->wpAny (model X.prog X.w) X.A (exec st X.env) (SP X pins D) X.xe s
def PSs(X:Cx)(st:List Stmt)(t:TS):Prop:=
 ∀(pins:List (Addr×Obj)) (s:Shared) (σ:St) (H:Hp) (D:Ends),Inv X pins σ H s->t D σ H->wpAny (model X.prog X.w) X.A (execs st X.env) (SP X pins D) X.xe s
theorem thn{α:Type}{t:Sem α}{Q Q':α->Shared->Prop}{M:Model}{A:Around}{E:Value->Shared->Prop}{s:Shared}(h:wpAny M A t Q E s)(hQ:∀a s,Q a s->Q' a s):wpAny M A t Q' E s:=wpAny_mono h hQ λ_ _ x=>x
end L2
namespace L2
open PySem PySem.Spec PyProof.Rows
section
variable {X:Cx}
noncomputable def Qhb(i:Nat):TE:=λσ H Q=>∃v,σ[i]? =some (some v)/\Q v H
noncomputable def tC(v:V):TE:=λ_ H Q=>Q v H
theorem QAv{i:Nat}{x:Str}{pos:Pos}(hN:X.N[i]? =some x)(hv:Vis X.env.scope x)(hd:(x == ("__debug__" :Str))=false:=by decide)(hcd:(x == ("__classdict__" :Str))=false:=by decide):PE X (.Name x pos) (Qhb i):=by
 intro pins s σ H Q I h;obtain⟨v,e,h⟩:=h;obtain⟨m,hn,hl⟩:=I.loc;obtain⟨u,r,l⟩:=hl i x v hN e hv;have fin:EP X pins σ Q u s:=⟨v,H,I,r,h⟩;rcases l with⟨hk,hm⟩ | ⟨hk,c,hc,hcell⟩
 ·exact wpAny_Name (wpAny_loadName_local I.ok.kind hk hn hm fin) hd
 ·rcases hk with hk | hk
  ·exact wpAny_Name (wpAny_loadName_cell I.ok.kind hk hc hcell fin) hd
  ·exact wpAny_Name (wpAny_loadName_free I.ok.kind hk hc hcell fin hcd) hd
theorem QzB{i j pos}:PE X (.Constant (.int i) j pos) (tC (.int i)):=λ_ _ _ H _ I h=>wpAny_Constant_int ⟨.int i,H,I.tok _,⟨_,rfl⟩,h⟩
theorem QBL{b j pos}:PE X (.Constant (.bool b) j pos) (tC (.bl b)):=λ_ _ _ H _ I h=>Constant_bool ⟨.bl b,H,I,rfl,h⟩
theorem QAJ{j pos}:PE X (.Constant .none j pos) (tC .non):=λ_ _ _ H _ I h=>Constant_none ⟨.non,H,I,rfl,h⟩
theorem QAY{x j pos}:PE X (.Constant (.str x) j pos) (tC (.str x)):=λ_ _ _ H _ I h=>Calls.Constant_str ⟨.str x,H,I.tok _,⟨_,rfl⟩,h⟩
def Gl(X:Cx)(x:Str):Prop:=X.env.kindOf x=some .globalImplicit
theorem QmX{E:Value->Shared->Prop}{pins:List (Addr×Obj)}{s:Shared}{σ:St}{H:Hp}{x:Str}{u:Value}{pos:Pos}{Q:Value->Shared->Prop}(I:Inv X pins σ H s)(hg:Gl X x)(hm:X.mg x=some u)(h:Q u s)
  (hd:(x == ("__debug__" :Str))=false:=by decide):wpAny (model X.prog X.w) X.A (eval (.Name x pos) X.env) Q E s:=
 Calls.Name_function_global I.ok.kind hg (Calls.loadGlobal_global (by rw[I.ok.glob];exact I.mod.glob.keeps I.bk) hm h) hd
theorem Qc9{E:Value->Shared->Prop}{pins:List (Addr×Obj)}{s:Shared}{σ:St}{H:Hp}{x:Str}{u:Value}{pos:Pos}{Q:Value->Shared->Prop}(I:Inv X pins σ H s)(hg:Gl X x)(hm:X.mg x=none)(hv:bootBuiltins x=some u)(h:Q u s)
  (hn:x≠ "__name__" :=by decide) (hd:(x == ("__debug__" :Str))=false:=by decide):wpAny (model X.prog X.w) X.A (eval (.Name x pos) X.env) Q E s:=by
 obtain⟨mb,h1,h2⟩:=I.mod.blt;exact Calls.Name_function_global I.ok.kind hg (Calls.loadGlobal_builtin (by rw[I.ok.glob];exact I.mod.glob.keeps I.bk) hm (by rw[I.ok.blt];exact h1.keeps I.bk) ((h2 x hn).trans hv) h) hd
theorem Qyr{x:Str}{v:V}{u:Value}{pos:Pos}(hg:Gl X x)(hm:X.mg x=some u)(r:RelV v u)(hd:(x == ("__debug__" :Str))=false:=by decide):PE X (.Name x pos) (tC v):=
 λ_ _ _ H _ I h=>QmX I hg hm ⟨v,H,I,r,h⟩ hd
theorem QhN{x:Str}{v:V}{u:Value}{pos:Pos}(hg:Gl X x)(hm:X.mg x=none)(hv:bootBuiltins x=some u)(r:RelV v u)(hn:x≠ "__name__" :=by decide)(hd:(x == ("__debug__" :Str))=false:=by decide):PE X (.Name x pos) (tC v):=
 λ_ _ _ H _ I h=>Qc9 I hg hm hv ⟨v,H,I,r,h⟩ hn hd
variable {a b:Expr}{ta tb:TE}{pos:Pos}
variable {tA tB':TT}{rest:List Expr}
noncomputable def QDh(t u:TT):TT:=λσ H Q=>t σ H λc H1=>if c=true then u σ H1 Q else Q false H1
noncomputable def tOr(t u:TT):TT:=λσ H Q=>t σ H λc H1=>if c=true then Q true H1 else u σ H1 Q
noncomputable def QCQ(t:TT):TT:=λσ H Q=>t σ H λc H1=>Q (!c) H1
theorem QyD(ha:PT X a tA):PW X (.BoolOp .And [a] pos) tA:=by
 intro wh pins s σ H Q I h;refine isTrue_and (thn (ha pins s σ H Q I h) λc s1 e=>?_);cases c with
 | true=>exact isTrue_and_nil e
 | false=>exact e
theorem QBn(ha:PT X a tA):PW X (.BoolOp .Or [a] pos) tA:=by
 intro wh pins s σ H Q I h;refine isTrue_or (thn (ha pins s σ H Q I h) λc s1 e=>?_);cases c with
 | false=>exact isTrue_or_nil e
 | true=>exact e
theorem QA5(ha:PT X a tA)(hb:PW X (.BoolOp .And (b::rest) pos) tB'):PW X (.BoolOp .And (a::b::rest) pos) (QDh tA tB'):=by
 intro wh pins s σ H Q I h;refine isTrue_and (thn (ha pins s σ H _ I h) λc s1 Z=>?_);obtain⟨H1,I1,q1⟩:=Z;cases c with
 | true=>exact hb wh pins s1 σ H1 Q I1 q1
 | false=>exact⟨H1,I1,q1⟩
theorem QCg(ha:PT X a tA)(hb:PW X (.BoolOp .Or (b::rest) pos) tB'):PW X (.BoolOp .Or (a::b::rest) pos) (tOr tA tB'):=by
 intro wh pins s σ H Q I h;refine isTrue_or (thn (ha pins s σ H _ I h) λc s1 Z=>?_);obtain⟨H1,I1,q1⟩:=Z;cases c with
 | true=>exact⟨H1,I1,q1⟩
 | false=>exact hb wh pins s1 σ H1 Q I1 q1
theorem Qzv(ha:PT X a tA):PT X (.UnaryOp .Not a pos) (QCQ tA):=by
 intro pins s σ H Q I h;exact isTrue_not (ha pins s σ H (λc H1=>Q (!c) H1) I h)
theorem QBo{op}{t:TE}(h:PE X a t):PE X (.BoolOp op [a] pos) t:=λpins s σ H Q I hw=>BoolOp_one (h pins s σ H Q I hw)
noncomputable def tIf(t:TT)(ta tb:TE):TE:=λσ H Q=>t σ H λc H1=>if c=true then ta σ H1 Q else tb σ H1 Q
theorem QvD{c:Expr}(hc:PT X c tA)(ha:PE X a ta)(hb:PE X b tb):PE X (.IfExp c a b pos) (tIf tA ta tb):=by
 intro pins s σ H Q I h;refine wpAny_IfExp (thn (hc pins s σ H _ I h) λd s1 Z=>?_);obtain⟨H1,I1,q1⟩:=Z;cases d with
 | true=>exact ha pins s1 σ H1 Q I1 q1
 | false=>exact hb pins s1 σ H1 Q I1 q1
end
end L2
namespace L2
open PySem PySem.Spec PyProof.Rows
def SqL(K:Fgg)(H:Hp)(a:Addr)(xs:List V):Prop:=
 Rd H a (.lst xs)∨
  ∃(o:Obj) (its:Array Value) (n:Nat),K.lookup a=some o/\o.cls= .type "list" /\o.dict=none/\o.data= .seq its n/\its.size<=sizeLine/\QL xs its.toList
def SqT(K:Fgg)(H:Hp)(a:Addr)(xs:List V):Prop:=
 Rd H a (.tup xs)∨
  ∃(o:Obj) (its:Array Value) (n:Nat),K.lookup a=some o/\o.cls= .type "tuple" /\o.data= .seq its n/\its.size<=sizeLine/\QL xs its.toList
noncomputable def QCP:Value->Option V
 | .none=>some .non
 | .bool b=>some (.bl b)
 | .int i _=>some (.int i)
 | .str x _=>some (.str x)
 | .bytes b _=>some (.byt b)
 | .float b _=>some (.flt b)
 | .ref a=>some (.ref a)
 | .type n=>some (.ty n)
 | _=>none
theorem RelV.abs{x:V}{u:Value}(r:RelV x u):QCP u=some x:=by
 cases x with
 | non=>cases r;rfl
 | bl _=>cases r;rfl
 | int _=>obtain⟨t,rfl⟩:=r;rfl
 | str _=>obtain⟨t,rfl⟩:=r;rfl
 | byt _=>obtain⟨t,rfl⟩:=r;rfl
 | flt _=>obtain⟨t,rfl⟩:=r;rfl
 | ref _=>cases r;rfl
 | ty _=>cases r;rfl
theorem RelV.inj{x y:V}{u:Value}(r:RelV x u)(q:RelV y u):x=y:=Option.some.inj (r.abs.symm.trans q.abs)
theorem QL.inj:∀{xs ys:List V}{us:List Value},QL xs us->QL ys us->xs=ys
 | _,_,_,.nil,.nil=>rfl
 | _,_,_,.cons r t,.cons r' t'=>by rw[r.inj r',QL.inj t t']
section
variable {X:Cx}{pins:List (Addr×Obj)}{σ:St}{H:Hp}{s:Shared}{a:Addr}{xs ys:List V}
theorem SqL.of{K:Fgg}(h:H a=some (.lst xs)):SqL K H a xs:= .inl (.inl h)
theorem SqT.of{K:Fgg}(h:H a=some (.tup xs)):SqT K H a xs:= .inl (.inl h)
theorem Inv.list(I:Inv X pins σ H s)(h:SqL X.K H a xs):∃its:List Value,QL xs its/\PlainL s.heap a its.toArray/\xs.length<=sizeLine:=by
 rcases h with h | ⟨o,its,n,hk,hc,hd,hs,hz,r⟩
 ·obtain⟨z,its,n,r,e⟩:=h.ok I.hok;exact⟨its,r,⟨_,n,e,rfl,rfl,rfl⟩,z⟩
 ·refine⟨its.toList,r,⟨o,n,I.kIn a o hk,hc,hd,by simpa using hs⟩,?_⟩;have e:=r.length;simp only[Zam]at e;omega
theorem Inv.tuple(I:Inv X pins σ H s)(h:SqT X.K H a xs):∃its:List Value,QL xs its/\IsTup s.heap a its.toArray/\xs.length<=sizeLine:=by
 rcases h with h | ⟨o,its,n,hk,hc,hs,hz,r⟩
 ·obtain⟨z,its,r,p⟩:=h.ok I.hok;exact⟨its,r,p,z⟩
 ·refine⟨its.toList,r,⟨o,I.kIn a o hk,hc,n,by simpa using hs⟩,?_⟩;have e:=r.length;simp only[Zam]at e;omega
theorem Inv.Qd1(I:Inv X pins σ H s)(h:SqL X.K H a xs)(h':SqL X.K H a ys):xs=ys:=by
 obtain⟨its,r,⟨o,n,e,_,_,d⟩,_⟩:=I.list h;obtain⟨its',r',⟨o',n',e',_,_,d'⟩,_⟩:=I.list h';rw[e]at e';cases e';rw[d]at d';injection d' with d1 _;have:its=its':=by simpa using congrArg Array.toList d1
 subst this;exact r.inj r'
theorem Inv.Qtd(I:Inv X pins σ H s)(h:SqT X.K H a xs)(h':SqT X.K H a ys):xs=ys:=by
 obtain⟨its,r,⟨o,e,_,n,d⟩,_⟩:=I.tuple h;obtain⟨its',r',⟨o',e',_,n',d'⟩,_⟩:=I.tuple h';rw[e]at e';cases e';rw[d]at d';injection d' with d1 _;have:its=its':=by simpa using congrArg Array.toList d1
 subst this;exact r.inj r'
end
noncomputable abbrev Cx.Qgi(X:Cx)(E:Value->Shared->Prop):Cx:={X with xe:=E}
noncomputable abbrev Cx.nox(X:Cx):Cx:=X.Qgi λ_ _=>False
theorem Cx.Ok.Qgi{X:Cx}(ok:X.Ok)(E:Value->Shared->Prop):(X.Qgi E).Ok:=
 ⟨ok.mod,ok.kind,ok.glob,ok.blt,ok.above,ok.inj,ok.has,ok.cab,ok.hd,ok.frames,ok.stk,ok.exf,ok.bs,ok.bsz,ok.noex,ok.exfs,ok.Qgp,ok.frf⟩
theorem Cx.Ok.Qfc{X:Cx}{E:Value->Shared->Prop}(ok:(X.Qgi E).Ok):X.Ok:=
 ⟨ok.mod,ok.kind,ok.glob,ok.blt,ok.above,ok.inj,ok.has,ok.cab,ok.hd,ok.frames,ok.stk,ok.exf,ok.bs,ok.bsz,ok.noex,ok.exfs,ok.Qgp,ok.frf⟩
section
variable {X:Cx}{pins:List (Addr×Obj)}{σ:St}{H:Hp}{s:Shared}{E:Value->Shared->Prop}
theorem Inv.Qgi(I:Inv X pins σ H s)(E:Value->Shared->Prop):Inv (X.Qgi E) pins σ H s:=⟨I.ok.Qgi E,I.os,I.bare,I.base,I.loc,I.cell,I.free,I.freeC,I.pin,I.hok,I.len⟩
theorem Inv.Qfc(I:Inv (X.Qgi E) pins σ H s):Inv X pins σ H s:=⟨I.ok.Qfc,I.os,I.bare,I.base,I.loc,I.cell,I.free,I.freeC,I.pin,I.hok,I.len⟩
theorem SP.Qfc{D:Ends}{f:Flow}{s':Shared}(h:SP (X.Qgi E) pins D f s'):SP X pins D f s':=by
 cases f with
 | next=>obtain⟨σ',H',I,q⟩:=h;exact⟨σ',H',I.Qfc,q⟩
 | brk=>obtain⟨σ',H',I,q⟩:=h;exact⟨σ',H',I.Qfc,q⟩
 | cont=>obtain⟨σ',H',I,q⟩:=h;exact⟨σ',H',I.Qfc,q⟩
 | ret u=>obtain⟨v,σ',H',I,r,q⟩:=h;exact⟨v,σ',H',I.Qfc,r,q⟩
theorem PSs.nox{st:List Stmt}{t:TS}(h:PSs X.nox st t):PSs X st t:=λpins s σ H D I hw=>
 wpAny_mono (h pins s σ H D (I.Qgi _) hw) (λ_ _ q=>q.Qfc) λ_ _ z=>False.elim z
end
section
variable {X:Cx}{st:Stmt}{rest:List Stmt}{t u:TS}{e:Expr}{te:TE}{pos:Pos}
noncomputable def QrZ:TS:=λD σ H=>D.nx σ H
noncomputable def Qu8(t u:TS):TS:=λD σ H=>t {D with nx:=u D} σ H
theorem Qx7:PSs X [] QrZ:=λ_ _ σ H _ I h=>wpAny_execs_nil ⟨σ,H,I,h⟩
theorem QcG(h1:PS X st t)(h2:PSs X rest u):PSs X (st::rest) (Qu8 t u):=by
 intro pins s σ H D I h;refine wpAny_execs_cons (thn (h1 pins s σ H {D with nx:=u D} I h) λf s1 q=>?_);cases f with
 | next=>
  obtain⟨σ',H',I',q⟩:=q;exact h2 pins s1 σ' H' D I' q
 | ret v=>exact q
 | brk=>exact q
 | cont=>exact q
noncomputable def QBb:TS:=λD σ H=>D.bk σ H
noncomputable def QB6:TS:=λD σ H=>D.ct σ H
theorem Qya:PS X (.Pass pos) QrZ:=λ_ _ σ H _ I h=>wpAny_Pass ⟨σ,H,I,h⟩
theorem Qvb:PS X (.Break pos) QBb:=λ_ _ σ H _ I h=>wpAny_Break ⟨σ,H,I,h⟩
theorem QqF:PS X (.Continue pos) QB6:=λ_ _ σ H _ I h=>wpAny_Continue ⟨σ,H,I,h⟩
theorem Inv.quiet{pins:List (Addr×Obj)}{σ:St}{H:Hp}{s:Shared}(I:Inv X pins σ H s):interactive X.env=false:=by simp[interactive,I.ok.kind]
theorem QzZ{x j pos pos'}:PS X (.Expr (.Constant (.str x) j pos) pos') QrZ:=λ_ s σ H _ I h=>wpAny_Expr (Calls.Constant_str (show SP X _ _ .next {s with toks:=s.toks+1}from⟨σ,H,I.tok _,h⟩)) I.quiet
noncomputable def Qkj(te:TE):TS:=λD σ H=>te σ H λ_ H1=>D.nx σ H1
theorem QhT(he:PE X e te)(hs:swapsWith e none pos.line X.env=pure false:=by rfl):PS X (.Expr e pos) (Qkj te):=by
 intro pins s σ H D I h;exact wpAny_Expr_any (thn (he pins s σ H _ I h) λv s1 ⟨x,H1,I1,r1,q1⟩=>⟨σ,H1,I1,q1⟩) I.quiet hs
noncomputable def QCG(te:TE):TS:=λD σ H=>te σ H D.rt
theorem QBf(he:PE X e te):PS X (.Return (some e) pos) (QCG te):=by
 intro pins s σ H D I h;exact wpAny_Return_some (thn (he pins s σ H _ I h) λv s1 ⟨x,H1,I1,r1,q1⟩=>⟨x,σ,H1,I1,r1,q1⟩)
noncomputable def QB5:TS:=λD _ H=>D.rt .non H
theorem QyI:PS X (.Return none pos) QB5:=λ_ _ σ H _ I h=>wpAny_Return_none ⟨.non,σ,H,I,rfl,h⟩
noncomputable def QCS(c:TT)(t u:TS):TS:=λD σ H=>c σ H λb H1=>if b=true then t D σ H1 else u D σ H1
theorem QCu{c:Expr}{a b:List Stmt}{tc:TT}(hc:PT X c tc)(ha:PSs X a t)(hb:PSs X b u):PS X (.If c a b pos) (QCS tc t u):=by
 intro pins s σ H D I h;refine wpAny_If (thn (hc pins s σ H _ I h) λd s1 Z=>?_);obtain⟨H1,I1,q1⟩:=Z;cases d with
 | true=>exact ha pins s1 σ H1 D I1 q1
 | false=>exact hb pins s1 σ H1 D I1 q1
noncomputable def Qzz:TS:=λ_ _ _=>False
theorem Qwz:PS X st Qzz:=λ_ _ _ _ _ _ h=>h.elim
end
noncomputable abbrev TG:=V->St->Hp->(St->Hp->Prop)->Prop
noncomputable abbrev TGs:=List V->St->Hp->(St->Hp->Prop)->Prop
def PG(X:Cx)(target:Expr)(t:TG):Prop:=
 ∀(pins:List (Addr×Obj)) (s:Shared) (σ:St) (H:Hp) (v:V) (u:Value) (Q:St->Hp->Prop),Inv X pins σ H s->RelV v u->t v σ H Q→
  wpAny (model X.prog X.w) X.A (assign target X.env u) (λ_ s'=>∃σ' H',Inv X pins σ' H' s'/\Q σ' H') X.xe s
def PGs(X:Cx)(ts:List Expr)(t:TGs):Prop:=
 ∀(pins:List (Addr×Obj)) (s:Shared) (σ:St) (H:Hp) (vs:List V) (us:List Value) (Q:St->Hp->Prop),Inv X pins σ H s->QL vs us->t vs σ H Q→
  wpAny (model X.prog X.w) X.A (assignInOrder ((assignEach ts X.env).map (·.2)) us) (λ_ s'=>∃σ' H',Inv X pins σ' H' s'/\Q σ' H') X.xe s
noncomputable abbrev Qqf:=V->V->V->Hp->(Hp->Prop)->Prop
def Qvo(X:Cx)(t:Qqf):Prop:=
 ∀(pins:List (Addr×Obj)) (s:Shared) (σ:St) (H:Hp) (o i v:V) (ov iv u:Value) (Q:Hp->Prop),Inv X pins σ H s->RelV o ov->RelV i iv->RelV v u->t o i v H Q→
  wpAny (model X.prog X.w) X.A (setItem ov iv u) (λ_ s'=>∃H',Inv X pins σ H' s'/\Q H') X.xe s
noncomputable abbrev TIp:=V->V->Hp->VK->Prop
def PIp(X:Cx)(op:Operator)(t:TIp):Prop:=
 ∀(pins:List (Addr×Obj)) (s:Shared) (σ:St) (H:Hp) (x y:V) (v u:Value) (Q:VK),Inv X pins σ H s->RelV x v->RelV y u->t x y H Q→
  wpAny (model X.prog X.w) X.A (inplaceOp op v u) (EP X pins σ Q) X.xe s
section
variable {X:Cx}{pos:Pos}
noncomputable def QgV(i:Nat):TG:=λv σ H Q=>Q (σ.set i (some v)) H
theorem QrF{i:Nat}{x:Str}(hN:X.N.Nodup)(hi:X.N[i]? =some x)(hx:Loc X.env.scope x)(hf:X.fn x=true∨X.env.scope.names.lookup x=some .local :=by first | exact .inl rfl | exact .inr rfl | assumption):PG X (.Name x pos) (QgV i):=by
 intro pins s σ H v u Q I r h;exact wpAny_assign_Name (QoT I hN hi hx r (λs' I'=>⟨_,H,I',h⟩) hf)
noncomputable def QAW:TGs:=λvs σ H Q=>vs=[]/\Q σ H
noncomputable def Qw9(t:TG)(u:TGs):TGs:=λvs σ H Q=>∃v r,vs=v::r/\t v σ H λσ' H'=>u r σ' H' Q
theorem QyT:PGs X [] QAW:=by
 intro pins s σ H vs us Q I r h;obtain⟨e,h⟩:=h;subst e;cases r;exact assignInOrder_nil ⟨σ,H,I,h⟩
theorem Qvp{e:Expr}{es:List Expr}{t:TG}{u:TGs}(h1:PG X e t)(h2:PGs X es u)
  (hs:(assignEach (e::es) X.env).map (·.2)=assign e X.env::(assignEach es X.env).map (·.2):=by rfl):PGs X (e::es) (Qw9 t u):=by
 intro pins s σ H vs us Q I r h;obtain⟨v,vr,e1,h⟩:=h;subst e1;cases r with
 | cons r rr=>
  rw[hs];refine assignInOrder_cons (thn (h1 pins s σ H _ _ _ I r h) λ_ s1 Z=>?_);obtain⟨σ1,H1,I1,q1⟩:=Z;exact h2 pins s1 σ1 H1 _ _ Q I1 rr q1
noncomputable def QDi(K:Fgg)(n:Nat)(t:TGs):TG:=λv σ H Q=>∃a xs,v= .ref a/\SqT K H a xs/\xs.length=n/\t xs σ H Q
theorem Qzx{es:List Expr}{k:Nat}{t:TGs}{n:Nat}(hc:X.calm=true)(h:PGs X es t)
  (hn:(assignEach es X.env).length=n:=by rfl) (hst:(assignEach es X.env).findIdx? (·.1)=none:=by rfl):PG X (.Tuple es k pos) (QDi X.K n t):=by
 intro pins s σ H v u Q I r hw;obtain⟨a,xs,e1,hq,hl,hw⟩:=hw;subst e1;cases r;obtain⟨its,rv,ht,hz⟩:=I.tuple hq;refine assign_Tuple_tuple (I.ok.hd hc) ht (by simp[hn,← hl,rv.length]) hst λh' hx=>?_;have I1:Inv X pins σ H {s with heap:=h'}:=I.kept (t':=s.toks) λb o e=>hx b o (Zaa (Zy e)) e;exact h pins _ σ H xs _ Q I1 (by simpa using rv) hw
noncomputable def QaG(to ti:TE)(t:Qqf):TG:=λv σ H Q=>to σ H λo H1=>ti σ H1 λi H2=>t o i v H2 λH3=>Q σ H3
theorem Qgs{o i:Expr}{to ti:TE}{t:Qqf}(ho:PE X o to)(hi:PE X i ti)(hs:Qvo X t)
  (ha:∀v,assign (.Subscript o i pos) X.env v=(do
   let ov ← holding [v] (eval o X.env)
   let iv ← holding [v,ov] (eval i X.env)
   standAt pos
   holding [v,ov,iv] (setItem ov iv v)
   release [v,ov,iv] []):=by intro _;rfl):PG X (.Subscript o i pos) (QaG to ti t):=by
 intro pins s σ H v u Q I r h;rw[ha];refine wpAny_bind (wpAny_holding (thn (ho pins s σ H _ I h) λov s1=>exJ λx H1 I1 r1 q1=>?_));refine wpAny_bind (wpAny_holding (thn (hi pins s1 σ H1 _ I1 q1) λiv s2=>exJ λy H2 I2 r2 q2=>?_));refine wpAny_bind (wpAny_standAt (wpAny_bind (wpAny_holding (thn (hs pins s2 σ H2 x y v ov iv u _ I2 r1 r2 r q2) λ_ s3 Z=>?_))));obtain⟨H3,I3,q3⟩:=Z;exact wpAny_release ⟨σ,H3,I3,q3⟩
noncomputable def QeS(te:TE)(g:TG):TS:=λD σ H=>te σ H λx H1=>g x σ H1 D.nx
theorem Qff{tg e:Expr}{te:TE}{g:TG}(he:PE X e te)(hg:PG X tg g)(hs:swapsWithSole [tg] e pos.line X.env=pure false:=by rfl)(hw:swappedStores [tg] e X.env=pure none:=by rfl)
  (h1:(assignEach [tg] X.env).map (·.2)=[assign tg X.env]:=by rfl):PS X (.Assign [tg] e pos) (QeS te g):=by
 intro pins s σ H D I h;refine wpAny_Assign_stores (thn (he pins s σ H _ I h) λv s1 ⟨x,H1,I1,r1,q1⟩=>?_) hs hw;rw[h1];exact thn (hg pins s1 σ H1 x v _ I1 r1 q1) λ_ s2 q=>q
theorem QjI{i:Nat}{x:Str}{e:Expr}{te:TE}{pos':Pos}(hN:X.N.Nodup)(hi:X.N[i]? =some x)(hx:Loc X.env.scope x)(he:PE X e te)(hs:swapsWith e (some (.Name x pos')) pos.line X.env=pure false:=by rfl)(hf:X.fn x=true∨X.env.scope.names.lookup x=some .local :=by first | exact .inl rfl | exact .inr rfl | assumption):
  PS X (.Assign [.Name x pos'] e pos) (QeS te (QgV i)):=by
 intro pins s σ H D I h;refine wpAny_Assign_Name (thn (he pins s σ H _ I h) λv s1 ⟨y,H1,I1,r1,q1⟩=>?_) hs;exact QoT I1 hN hi hx r1 (λs2 I2=>⟨_,H1,I2,q1⟩) hf
noncomputable def QBC(to ti te:TE)(tget:V->V->Hp->VK->Prop)(tip:TIp)(tset:Qqf):TS:=λD σ H=>to σ H λo H1=>ti σ H1 λi H2=>tget o i H2 λx H3=>te σ H3 λy H4=>tip x y H4 λz H5=>tset o i z H5 λH6=>D.nx σ H6
def QAG(X:Cx)(t:V->V->Hp->VK->Prop):Prop:=
 ∀(pins:List (Addr×Obj)) (s:Shared) (σ:St) (H:Hp) (o i:V) (ov iv:Value) (Q:VK),Inv X pins σ H s->RelV o ov->RelV i iv->t o i H Q→
  wpAny (model X.prog X.w) X.A (getItem ov iv) (EP X pins σ Q) X.xe s
theorem Qzl{o i e:Expr}{to ti te:TE}{tget:V->V->Hp->VK->Prop}{tip:TIp}{tset:Qqf}{op:Operator}{tpos:Pos}(ho:PE X o to)(hi:PE X i ti)(hg:QAG X tget)(he:PE X e te)(hp:PIp X op tip)(hs:Qvo X tset)
  (ha:∀ov iv new,augStore i ov iv new=(do holding [new,ov,iv] (setItem ov iv new);release [new,ov,iv] [];pure .next):=by intros;rfl):PS X (.AugAssign (.Subscript o i tpos) op e pos) (QBC to ti te tget tip tset):=by
 intro pins s σ H D I h;refine wpAny_AugAssign_SubscriptAny (thn (ho pins s σ H _ I h) λov s1 ⟨x1,H1,I1,r1,q1⟩=>?_) ha;refine thn (hi pins s1 σ H1 _ I1 q1) λiv s2=>exJ λx2 H2 I2 r2 q2=>?_;refine thn (hg pins s2 σ H2 x1 x2 ov iv _ I2 r1 r2 q2) λold s3=>exJ λx3 H3 I3 r3 q3=>?_;refine thn (he pins s3 σ H3 _ I3 q3) λv s4=>exJ λx4 H4 I4 r4 q4=>?_;refine thn (hp pins s4 σ H4 x3 x4 old v _ I4 r3 r4 q4) λnew s5=>exJ λx5 H5 I5 r5 q5=>?_;exact thn (hs pins s5 σ H5 x1 x2 x5 ov iv new _ I5 r1 r2 r5 q5) λ_ s6 ⟨H6,I6,q6⟩=>⟨σ,H6,I6,q6⟩
end
section
variable {X:Cx}{pos:Pos}
noncomputable def QAA(c:TT)(tb:TS):TS:=λD σ H=>∃W:Nat->St->Hp->Prop,(∃m,W m σ H)/\∀m σ H,W m σ H→
 c σ H λb H1=>if b=true then ∃N:St->Hp->Prop,(∀σ' H',N σ' H'->∃m',m'<m/\W m' σ' H')/\tb {D with nx:=N,ct:=N,bk:=D.nx} σ H1 else D.nx σ H1
theorem Qw6{c:Expr}{body:List Stmt}{tc:TT}{tb:TS}(hp:PassesOwn (model X.prog X.w) X.A X.env X.xe)(hc:PT X c tc)(hb:PSs X body tb):PS X (.While c body [] pos) (QAA tc tb):=by
 intro pins s σ H D I h;obtain⟨W,⟨m0,w0⟩,turn⟩:=h;refine wpAny_While (codeAny_whileLoop (λn s'=>∃σ' H',Inv X pins σ' H' s'/\W n σ' H') ?_ m0 ⟨σ,H,I,w0⟩);rintro n s1 ⟨σ1,H1,I1,w1⟩;refine wpAny_passesOwn hp (thn (hc pins s1 σ1 H1 _ I1 (turn n σ1 H1 w1)) λb s2 Z=>?_);obtain⟨H2,I2,q2⟩:=Z;cases b with
 | true=>
  obtain⟨N,hN,q2⟩:=q2;rw[if_pos rfl];refine wpAny_passesOwn hp (thn (hb pins s2 σ1 H2 _ I2 q2) λf s3 q3=>?_);cases f with
  | next=>
   obtain⟨σ3,H3,I3,n3⟩:=q3;obtain⟨m',hm,w3⟩:=hN σ3 H3 n3;exact⟨m',hm,σ3,H3,I3,w3⟩
  | cont=>
   obtain⟨σ3,H3,I3,n3⟩:=q3;obtain⟨m',hm,w3⟩:=hN σ3 H3 n3;exact⟨m',hm,σ3,H3,I3,w3⟩
  | brk=>exact q3
  | ret v=>exact q3
 | false=>
  rw[if_neg ZaI];exact wpAny_execs_nil ⟨σ1,H2,I2,q2⟩
end
structure It where
 go:Nat->Hp->Prop
 yld:Nat->Hp->V->Hp->Prop
 stop:Nat->Hp->Prop
def Qei(X:Cx)(pins:List (Addr×Obj))(H:Hp)(b:Addr):Prop:=
 H b=none/\b≠X.env.locals/\b∉X.fs/\(b∈X.ex∨X.s₀.heap.objs.size<=b)/\(∀x c,X.env.cells.lookup x=some c->c≠b)/\∀p∈X.pn++pins,p.1≠b
theorem Inv.Qlk{X:Cx}{pins:List (Addr×Obj)}{σ:St}{H H':Hp}{s:Shared}{b:Addr}(I:Inv X pins σ H s)(hb:s.heap.objs.size<=b)(hn:H' b=none):Qei X pins H' b:=by
 refine⟨hn,ZbC (Zw I.lt hb),I.QCH hb,.inr (Zp I.sz hb),λx c e z=>?_,λp hp z=>?_⟩
 ·obtain⟨v,q⟩:=I.cell x c e;exact absurd (Zw q.lt (by rw[z];exact hb)) (Zag _)
 ·exact absurd (Zw (Zy (I.pin p hp).1) (by rw[z];exact hb)) (Zag _)
structure Turn (P:Program) (w:World) (K:Fgg) (tg:Expr) (J:It) (fp:LAd) (it:Addr) (tn:Nat->Heap->Prop):Prop where
 mem:it∈fp
 obj:∀i h,tn i h->∀b∈fp,∃o,h.get? b=some o/\∀v,o.data≠ .cell v
 keep:∀i h h',tn i h->(∀b∈fp,∀o,h.get? b=some o->h'.get? b=some o)->tn i h'
 item:∀(X:Cx),X.prog=P->X.w=w->X.K=K->X.calm=true->∀(i:Nat) (pins:List (Addr×Obj)) (s:Shared) (σ:St) (H:Hp) (E:Value->Shared->Prop),Inv X pins σ H s->(∀b∈fp,Qei X pins H b)->tn i s.heap->J.go i H→
  wpAny (model P w) X.A (pyNext (.ref it)) (λr s1=>∃u,r=some u∧
   wpAny (model P w) X.A (letOwnedTupleGo tg (.ref it) u) (λ_ s2=>∃x H',Inv X pins σ H' s2/\RelV x u/\J.yld i H x H'/\tn (i+1) s2.heap/\∀b∈fp,H' b=none) E s1) E s
 done:∀(X:Cx),X.prog=P->X.w=w->X.K=K->X.calm=true->∀(i:Nat) (pins:List (Addr×Obj)) (s:Shared) (σ:St) (H:Hp) (E:Value->Shared->Prop),Inv X pins σ H s->(∀b∈fp,Qei X pins H b)->tn i s.heap->J.stop i H→
  wpAny (model P w) X.A (pyNext (.ref it)) (λr s1=>r=none/\Inv X pins σ H s1) E s
 self:∀(A:Around) (i:Nat) (s:Shared) (Q:Value->Shared->Prop) (E:Value->Shared->Prop),tn i s.heap->Q (.ref it) s->wpAny (model P w) A (pyIter (.ref it)) Q E s
noncomputable abbrev TI:=St->Hp->(It->Hp->Prop)->Prop
def PIE(X:Cx)(pins:List (Addr×Obj))(σ:St)(tg:Expr)(R:It->Hp->Prop)(itv:Value)(s2:Shared):Prop:=
 ∃(it:Addr) (fp:LAd) (tn:Nat->Heap->Prop) (J:It) (H':Hp),itv= .ref it/\Inv X pins σ H' s2/\Turn X.prog X.w X.K tg J fp it tn/\tn 0 s2.heap/\(∀b∈fp,Qei X pins H' b)/\R J H'
def PI(X:Cx)(tg iter:Expr)(wi:TI):Prop:=
 ∀(pins:List (Addr×Obj)) (s:Shared) (σ:St) (H:Hp) (R:It->Hp->Prop),Inv X pins σ H s->wi σ H R→
  wpAny (model X.prog X.w) X.A (eval iter X.env) (λv s1=>wpAny (model X.prog X.w) X.A (pyIter v) (PIE X pins σ tg R) X.xe s1) X.xe s
theorem Qox{M:Model}{A:Around}{E:Value->Shared->Prop}{s:Shared}{tg:Expr}{it:Addr}{u:Value}{o:Obj}{n:String}{vs:Array Value}{Q:Unit->Shared->Prop}(ho:s.heap.get? it=some o)(hc:o.cls= .type n)(hd:o.data= .fields vs)
    (hn:["enumerate","zip","dict_itemiterator","dict_reverseitemiterator","odict_iterator","itertools.zip_longest","itertools.pairwise"].contains n=false) (hQ:Q () s):wpAny M A (letOwnedTupleGo tg (.ref it) u) Q E s:=by
  unfold letOwnedTupleGo
  cases tg<;>first
    | exact wpAny_pure hQ
    | (cases u<;>first
        | exact wpAny_pure hQ
        | (refine wpAny_bind (wpAny_load ho ?_)
           rw[hc,hd];show wpAny M A (if(["enumerate","zip","dict_itemiterator","dict_reverseitemiterator","odict_iterator","itertools.zip_longest","itertools.pairwise"].contains n && vs[0]? == some (rawInt _))=true then _ else _) Q E s;rw[if_neg (by intro h;rw[hn,Bool.false_and]at h;cases h)];exact wpAny_pure hQ))
noncomputable def Itl(K:Fgg)(a:Addr):It:=
 ⟨λi H=>∃xs x,SqL K H a xs/\xs[i]? =some x,λi H x H'=>H'=H/\∀xs,SqL K H a xs->xs[i]? =some x,λi H=>∃xs,SqL K H a xs/\xs.length<=i⟩
noncomputable def Itt(K:Fgg)(a:Addr):It:=
 ⟨λi H=>∃xs x,SqT K H a xs/\xs[i]? =some x,λi H x H'=>H'=H/\∀xs,SqT K H a xs->xs[i]? =some x,λi H=>∃xs,SqT K H a xs/\xs.length<=i⟩
noncomputable def Itr(lo:Int)(n:Nat):It:=⟨λi _=>i<n,λi H x H'=>H'=H/\x= .int (lo+i),λi _=>n<=i⟩
theorem Qtq{P:Program}{w:World}{K:Fgg}{tg:Expr}(a it:Addr):Turn P w K tg (Itl K a) [it] it (λi h=>h.IsListIter it a i) where
 mem:=by simp
 obj:=λi h st b hb=>by
  have e:b=it:=by simpa using hb
  subst e;obtain⟨o,e,c,d⟩:=st;exact⟨o,e,λv z=>by rw[d]at z;cases z⟩
 keep:=λi h h' st k=>st.at λo e=>k it (by simp) o e
 item:=by
  intro X hP hw hK hc i pins s σ H E I hf st hg;subst hP hw hK;obtain⟨xs,x,hq,hx⟩:=hg;obtain⟨its,rv,p,hz⟩:=I.list hq;obtain⟨u,hu,ru⟩:=rv.get hx;obtain⟨f0,f1,f2,f3,f4,f5⟩:=hf it (by simp);refine wpAny_pyNext_list_item st p.isList (x:=u) (by simpa using hu) λh' st' sb=>?_;have I1:Inv X pins σ H {s with heap:=h'}:=I.turned (t':=s.toks) (λb o hb e=>(sb.2 b hb).trans e) f0 f1 f3 f4 f5;obtain⟨o,e,c,d⟩:=id st';exact⟨u,rfl,Qox (s:={s with heap:=h'}) e c d (by decide) ⟨x,H,I1,ru,⟨rfl,λys hy=>by rw[I.Qd1 hy hq];exact hx⟩,st',λb hb=>(hf b hb).1⟩⟩
 done:=by
  intro X hP hw hK hc i pins s σ H E I hf st hg;subst hP hw hK;obtain⟨xs,hq,hx⟩:=hg;obtain⟨its,rv,p,hz⟩:=I.list hq;obtain⟨f0,f1,f2,f3,f4,f5⟩:=hf it (by simp);have hl:=rv.length;exact wpAny_pyNext_list_end (I.ok.hd hc) st p.isList (by simp;omega) λh' eb=>⟨rfl,I.turned (t':=s.toks) (λb o hb e=>eb b o hb e) f0 f1 f3 f4 f5⟩
 self:=λ_ _ _ _ _ st h=>wpAny_pyIter_listiter st h
theorem Qsv{P:Program}{w:World}{K:Fgg}{tg:Expr}(a it:Addr):Turn P w K tg (Itt K a) [it] it (λi h=>h.IsTupleIter it a i) where
 mem:=by simp
 obj:=λi h st b hb=>by
  have e:b=it:=by simpa using hb
  subst e;obtain⟨o,e,c,d⟩:=st;exact⟨o,e,λv z=>by rw[d]at z;cases z⟩
 keep:=λi h h' st k=>st.at λo e=>k it (by simp) o e
 item:=by
  intro X hP hw hK hc i pins s σ H E I hf st hg;subst hP hw hK;obtain⟨xs,x,hq,hx⟩:=hg;obtain⟨its,rv,p,hz⟩:=I.tuple hq;obtain⟨u,hu,ru⟩:=rv.get hx;obtain⟨f0,f1,f2,f3,f4,f5⟩:=hf it (by simp);refine wpAny_pyNext_tuple_item st (show s.heap.IsTuple a its.toArray from p) (x:=u) (by simpa using hu) λh' st' sb=>?_;have I1:Inv X pins σ H {s with heap:=h'}:=I.turned (t':=s.toks) (λb o hb e=>(sb.2 b hb).trans e) f0 f1 f3 f4 f5;obtain⟨o,e,c,d⟩:=id st';exact⟨u,rfl,Qox (s:={s with heap:=h'}) e c d (by decide) ⟨x,H,I1,ru,⟨rfl,λys hy=>by rw[I.Qtd hy hq];exact hx⟩,st',λb hb=>(hf b hb).1⟩⟩
 done:=by
  intro X hP hw hK hc i pins s σ H E I hf st hg;subst hP hw hK;obtain⟨xs,hq,hx⟩:=hg;obtain⟨its,rv,p,hz⟩:=I.tuple hq;obtain⟨f0,f1,f2,f3,f4,f5⟩:=hf it (by simp);have hl:=rv.length;exact wpAny_pyNext_tuple_end (I.ok.hd hc) st (show s.heap.IsTuple a its.toArray from p) (by simp;omega) λh' eb=>⟨rfl,I.turned (t':=s.toks) (λb o hb e=>eb b o hb e) f0 f1 f3 f4 f5⟩
 self:=λ_ _ _ _ _ st h=>wpAny_pyIter_tupleiter st h
theorem Qsi{P:Program}{w:World}{K:Fgg}{tg:Expr}(it:Addr)(lo:Int)(n:Nat):Turn P w K tg (Itr lo n) [it] it (λi h=>IsRangeIter h it (lo+(i:Nat)*1) ((n:Int)-(i:Nat)) 1) where
 mem:=by simp
 obj:=λi h st b hb=>by
  have e:b=it:=by simpa using hb
  subst e;exact⟨_,st,λv z=>by
   have z':Data.fields _=Data.cell v:=z;cases z'⟩
 keep:=λi h h' st k=>k it (by simp) _ st
 item:=by
  intro X hP hw hK hc i pins s σ H E I hf st hg;subst hP hw hK;obtain⟨f0,f1,f2,f3,f4,f5⟩:=hf it (by simp);have W:=Walks.range (prog:=X.prog) (w:=X.w) (I.ok.hd hc) it lo 1 n;refine W.item i s _ _ hg st λv h' tk hv st' kk=>?_;obtain⟨t,rfl⟩:=hv;have I1:Inv X pins σ H {s with heap:=h',toks:=tk}:=I.turned (λb o hb e=>kk b o (by simpa using hb) e) f0 f1 f3 f4 f5;refine⟨_,rfl,Qox (s:={s with heap:=h',toks:=tk}) (n:= "range_iterator") st' rfl rfl (by decide) ⟨.int (lo+i),H,I1,⟨t,?_⟩,⟨rfl,rfl⟩,st',λb hb=>(hf b hb).1⟩⟩;rw[ZU]
 done:=by
  intro X hP hw hK hc i pins s σ H E I hf st hg;subst hP hw hK;obtain⟨f0,f1,f2,f3,f4,f5⟩:=hf it (by simp);exact wpAny_pyNext_range_end (I.ok.hd hc) st (by have:n<=i:=hg;omega) λh' eb=>⟨rfl,I.turned (t':=s.toks) (λb o hb e=>eb b o hb e) f0 f1 f3 f4 f5⟩
 self:=λ_ _ _ _ _ st h=>wpAny_pyIter_rangeiter st h
end L2
namespace L2
open PySem PySem.Spec PyProof.Rows
section
variable {X:Cx}{tg:Expr}
theorem Qqp{pins:List (Addr×Obj)}{σ:St}{H:Hp}{s:Shared}{R:It->Hp->Prop}{E:Value->Shared->Prop}{lo hi:Int}{t u v:Tok}{tk:Nat}(I:Inv X pins σ H s)(h1: -(2^62)<=lo)(h2:lo<2^62)(h3: -(2^62)<=hi)(h4:hi<2^62)
  (q:R (Itr lo (hi-lo).toNat) H):wpAny (model X.prog X.w) X.A (pyIter (.ref s.heap.objs.size)) (PIE X pins σ tg R) E {s with heap:=s.heap.push {cls:= .type "range",data:= .fields #[.int lo t,.int hi u,.int 1 v]},toks:=tk}:=by
 refine wpAny_pyIter_range (IsRange.new ..) (small_one h1 h2 h3 h4) ?_;have I1:Inv X pins σ H {s with heap:=s.heap.push {cls:= .type "range",data:= .fields #[.int lo t,.int hi u,.int 1 v]},toks:=tk}:=I.kept λb o e=>Zb _ e
 refine⟨(s.heap.push {cls:= .type "range",data:= .fields #[.int lo t,.int hi u,.int 1 v]}).objs.size,[(s.heap.push {cls:= .type "range",data:= .fields #[.int lo t,.int hi u,.int 1 v]}).objs.size],_,_,H,rfl,
  I1.kept (t':=tk) λb o e=>Zb _ e,Qsi _ lo (hi-lo).toNat,?_,λb hb=>?_,q⟩
 ·have e1:lo+((0:Nat):Int)*1=lo:=by simp
  have e2:(((hi-lo).toNat:Nat):Int)-((0:Nat):Int)=Builtin.Range.rangeSize lo hi 1:=by rw[rangeSize_one];split<;>omega
  show IsRangeIter _ _ (lo+((0:Nat):Int)*1) ((((hi-lo).toNat:Nat):Int)-((0:Nat):Int)) 1;rw[e1,e2];exact ZE _ rfl
 ·have e:b=(s.heap.push {cls:= .type "range",data:= .fields #[.int lo t,.int hi u,.int 1 v]}).objs.size:=by simpa using hb
  subst e;exact I1.Qlk (Zh _) (I1.hok.fresh (Zh _))
noncomputable def QCe(ta:TA):TI:=λσ H R=>ta σ H λvs H1=>∃j:Int,vs=[.int j]/\ -(2^62)<=j/\j<2^62/\R (Itr 0 j.toNat) H1
noncomputable def QBu(ta:TA):TI:=λσ H R=>ta σ H λvs H1=>∃i j:Int,vs=[.int i,.int j]/\(-(2^62)<=i/\i<2^62/\ -(2^62)<=j/\j<2^62)/\R (Itr i (j-i).toNat) H1
theorem Quk{a:Expr}{ta:TA}{p pos:Pos}(hg:Gl X "range")(hm:X.mg "range" =none)(ha:PA X [a] ta)(hs:starEach [a] X.env=[(false,eval a X.env)]:=by rfl):PI X tg (.Call (.Name "range" p) [a] [] pos) (QCe ta):=by
 intro pins s σ H R I h;refine Call_ (Qc9 I hg hm boot_range (ZV (thn (ha pos pins s σ H _ I h) λus s1 ⟨vs,H1,I1,r1,q1⟩=>?_) hs rfl));obtain⟨j,e,q1,q2,q⟩:=q1;subst e;cases r1 with
 | cons r rr=>
  cases rr;obtain⟨t,rfl⟩:=r;exact call_range_1 (Qqp I1 ⋯ ⋯ q1 q2 (by simpa using q))
theorem QuE{a b:Expr}{ta:TA}{p pos:Pos}(hg:Gl X "range")(hm:X.mg "range" =none)(ha:PA X [a,b] ta)(hs:starEach [a,b] X.env=[(false,eval a X.env),(false,eval b X.env)]:=by rfl)(hs2:starEach [b] X.env=[(false,eval b X.env)]:=by rfl):
  PI X tg (.Call (.Name "range" p) [a,b] [] pos) (QBu ta):=by
 intro pins s σ H R I h;refine Call_ (Qc9 I hg hm boot_range (ZV (thn (ha pos pins s σ H _ I h) λus s1 ⟨vs,H1,I1,r1,q1⟩=>?_) (by rw[hs,hs2]) (by rw[hs2];rfl)));obtain⟨i,j,e,⟨q1,q2,q3,q4⟩,q⟩:=q1;subst e;cases r1 with
 | cons r rr=>
  cases rr with
  | cons r' rr=>
   cases rr;obtain⟨t,rfl⟩:=r;obtain⟨t',rfl⟩:=r';exact call_range_2 (Qqp I1 q1 q2 q3 q4 q)
noncomputable def QC5(wi:TI)(g:TG)(tb:TS):TS:=λD σ H=>wi σ H λJ H1=>∃W:Nat->Nat->St->Hp->Prop,(∃m,W 0 m σ H1)/\∀i m σ H,W i m σ H→
 (J.stop i H/\D.nx σ H)∨(J.go i H/\∃N:St->Hp->Prop,(∀σ' H',N σ' H'->∃m',m'<m/\W (i+1) m' σ' H')/\∀x H',J.yld i H x H'->g x σ H' λσ2 H2=>tb {D with nx:=N,ct:=N,bk:=D.nx} σ2 H2)
noncomputable def Qjo(fp:LAd)(h:Heap):List (Addr×Obj):=fp.filterMap λb=>(h.get? b).map λo=>(b,o)
theorem Qiv{fp:LAd}{h:Heap}{b:Addr}{o:Obj}(hb:b∈fp)(e:h.get? b=some o):(b,o)∈Qjo fp h:=Zbx.mpr ⟨b,hb,by rw[e];rfl⟩
theorem Qug{fp:LAd}{h:Heap}{p:Addr×Obj}(hp:p∈Qjo fp h):p.1∈fp/\h.get? p.1=some p.2:=by
 obtain⟨b,hb,e⟩:=Zbx.mp hp;cases q:h.get? b with
 | none=>rw[q]at e;cases e
 | some o=>
  rw[q]at e;have e':(b,o)=p:=Option.some.inj e;subst e';exact⟨hb,q⟩
theorem Inv.pinned{pins:List (Addr×Obj)}{σ:St}{H:Hp}{s:Shared}{fp:LAd}(I:Inv X pins σ H s)(hf:∀b∈fp,Qei X pins H b)(ho:∀b∈fp,∃o,s.heap.get? b=some o/\∀v,o.data≠ .cell v):Inv X (pins++Qjo fp s.heap) σ H s:=
 I.Qrs λp hp=>(ZH.mp hp).elim (λz=>I.pin p (Zf _ z)) λz=>by
  obtain⟨hb,e⟩:=Qug z;obtain⟨f0,f1,f2,_⟩:=hf p.1 hb;obtain⟨o,e',d⟩:=ho p.1 hb;rw[e]at e';cases e';exact⟨e,f0,f1,f2,d⟩
theorem Inv.QiI{pins pl:List (Addr×Obj)}{σ:St}{H:Hp}{s:Shared}(I:Inv X (pins++pl) σ H s):Inv X pins σ H s:=I.Qrs λp hp=>I.pin p (Zf _ (Zl _ hp))
theorem QA9{iter:Expr}{body:List Stmt}{wi:TI}{g:TG}{tb:TS}{pos:Pos}(hp:PassesOwn (model X.prog X.w) X.A X.env X.xe)(hc:X.calm=true)(hi:PI X tg iter wi)(hg:PG X tg g)(hb:PSs X body tb)
  (hs:∀x,foldedSetIterable iter X.env x=pure x:=by intro _;rfl):PS X (.For tg iter body [] pos) (QC5 wi g tb):=by
 intro pins s σ H D I h;refine wpAny_For (thn (hi pins s σ H _ I h) λv s1 h1=>thn h1 λitv s2 h2=>?_) hs;obtain⟨it,fp,tn,J,H2,e,I2,T,st2,f2,W,⟨m0,w0⟩,turn⟩:=h2;subst e;have stat:∀{H':Hp},(∀b∈fp,H' b=none)->∀b∈fp,Qei X pins H' b:=λhn b hb=>⟨hn b hb,(f2 b hb).2⟩;refine codeAny_forLoop_any (λn s'=>∃i σ' H',Inv X pins σ' H' s'/\tn i s'.heap/\(∀b∈fp,H' b=none)/\W i n σ' H') ?_ m0 ⟨0,σ,H2,I2,st2,λb hb=>(f2 b hb).1,w0⟩;rintro n s3 ⟨i,σ3,H3,I3,st3,fr3,w3⟩;rcases turn i n σ3 H3 w3 with⟨stop,qn⟩ | ⟨go,N,hN,step⟩
 ·refine wpAny_passesOwn hp (thn (T.done X rfl rfl rfl hc i pins s3 σ3 H3 X.xe I3 (stat fr3) st3 stop) λr s4 Z=>?_);obtain⟨hr,I4⟩:=Z;subst hr;exact wpAny_execs_nil ⟨σ3,H3,I4,qn⟩
 ·refine wpAny_passesOwn hp (thn (T.item X rfl rfl rfl hc i pins s3 σ3 H3 X.xe I3 (stat fr3) st3 go) λr s4 Z=>?_);obtain⟨u,hr,h4⟩:=Z;subst hr;refine wpAny_passesOwn hp (thn h4 λ_ s5 Z=>?_);obtain⟨x,H5,I5,r5,y5,st5,fr5⟩:=Z;have I5':=I5.pinned (stat fr5) (T.obj _ _ st5);refine wpAny_passesOwn hp (thn (hg _ s5 σ3 H5 x u _ I5' r5 (step x H5 y5)) λ_ s6 Z=>?_);obtain⟨σ6,H6,I6,q6⟩:=Z;refine wpAny_passesOwn hp (thn (hb _ s6 σ6 H6 _ I6 q6) λf s7 q7=>?_);have again:∀{σ7:St}{H7:Hp},Inv X (pins++Qjo fp s5.heap) σ7 H7 s7->N σ7 H7->∃m,m<n/\∃i σ' H',Inv X pins σ' H' s7/\tn i s7.heap/\(∀b∈fp,H' b=none)/\W i m σ' H':=λ{σ7 H7} I7 n7=>by
   obtain⟨m',hm,w7⟩:=hN σ7 H7 n7;refine⟨m',hm,i+1,σ7,H7,I7.QiI,T.keep _ _ _ st5 λb hb o e=>(I7.pin (b,o) (Zf _ (Zf _ (Qiv hb e)))).1,λb hb=>?_,w7⟩;obtain⟨o,e,d⟩:=T.obj _ _ st5 b hb;exact(I7.pin (b,o) (Zf _ (Zf _ (Qiv hb e)))).2.1
  cases f with
  | next=>obtain⟨σ7,H7,I7,n7⟩:=q7;exact again I7 n7
  | cont=>obtain⟨σ7,H7,I7,n7⟩:=q7;exact again I7 n7
  | brk=>obtain⟨σ7,H7,I7,q7⟩:=q7;exact⟨σ7,H7,I7.QiI,q7⟩
  | ret v=>obtain⟨x7,σ7,H7,I7,r7,q7⟩:=q7;exact⟨x7,σ7,H7,I7.QiI,r7,q7⟩
end
end L2
namespace L2
open PySem PySem.Spec PyProof.Rows
noncomputable abbrev R2:=V->V->Hp->VK->Prop
def OpR(X:Cx)(f:Value->Value->Sem Value)(r:R2):Prop:=
 ∀(pins:List (Addr×Obj)) (s:Shared) (σ:St) (H:Hp) (x y:V) (v u:Value) (Q:VK),Inv X pins σ H s->RelV x v->RelV y u->r x y H Q→
  wpAny (model X.prog X.w) X.A (f v u) (EP X pins σ Q) X.xe s
def UnR(X:Cx)(f:Value->Sem Value)(r:V->Hp->VK->Prop):Prop:=
 ∀(pins:List (Addr×Obj)) (s:Shared) (σ:St) (H:Hp) (x:V) (v:Value) (Q:VK),Inv X pins σ H s->RelV x v->r x H Q→
  wpAny (model X.prog X.w) X.A (f v) (EP X pins σ Q) X.xe s
def Qc7(X:Cx)(f:Value)(r:List V->Hp->VK->Prop):Prop:=
 ∀(pins:List (Addr×Obj)) (s:Shared) (σ:St) (H:Hp) (xs:List V) (us:List Value) (Q:VK),Inv X pins σ H s->QL xs us->r xs H Q→
  wpAny (model X.prog X.w) X.A (call f us) (EP X pins σ Q) X.xe s
def QDl(X:Cx)(r:V->Hp->(Bool->Hp->Prop)->Prop):Prop:=
 ∀(pins:List (Addr×Obj)) (s:Shared) (σ:St) (H:Hp) (x:V) (v:Value) (Q:Bool->Hp->Prop),Inv X pins σ H s->RelV x v->r x H Q→
  wpAny (model X.prog X.w) X.A (truthy v) (TP X pins σ Q) X.xe s
noncomputable def tOp(r:R2)(ta tb:TE):TE:=λσ H Q=>ta σ H λx H1=>tb σ H1 λy H2=>r x y H2 Q
noncomputable def tUn(r:V->Hp->VK->Prop)(ta:TE):TE:=λσ H Q=>ta σ H λx H1=>r x H1 Q
noncomputable def rI(C:Int->Int->Prop)(g:Int->Int->V):R2:=λx y H Q=>∃i j,x= .int i/\y= .int j/\C i j/\Q (g i j) H
noncomputable def rI0(g:Int->Int->V):R2:=λx y H Q=>∃i j,x= .int i/\y= .int j/\Q (g i j) H
noncomputable def rU(g:Int->V):V->Hp->VK->Prop:=λx H Q=>∃i,x= .int i/\Q (g i) H
section
variable {X:Cx}{a b c:Expr}{ta tb tc:TE}{pos:Pos}
theorem Qvy(ha:PE X a ta)(hb:PE X b tb){pins:List (Addr×Obj)}{s:Shared}{σ:St}{H:Hp}{R:V->V->Hp->Prop}(I:Inv X pins σ H s)
  (h:ta σ H λx H1=>tb σ H1 λy H2=>R x y H2) {Q:Value->Shared->Prop}{f:Value->Value->Sem Value}
  (hf:∀v u s2 x y H2,Inv X pins σ H2 s2->RelV x v->RelV y u->R x y H2->wpAny (model X.prog X.w) X.A (f v u) Q X.xe s2):
  wpAny (model X.prog X.w) X.A (eval a X.env) (λv s₁=>wpAny (model X.prog X.w) X.A (eval b X.env) (λu s₂=>wpAny (model X.prog X.w) X.A (f v u) Q X.xe s₂) X.xe s₁) X.xe s:=by
 refine thn (ha pins s σ H _ I h) λv s1=>exJ λx H1 I1 r1 q1=>?_;refine thn (hb pins s1 σ H1 _ I1 q1) λu s2=>exJ λy H2 I2 r2 q2=>?_;exact hf v u s2 x y H2 I2 r1 r2 q2
theorem Qsp{op:Operator}{r:R2}(ho:OpR X (binaryOp op) r)(ha:PE X a ta)(hb:PE X b tb):PE X (.BinOp a op b pos) (tOp r ta tb):=by
 intro pins s σ H Q I h;exact wpAny_BinOp (Qvy ha hb I h λv u s2 x y H2 I2 rx ry q=>ho pins s2 σ H2 x y v u Q I2 rx ry q)
theorem QB9{op:UnaryOp}{r:V->Hp->VK->Prop}(ho:UnR X (unaryOp op) r)(ha:PE X a ta):PE X (.UnaryOp op a pos) (tUn r ta):=by
 intro pins s σ H Q I h;exact UnaryOp_ (thn (ha pins s σ H _ I h) λv s1 ⟨x,H1,I1,r1,q1⟩=>ho pins s1 σ H1 x v Q I1 r1 q1)
theorem QCB{op:Operator}{r:R2}(ho:OpR X (inplaceOp op) r){pins:List (Addr×Obj)}{s:Shared}{σ:St}{H:Hp}{x y:V}{v u:Value}{Q:VK}(I:Inv X pins σ H s)
  (rx:RelV x v) (ry:RelV y u) (q:r x y H Q):wpAny (model X.prog X.w) X.A (inplaceOp op v u) (EP X pins σ Q) X.xe s:=ho pins s σ H x y v u Q I rx ry q
theorem opI{f:Value->Value->Sem Value}{C:Int->Int->Prop}{g:Int->Int->Int}
  (rule:∀(i j:Int) (t u:Tok) (s:Shared) (Q:Value->Shared->Prop) (E:Value->Shared->Prop),C i j->Q (.int (g i j) s.toks) {s with toks:=s.toks+1}->wpAny (model X.prog X.w) X.A (f (.int i t) (.int j u)) Q E s):
  OpR X f (rI C λi j=> .int (g i j)):=by
 intro pins s σ H x y v u Q I rx ry h;obtain⟨i,j,rfl,rfl,hc,q⟩:=h;obtain⟨t,rfl⟩:=rx;obtain⟨t',rfl⟩:=ry;exact rule i j t t' s _ _ hc ⟨.int (g i j),H,I.tok _,⟨_,rfl⟩,q⟩
theorem QsR{f:Value->Value->Sem Value}{g:Int->Int->Int}
  (rule:∀(i j:Int) (t u:Tok) (s:Shared) (Q:Value->Shared->Prop) (E:Value->Shared->Prop),Q (.int (g i j) s.toks) {s with toks:=s.toks+1}->wpAny (model X.prog X.w) X.A (f (.int i t) (.int j u)) Q E s):
  OpR X f (rI0 λi j=> .int (g i j)):=by
 intro pins s σ H x y v u Q I rx ry h;obtain⟨i,j,rfl,rfl,q⟩:=h;obtain⟨t,rfl⟩:=rx;obtain⟨t',rfl⟩:=ry;exact rule i j t t' s _ _ ⟨.int (g i j),H,I.tok _,⟨_,rfl⟩,q⟩
theorem Qr6{f:Value->Value->Sem Value}{g:Int->Int->Bool}
  (rule:∀(i j:Int) (t u:Tok) (s:Shared) (Q:Value->Shared->Prop) (E:Value->Shared->Prop),Q (.bool (g i j)) s->wpAny (model X.prog X.w) X.A (f (.int i t) (.int j u)) Q E s):
  OpR X f (rI0 λi j=> .bl (g i j)):=by
 intro pins s σ H x y v u Q I rx ry h;obtain⟨i,j,rfl,rfl,q⟩:=h;obtain⟨t,rfl⟩:=rx;obtain⟨t',rfl⟩:=ry;exact rule i j t t' s _ _ ⟨.bl (g i j),H,I,rfl,q⟩
theorem Qr5(k:Nat):(0:Int)<=2^k:=by
 rw[two_pow_cast];exact Int.natCast_nonneg _
theorem QAq:OpR X (binaryOp .Add) (rI0 λi j=> .int (i+j)):=QsR λ_ _ _ _ _ _ _ q=>add_int q
theorem Qzt:OpR X (binaryOp .Sub) (rI0 λi j=> .int (i-j)):=QsR λ_ _ _ _ _ _ _ q=>sub_int q
theorem QzR:OpR X (binaryOp .RShift) (rI (λ_ j=>0<=j) λi j=> .int (i / 2^j.toNat)):=opI λi j _ _ _ _ _ hc q=>
 rshift_int hc (by rw[ZbW i (Qr5 _)];exact q)
theorem QxU:OpR X (inplaceOp .Add) (rI0 λi j=> .int (i+j)):=QsR λ_ _ _ _ _ _ _ q=>iadd_int q
theorem QyE:OpR X (inplaceOp .Sub) (rI0 λi j=> .int (i-j)):=QsR λ_ _ _ _ _ _ _ q=>isub_int q
theorem unI{f:Value->Sem Value}{g:Int->Int}
  (rule:∀(i:Int) (t:Tok) (s:Shared) (Q:Value->Shared->Prop) (E:Value->Shared->Prop),Q (.int (g i) s.toks) {s with toks:=s.toks+1}->wpAny (model X.prog X.w) X.A (f (.int i t)) Q E s):
  UnR X f (rU λi=> .int (g i)):=by
 intro pins s σ H x v Q I rx h;obtain⟨i,rfl,q⟩:=h;obtain⟨t,rfl⟩:=rx;exact rule i t s _ _ ⟨.int (g i),H,I.tok _,⟨_,rfl⟩,q⟩
theorem QBp:UnR X (unaryOp .USub) (rU λi=> .int (-i)):=unI λ_ _ _ _ _ q=>neg_int q
end
section
variable {X:Cx}{a b c:Expr}{ta tb tc:TE}{pos:Pos}
theorem Ql8{pins:List (Addr×Obj)}{σ:St}{H:Hp}{s:Shared}{Q:VK}{k k':Bool}(I:Inv X pins σ H s)(q:Q (.bl k) H)(e:k=k'):EP X pins σ Q (.bool k') s:=by
 subst e;exact⟨.bl k,H,I,rfl,q⟩
theorem QBF:OpR X (compareOp .Lt) (rI0 λi j=> .bl (decide (i<j))):=Qr6 λ_ _ _ _ _ _ _ q=>lt_int q
theorem QBE:OpR X (compareOp .LtE) (rI0 λi j=> .bl (decide (i<=j))):=Qr6 λ_ _ _ _ _ _ _ q=>le_int q
theorem QBH:OpR X (compareOp .Gt) (rI0 λi j=> .bl (decide (j<i))):=Qr6 λ_ _ _ _ _ _ _ q=>gt_int q
theorem QBr:OpR X (compareOp .GtE) (rI0 λi j=> .bl (decide (j<=i))):=Qr6 λ_ _ _ _ _ _ _ q=>ge_int q
theorem QA2:OpR X (compareOp .Is) (λx y H Q=>y= .non/\Q (.bl (decide (x= .non))) H):=by
 intro pins s σ H x y v u Q I rx ry h;obtain⟨rfl,q⟩:=h;cases ry;refine is_none_gen (Ql8 I q ?_)
 cases x<;>first
  | (cases rx;rfl)
  | (obtain⟨t,rfl⟩:=rx;rfl)
theorem QxX:OpR X (compareOp .IsNot) (λx y H Q=>y= .non/\Q (.bl (!decide (x= .non))) H):=by
 intro pins s σ H x y v u Q I rx ry h;obtain⟨rfl,q⟩:=h;cases ry;refine isnot_none_gen (Ql8 I q ?_)
 cases x<;>first
  | (cases rx;rfl)
  | (obtain⟨t,rfl⟩:=rx;rfl)
theorem OpR.or{f:Value->Value->Sem Value}{r r':R2}(h:OpR X f r)(h':OpR X f r'):OpR X f (λx y H Q=>r x y H Q∨r' x y H Q):=by
 intro pins s σ H x y v u Q I rx ry q;rcases q with q | q
 ·exact h pins s σ H x y v u Q I rx ry q
 ·exact h' pins s σ H x y v u Q I rx ry q
theorem Qyv{op:CmpOp}{r:R2}(ho:OpR X (compareOp op) r)(ha:PE X a ta)(hb:PE X b tb)(hm:behindInMarks op b=false):PE X (.Compare a [op] [b] pos) (tOp r ta tb):=by
 intro pins s σ H Q I h;exact wpAny_Compare1 (Qvy ha hb I h λv u s2 x y H2 I2 rx ry q=>ho pins s2 σ H2 x y v u Q I2 rx ry q) hm
noncomputable def QCi(t:TE):TT:=λσ H Q=>t σ H λx H'=>∃k,x= .bl k/\Q k H'
theorem QxC{op:CmpOp}{r:R2}(ho:OpR X (compareOp op) r)(ha:PE X a ta)(hb:PE X b tb)(hm:behindInMarks op b=false):PT X (.Compare a [op] [b] pos) (QCi (tOp r ta tb)):=by
 intro pins s σ H Q I h;refine wpAny_isTrue_Compare1 (thn (ha pins s σ H _ I h) λv s1 ⟨x,H1,I1,r1,q1⟩=>thn (hb pins s1 σ H1 _ I1 q1) λu s2 ⟨y,H2,I2,r2,q2⟩=>
  thn (ho pins s2 σ H2 x y v u _ I2 r1 r2 q2) λc s3 ⟨z,H3,I3,r3,k,e,q3⟩=>?_) hm
 subst e;cases r3;exact wpAny_truthy_bool ⟨H3,I3,q3⟩
def QvA(K:Fgg)(x:V)(H:Hp)(k:Bool):Prop:=
 match x with
 | .non=>k=false
 | .bl b=>k=b
 | .int i=>k=(i != 0)
 | .str y=>y.length<=sizeLine/\k=((y.length:Int) != 0)
 | .byt y=>y.size<=sizeLine/\k=((y.size:Int) != 0)
 | .ref p=>(∃xs,SqL K H p xs/\k= !xs.isEmpty)∨(∃xs,SqT K H p xs/\k= !xs.isEmpty)∨∃kvs,H p=some (.dK kvs)/\k= !kvs.isEmpty
 | _=>False
theorem QrQ{κ:Type}{kvs:List (κ×V)}{vs:List (κ×Value)}(r:KV kvs vs):(!vs.isEmpty)= !kvs.isEmpty:=by
 cases r<;>rfl
theorem Qmn{xs:List V}{its:List Value}(r:QL xs its):(!its.toArray.isEmpty)= !xs.isEmpty:=by
 cases r<;>simp
theorem QhR:(sizeLine:Nat)<2^63:=by rw[sizeLine_eq];decide
theorem Qmd:QDl X (λx H Q=>∃k,QvA X.K x H k/\Q k H):=by
 intro pins s σ H x v Q I rx h;obtain⟨k,e,q⟩:=h;have hl:=QhR;have hs:sizeLine=16777216:=sizeLine_eq;cases x with
 | non=>
  cases rx;have e':k=false:=e;subst e';exact truthy_none ⟨H,I,q⟩
 | bl b=>
  cases rx;have e':k=b:=e;subst e';exact wpAny_truthy_bool ⟨H,I,q⟩
 | int i=>
  obtain⟨t,rfl⟩:=rx;have e':k=(i != 0):=e;subst e';exact PySem.P.truthy_int ⟨H,I,q⟩
 | str y=>
  obtain⟨t,rfl⟩:=rx;obtain⟨hy,e'⟩:y.length<=sizeLine/\k=((y.length:Int) != 0):=e;subst e';exact PySem.P.truthy_str ⋯ ⟨H,I.tok _,q⟩
 | byt y=>
  obtain⟨t,rfl⟩:=rx;obtain⟨hy,e'⟩:y.size<=sizeLine/\k=((y.size:Int) != 0):=e;subst e';exact PySem.W.truthy_bytes ⋯ ⟨H,I.tok _,q⟩
 | ref p=>
  cases rx;have e':(∃xs,SqL X.K H p xs/\k= !xs.isEmpty)∨(∃xs,SqT X.K H p xs/\k= !xs.isEmpty)∨∃kvs,H p=some (.dK kvs)/\k= !kvs.isEmpty:=e;rcases e' with⟨xs,hx,e'⟩ | ⟨xs,hx,e'⟩ | ⟨kvs,hx,e'⟩
  ·subst e';obtain⟨its,r,pl,hz⟩:=I.list hx;have hlen:=r.length;exact wpAny_truthy_list pl.isList (by simp only[Zv];omega) ⟨H,I.tok _,by rw[Qmn r];exact q⟩
  ·subst e';obtain⟨its,r,pl,hz⟩:=I.tuple hx;have hlen:=r.length;exact truthy_tuple pl (by simp only[Zv];omega) ⟨H,I.tok _,by rw[Qmn r];exact q⟩
  ·subst e';obtain⟨hz,hS,vs,r,m⟩:kvs.length<=sizeLine/\(p == sysModules)=false/\∃vs,KV kvs vs/\s.heap.DictOf (QmS X.prog X.w) p vs:=I.hok p _ hx;have hlen:kvs.length=vs.length:=Paired.length r;exact wpAny_truthy_dict hS m ⋯ ⟨H,I.tok _,by rw[QrQ r];exact q⟩
 | _=>exact(show False from e).elim
theorem QwL(ha:PE X a ta)(he:∀whole,isTrue a X.env whole=(do let v ← whole;standAt a.pos;holding [v] (truthy v))):
  PT X a (λσ H Q=>ta σ H λx H'=>∃k,QvA X.K x H' k/\Q k H'):=by
 intro pins s σ H Q I h;exact isTrue_plain (thn (ha pins s σ H _ I h) λv s1 ⟨x,H1,I1,r1,q1⟩=>Qmd pins s1 σ H1 x v Q I1 r1 q1) (he _)
theorem vals1{x:V}{us:List Value}(r:QL [x] us):∃u,us=[u]/\RelV x u:=by
 cases r with
 | cons r1 r2=>cases r2;exact⟨_,rfl,r1⟩
theorem vals2{x y:V}{us:List Value}(r:QL [x,y] us):∃u w',us=[u,w']/\RelV x u/\RelV y w':=by
 cases r with
 | cons r1 r2=>
  cases r2 with
  | cons r3 r4=>cases r4;exact⟨_,_,rfl,r1,r3⟩
theorem Qv0:Qc7 X (.builtin "abs") (λxs H Q=>∃i,xs=[.int i]/\Q (.int (if i<0 then-i else i)) H):=by
 intro pins s σ H xs us Q I r h;obtain⟨i,rfl,q⟩:=h;obtain⟨u,rfl,t,rfl⟩:=vals1 r;exact call_abs_int λu tk=>⟨.int (if i<0 then-i else i),H,I.tok _,⟨_,rfl⟩,q⟩
theorem QuM(hc:X.calm=true):Qc7 X (.builtin "max") (λxs H Q=>∃i j,xs=[.int i,.int j]/\Q (.int (if j>i then j else i)) H):=by
 intro pins s σ H xs us Q I r h;obtain⟨i,j,rfl,q⟩:=h;obtain⟨u,w',rfl,⟨t,rfl⟩,⟨t',rfl⟩⟩:=vals2 r;refine max_two_ints (I.ok.hd hc) λh' tk k=>⟨_,H,I.kept k,?_,q⟩;by_cases hj:j>i
 ·rw[if_pos hj,if_pos hj];exact⟨_,rfl⟩
 ·rw[if_neg hj,if_neg hj];exact⟨_,rfl⟩
theorem QuG(hc:X.calm=true):Qc7 X (.builtin "min") (λxs H Q=>∃i j,xs=[.int i,.int j]/\Q (.int (if j<i then j else i)) H):=by
 intro pins s σ H xs us Q I r h;obtain⟨i,j,rfl,q⟩:=h;obtain⟨u,w',rfl,⟨t,rfl⟩,⟨t',rfl⟩⟩:=vals2 r;refine min_two_ints (I.ok.hd hc) λh' tk k=>⟨_,H,I.kept k,?_,q⟩;by_cases hj:j<i
 ·rw[if_pos hj,if_pos hj];exact⟨_,rfl⟩
 ·rw[if_neg hj,if_neg hj];exact⟨_,rfl⟩
end
end L2
namespace L2
open PySem PySem.Spec PyProof.Rows
structure QDs (h:Heap) (x dx C:Addr) (mA:Str->Option Value):Prop where
 obj:h.get? x=some (PySem.W.instObj C dx)
 ns:h.Ns1 dx mA
 ne:dx≠x
section
variable {prog:Program}{w:World}{A:Around}{E:Value->Shared->Prop}{s:Shared}{K:Fgg}{x dx C f:Addr}{mA:Str->Option Value}{name:Str}{v:Value}
end
section
variable {P:Program}{w:World}{H H':Hp}{h h':Heap}{a C dx:Addr}{fs fs':List (Str×V)}
end
structure Cls (K:Fgg) (C:Addr):Prop where
 pg:PySem.W.plainGet K C Str.empty=true
 hd:PySem.W.hasDictIn K C=true
 po:PySem.W.plainOver K C=true
 sa:PySem.W.findIn K (.ref C) "__setattr__" =some (some (.builtin "object.__setattr__"))
structure Con (K:Fgg) (C:Addr) (f:Str) (v:V) (u:Value):Prop where
 at_:PySem.W.findIn K (.ref C) f=some (some u)
 rel:RelV v u
 get:PySem.W.specialIn K u "__get__" =some none
 cp:PySem.W.copiedNames.contains f=false
structure QDq (K:Fgg) (C:Addr) (m:Str) (f:Addr):Prop where
 at_:PySem.W.findIn K (.ref C) m=some (some (.ref f))
 fn:PySem.W.isFn K (.ref f)=true
 kp:PySem.W.keepIn K (.ref f)=true
section
variable {X:Cx}{pins:List (Addr×Obj)}{σ:St}{H:Hp}{s:Shared}{a C dx:Addr}{fs:List (Str×V)}{f:Str}{v:V}{A:Around}{E:Value->Shared->Prop}
end
section
variable {X:Cx}{o e value:Expr}{f:Str}{pos pos' tpos:Pos}{ta tv:TE}
end
section
variable {X:Cx}{pins:List (Addr×Obj)}{σ:St}{H:Hp}{s:Shared}{A:Around}{E:Value->Shared->Prop}{Q:Value->Shared->Prop}{c:Value}{b:Bool}
end
end L2
namespace L2
open PySem PySem.Spec PyProof.Rows
structure QbS (k:Nat) (A:Around):Prop where
 hd:A.handled=none
 dp:A.depth+3*k+5<recursionLimit
 un:A.units+16*k+200<cLine
theorem QbS.mono{j k:Nat}{A:Around}(r:QbS k A)(h:j<=k):QbS j A:=⟨r.hd,by have:=r.dp;omega,by have:=r.un;omega⟩
theorem QbS.deeper{k:Nat}{A:Around}(r:QbS (k+1) A)(env:Env):QbS k (A.deeper env):=
 ⟨r.hd,by have:=r.dp;show A.depth+1+3*k+5<_;omega,by have:=r.un;show A.units+3+16*k+200<_;omega⟩
theorem QbS.depth{k:Nat}{A:Around}(r:QbS k A):A.depth<recursionLimit:=by have:=r.dp;omega
theorem QbS.units{k:Nat}{A:Around}(r:QbS k A):A.units+64<cLine:=by have:=r.un;omega
noncomputable def Qgo:TA:=λ_ H Q=>Q [] H
noncomputable def QcF(ta:TE)(tr:TA):TA:=λσ H Q=>ta σ H λx H1=>tr σ H1 λxs H2=>Q (x::xs) H2
section
variable {X:Cx}{e:Expr}{es:List Expr}{te:TE}{t:TA}{pos:Pos}
theorem Qb8:PA X [] Qgo:=λ_ _ _ _ H Q I h=>Calls.spliced_nil ⟨[],H,I,.nil,h⟩
theorem Qag(ha:PE X e te)(hr:PA X es t)(hs:starEach (e::es) X.env=(false,eval e X.env)::starEach es X.env:=by rfl):PA X (e::es) (QcF te t):=by
 intro pos pins s σ H Q I h;rw[hs];show wpAny _ _ (spliced ((false,eval e X.env)::backTo pos (starEach es X.env))) _ _ s;refine Calls.spliced_cons (thn (ha pins s σ H _ I h) λu s1=>exJ λx H1 I1 r1 q1=>?_);exact thn (hr pos pins s1 σ H1 _ I1 q1) λus s2 ⟨xs,H2,I2,r2,q2⟩=>⟨x::xs,H2,I2,.cons r1 r2,q2⟩
noncomputable def QAI(t:TA):TE:=λσ H Q=>t σ H λxs H1=>xs.length<=sizeLine/\∀p,H1 p=none->Q (.ref p) (upd H1 p (.tup xs))
noncomputable def QC8(t:TA):TE:=λσ H Q=>t σ H λxs H1=>xs.length<=sizeLine/\∀p,H1 p=none->Q (.ref p) (upd H1 p (.lst xs))
theorem QtF{x1}(h:PA X es t):PE X (.Tuple es x1 pos) (QAI t):=by
 intro pins s σ H Q I hq;refine wpAny_Tuple_spliced (thn (h pos pins s σ H _ I hq) λus s1 ⟨xs,H1,I1,r,z,q⟩=>⟨by rw[← r.length];exact z,?_⟩);have hf:H1 s1.heap.objs.size=none:=I1.hok.fresh (Zh _);refine⟨.ref s1.heap.objs.size,upd H1 s1.heap.objs.size (.tup xs),I1.laid (t':=s1.toks) (λb u e=>Zb _ e) (Zh _) ?_,rfl,q _ hf⟩;exact⟨z,us,r,⟨_,ZE _ rfl,rfl,_,rfl⟩⟩
theorem QAr(h:PA X es t):PE X (.List es pos) (QC8 t):=by
 intro pins s σ H Q I hq;refine wpAny_List_spliced (thn (h pos pins s σ H _ I hq) λus s1 ⟨xs,H1,I1,r,z,q⟩=>⟨by rw[← r.length];exact z,?_⟩);have hf:H1 s1.heap.objs.size=none:=I1.hok.fresh (Zh _);refine⟨.ref s1.heap.objs.size,upd H1 s1.heap.objs.size (.lst xs),I1.laid (t':=s1.toks) (λb u e=>Zb _ e) (Zh _) ?_,rfl,q _ hf⟩;exact⟨z,us,0,r,ZE _ rfl⟩
end
noncomputable abbrev Sp:=List V->Hp->VK->XK->Prop
noncomputable abbrev CXT:=List Env->Hp->Shared->XK->Value->Shared->Prop
structure QsT (P:Program) (w:World) (K:Fgg) (mg:Str->Option Value) (base:Heap) (A:Around) (outer:List Env) (s:Shared) (H:Hp):Prop where
 frames:A.frames=some outer
 mod:Mod K mg base
 bs:∀b o,base.get? b=some o->s.heap.get? b=some o/\H b=none
 bsz:base.objs.size<=s.heap.objs.size
 Qgp:s.heap.FunFrames base outer
 frf:∀b∈frs outer,H b=none
 hok:HOk P w H s.heap
 bare:AllBare s.gens
def CE(outer:List Env)(P:Program)(w:World)(H:Hp)(s:Shared)(Q:VK)(u:Value)(s':Shared):Prop:=
 ∃v H',s'.os=s.os/\AllBare s'.gens/\Un (frs outer) [] H H' s.heap s'.heap/\HOk P w H' s'.heap/\RelV v u/\Q v H'
def CR(CX:CXT)(outer:List Env)(P:Program)(w:World)(H:Hp)(s:Shared)(Q:VK)(E:XK)(r:Result)(s':Shared):Prop:=
 match r with
 | .ok (.ret u)=>CE outer P w H s Q u s'
 | .ok _=>False
 | .error e=>CX outer H s E e s'
structure QdK (P:Program) (w:World) (K:Fgg) (mg:Str->Option Value) (base:Heap) (CX:CXT) (k:Nat) (f:Addr) (fd:FuncData) (ps:List Str) (sp:Sp):Prop where
 len:∀vs H Q E,sp vs H Q E->vs.length=ps.length
 run:∀(A:Around) (outer:List Env) (s:Shared) (H:Hp) (args:Args) (us:List Value) (vs:List V) (Q:VK) (E:XK),QbS k A->QsT P w K mg base A outer s H->BindsTo s fd args (ps.zip us)->QL vs us->sp vs H Q E→
  codeAny (model P w) A (.call (.ref f) args) (CR CX outer P w H s Q E) s
theorem QdK.mono{P:Program}{w:World}{K:Fgg}{mg:Str->Option Value}{base:Heap}{CX:CXT}{j k:Nat}{f:Addr}{fd:FuncData}{ps:List Str}{sp:Sp}(F:QdK P w K mg base CX j f fd ps sp)(h:j<=k):
  QdK P w K mg base CX k f fd ps sp:=⟨F.len,λA outer s H args us vs Q E hr=>F.run A outer s H args us vs Q E (hr.mono h)⟩
section
variable {X:Cx}{pins:List (Addr×Obj)}{σ:St}{H:Hp}{s s':Shared}
theorem Inv.QCX(I:Inv X pins σ H s):QsT X.prog X.w X.K X.mg X.base X.A X.stack s H:=
 ⟨I.ok.frames,I.ok.mod,I.bs,Zp I.ok.bsz I.sz,I.stack,I.Qrp,I.hok,I.bare⟩
theorem Inv.after{Q:VK}{u:Value}(I:Inv X pins σ H s)(h:CE X.stack X.prog X.w H s Q u s'):EP X pins σ Q u s':=by
 obtain⟨v,H',os,bare,un,hok,r,q⟩:=h;obtain⟨hh,g,d,t,os'⟩:=s';obtain rfl:os'=s.os:=os;exact⟨v,H',I.call (h':=hh) (g':=g) (d':=d) (t':=t) (ch:=[]) un hok bare (λb z=>absurd z (by simp)),r,q⟩
end
noncomputable def Qr7(sp:Sp)(dvs:List V)(E:XK)(t:TA):TE:=λσ H Q=>t σ H λvs H1=>sp (vs++dvs) H1 Q E
def Binds(K:Fgg)(fd:FuncData)(ps:List Str)(ds:List Value):Prop:=
 ∀(s:Shared) (us:List Value),K.In s.heap->(us++ds).length=ps.length->BindsTo s fd ⟨us,[]⟩ (ps.zip (us++ds))
theorem Binds.all{K:Fgg}{fd:FuncData}{ps:List Str}(h:∀us:List Value,us.length=ps.length->bindArgs fd ⟨us,[]⟩=pure (ps.zip us)):Binds K fd ps []:=λs us _ hl=>by
 rw[Zbj]at hl ⊢;exact .of_eq (h us hl)
def QlL(CX:CXT)(X:Cx)(E:XK):Prop:=∀(pins:List (Addr×Obj)) (σ:St) (H:Hp) (s:Shared) (e:Value) (s':Shared),Inv X pins σ H s->CX X.stack H s E e s'->X.xe e s'
section
variable {X:Cx}{CX:CXT}{k:Nat}{f C:Addr}{fd:FuncData}{ps:List Str}{sp:Sp}{dvs:List V}{ds:List Value}{E:XK}{x m:Str}{p pos apos:Pos}{e o:Expr}{es:List Expr}{ta:TE}{t:TA}
theorem Qs3{pins:List (Addr×Obj)}{σ:St}{H:Hp}{s:Shared}{Q:VK}{us:List Value}{vs:List V}(F:QdK X.prog X.w X.K X.mg X.base CX k f fd ps sp)(hr:QbS k X.A)(hb:Binds X.K fd ps ds)(hd:QL dvs ds)(hx:QlL CX X E)
  (I:Inv X pins σ H s) (r:QL vs us) (h:sp (vs++dvs) H Q E):wpAny (model X.prog X.w) X.A (call (.ref f) us) (EP X pins σ Q) X.xe s:=by
 have r2:QL (vs++dvs) (us++ds):=r.append hd;have hl:(us++ds).length=ps.length:=by rw[← r2.length];exact F.len _ _ _ _ h
 refine wpAny_call (codeAny_mono (F.run X.A X.stack s H ⟨us,[]⟩ (us++ds) (vs++dvs) Q E hr I.QCX (hb s us I.kIn hl) r2 h) λr s' hq=>?_);cases r with
 | error e=>exact hx pins σ H s e s' I hq
 | ok fl=>
  cases fl with
  | ret u=>exact I.after hq
  | next=>exact False.elim hq
  | brk=>exact False.elim hq
  | cont=>exact False.elim hq
theorem Qzk(F:QdK X.prog X.w X.K X.mg X.base CX k f fd ps sp)(hr:QbS k X.A)(hg:Gl X x)(hm:X.mg x=some (.ref f))(hk:PySem.W.keepIn X.K (.ref f)=true)(hb:Binds X.K fd ps ds)(hd:QL dvs ds)(hx:QlL CX X E)
  (ha:PA X (e::es) t) (hdb:(x == ("__debug__" :Str))=false:=by decide) (he:starEach (e::es) X.env=(false,eval e X.env)::starEach es X.env:=by rfl) (hpl:(backTo pos (starEach es X.env)).any (·.1)=false:=by rfl):
  PE X (.Call (.Name x p) (e::es) [] pos) (Qr7 sp dvs E t):=by
 intro pins s σ H Q I h;refine wpAny_Call_Name_kw (QmX I hg hm ?_ hdb);refine PySem.W.callWith_K (h₀:=X.base) I.ok.mod.kin hk (thn (ha pos pins s σ H _ I h) λus s1 ⟨vs,H1,I1,r,q⟩=>⟨I1.kIn,?_⟩) he hpl;exact Qs3 F hr hb hd hx I1 r q
theorem Qwj(F:QdK X.prog X.w X.K X.mg X.base CX k f fd ps sp)(hr:QbS k X.A)(hg:Gl X x)(hm:X.mg x=some (.ref f))(hk:PySem.W.keepIn X.K (.ref f)=true)(hb:Binds X.K fd ps ds)(hd:QL dvs ds)(hx:QlL CX X E)
  (hdb:(x == ("__debug__" :Str))=false:=by decide):PE X (.Call (.Name x p) [] [] pos) (Qr7 sp dvs E Qgo):=by
 intro pins s σ H Q I h;refine wpAny_Call_Name_kw (QmX I hg hm ?_ hdb);exact PySem.W.callWith_K0 I.kIn hk (Qs3 (us:=[]) F hr hb hd hx I .nil h)
structure Mk (K:Fgg) (C f:Addr):Prop where
 makes:PySem.W.makesIn K C=true
 init:PySem.W.findIn K (.ref C) "__init__" =some (some (.ref f))
 fn:PySem.W.isFn K (.ref f)=true
 kp:PySem.W.keepIn K (.ref C)=true
end
section
variable {X:Cx}{CX:CXT}{k:Nat}{f C:Addr}{fd:FuncData}{ps ks:List Str}{sp:Sp}{E:XK}{x m:Str}{p pos apos kpos:Pos}{e o:Expr}{es:List Expr}{kws:List Keyword}{te ta:TE}{t tk:TA}{nm:Option Str}
structure QDp (K:Fgg) (fd:FuncData) (ps ks:List Str) (g:List Value->List Value->List Value) (gV:List V->List V->List V):Prop where
 to:∀(s:Shared) (us ws:List Value),K.In s.heap->(g us ws).length=ps.length->BindsTo s fd ⟨us,ks.zip ws⟩ (ps.zip (g us ws))
 rel:∀{vs:List V}{us:List Value}{zs:List V}{ws:List Value},QL vs us->QL zs ws->QL (gV vs zs) (g us ws)
variable {g:List Value->List Value->List Value}{gV:List V->List V->List V}
end
structure QdB (N P:List Str) (sc:Scope):Prop where
 kind:sc.kind= .function
 co:sc.isCoroutine=false
 gen:sc.isGenerator=false
 nd:N.Nodup
 pre:N.take P.length=P
 par:∀x∈P,sc.names.lookup x=some .local ∨sc.names.lookup x=some .cell
 nofree:∀y∈sc.names,y.2≠ .free
theorem QnQ{kindOf:Str->Option NameKind}{x:Str}:∀{binds:List (Str×Value)}{m:Str->Option Value},(∀v,(x,v)∉binds)->bindL kindOf binds m x=m x
 | [],_,_=>rfl
 | (n,v)::r,m,h=>by
  unfold bindL;rw[QnQ λw hw=>h w (Zc _ hw)];split
  ·have:x≠n:=by rintro rfl;exact h v Zm
   simp[this]
  ·rfl
theorem QnJ{kindOf:Str->Option NameKind}{x:Str}:∀{binds:List (Str×Value)}{m:Str->Option Value},(∀v,(x,v)∉binds)->bindC kindOf binds m x=m x
 | [],_,_=>rfl
 | (n,v)::r,m,h=>by
  unfold bindC;rw[QnJ λw hw=>h w (Zc _ hw)];split
  ·rfl
  ·have:x≠n:=by rintro rfl;exact h v Zm
   simp[this]
theorem Qno{kindOf:Str->Option NameKind}{x:Str}{v:Value}:∀{P:List Str}{vs:List Value}{i:Nat}{m:Str->Option Value},P.Nodup->P[i]? =some x->vs[i]? =some v->kindOf x=some .local →
  bindL kindOf (P.zip vs) m x=some v
 | [],_,_,_,_,h,_,_=>by simp at h
 | _::_,[],_,_,_,_,h,_=>by simp at h
 | p::P,w::vs,0,m,nd,h1,h2,hk=>by
  simp at h1 h2;subst h1;subst h2;show bindL kindOf ((p,w)::P.zip vs) m p=_;unfold bindL;rw[QnQ λv hv=>(ZaF.mp nd).1 (Zcr hv).1,if_pos hk];simp
 | p::P,w::vs,i+1,m,nd,h1,h2,hk=>by
  show bindL kindOf ((p,w)::P.zip vs) m x=_;unfold bindL;exact Qno (i:=i) (ZaF.mp nd).2 (by simpa using h1) (by simpa using h2) hk
theorem Qnw{kindOf:Str->Option NameKind}{x:Str}{v:Value}:∀{P:List Str}{vs:List Value}{i:Nat}{m:Str->Option Value},P.Nodup->P[i]? =some x->vs[i]? =some v->kindOf x≠some .local →
  bindC kindOf (P.zip vs) m x=some v
 | [],_,_,_,_,h,_,_=>by simp at h
 | _::_,[],_,_,_,_,h,_=>by simp at h
 | p::P,w::vs,0,m,nd,h1,h2,hk=>by
  simp at h1 h2;subst h1;subst h2;show bindC kindOf ((p,w)::P.zip vs) m p=_;unfold bindC;rw[QnJ λv hv=>(ZaF.mp nd).1 (Zcr hv).1,if_neg hk];simp
 | p::P,w::vs,i+1,m,nd,h1,h2,hk=>by
  show bindC kindOf ((p,w)::P.zip vs) m x=_;unfold bindC;exact Qnw (i:=i) (ZaF.mp nd).2 (by simpa using h1) (by simpa using h2) hk
noncomputable def start(N:List Str)(vs:List V):St:=vs.map some++List.replicate (N.length-vs.length) none
noncomputable def Qjz(CX:CXT)(P:Program)(w:World)(K:Fgg)(mg:Str->Option Value)(base:Heap)(N:List Str)(qual:Str)(scope:Scope)(f:Addr)(cd:Value)(A:Around)(outer:List Env)(s:Shared)(H:Hp)(E:XK):Cx where
 prog:=P
 w:=w
 K:=K
 mg:=mg
 base:=base
 A:=A.deeper (envOfC qual scope s.heap.objs.size f cd)
 N:=N
 s₀:=s
 H₀:=H
 env:=envOfC qual scope s.heap.objs.size f cd
 outer:=outer
 stack:=envOfC qual scope s.heap.objs.size f cd::outer
 ex:=[]
 calm:=decide (A.handled=none)
 fn:=λ_=>true
 pn:=[]
 xe:=λe s'=>wpAny (model P w) (A.deeper (envOfC qual scope s.heap.objs.size f cd)) (leaving (envOfC qual scope s.heap.objs.size f cd) e) (λ_ s''=>CX outer H s E e s'') (λe' s''=>CX outer H s E e' s'') s'
theorem Qqu{sc:Scope}{n:Nat}{x:Str}(h:sc.names.lookup x=some .cell):∃c,(cellsFrom n sc.names []).lookup x=some c:=by
 have q:=Zcl sc.names n [] (.inl h);exact Zca.mp q
theorem QuI{CX:CXT}{P:Program}{w:World}{K:Fgg}{mg:Str->Option Value}{base:Heap}{N ps:List Str}{qual:Str}{scope:Scope}{f:Addr}{cd:Value}{A:Around}{outer:List Env}{s s1:Shared}{H:Hp}{E:XK}{us:List Value}{vs:List V}
  (S:QdB N ps scope) (e0:QsT P w K mg base A outer s H) (hl:vs.length=ps.length) (r:QL vs us)
  (x:InCallC s s.heap.objs.size (bindL (envOfC qual scope s.heap.objs.size f cd).kindOf (ps.zip us) λ_=>none) (cellsFrom (s.heap.objs.size+1) scope.names []) (bindC (envOfC qual scope s.heap.objs.size f cd).kindOf (ps.zip us) λ_=>none) s1):
  Inv (Qjz CX P w K mg base N qual scope f cd A outer s H E) [] (start N vs) H s1:=by
 have hpl:ps.length<=N.length:=by have:=congrArg List.length S.pre;rw[ZaJ]at this;omega
 obtain⟨h1,tk,rfl,hk⟩:=x.done;have noA:∀b:Addr,b∉(Qjz CX P w K mg base N qual scope f cd A outer s H E).ex:=λb z=>absurd (show b∈([]:LAd)from z) (by simp)
 refine⟨⟨e0.mod,S.kind,rfl,rfl,Zh _,λy z c h1 h2=>?_,λy hy=>?_,λy c _ h=>?_,λh=>of_decide_eq_true h,Around.frames_deeper e0.frames,.inr ⟨rfl,rfl⟩,λb z=>absurd z (noA b),e0.bs,e0.bsz,λb _ _=>noA b,λb z=>absurd z (noA b),e0.Qgp,e0.frf⟩,
  rfl,e0.bare,Un.kept hk,⟨_,x.toInCall.ns,λi y v h1 h2 h3=>?_⟩,λy c h=>⟨_,x.cell y c h⟩,e0.hok.fresh (Zh _),λy c h=>?_,λp hp=>absurd (show p∈([]:List (Addr×Obj))from hp) (by simp),e0.hok.kept hk,?_⟩
 ·exact name_of_addr x.apart (Zar h1) (Zar h2)
 ·have hy:scope.names.lookup y=some .cell∨scope.names.lookup y=some .free:=hy;rcases hy with hy | hy
  ·exact Qqu hy
  ·exact absurd rfl (S.nofree _ (Zar hy))
 ·exact Zbi (x.above y c (Zar h))
 ·have hi:i<vs.length:=by
   unfold start at h2;by_cases hi:i<vs.length
   ·exact hi
   ·rw[Zbo (by simpa using hi),Zce]at h2;split at h2<;>cases h2
  have ha:vs[i]? =some v:=by
   unfold start at h2;rw[Zaw (by simpa using hi),Zr]at h2;cases e:vs[i]? with
   | none=>rw[e]at h2;cases h2
   | some a=>rw[e]at h2;cases h2;rfl
  obtain⟨u,hu,rv⟩:=r.get ha;have hp:ps[i]? =some y:=by
   rw[← S.pre,List.getElem?_take_of_lt ⋯];exact h1
  have ndP:ps.Nodup:=by rw[← S.pre];exact S.nd.sublist (List.take_sublist _ _)
  refine⟨u,rv,?_⟩;rcases S.par y (ZT hp)with k | k
  ·exact .inl ⟨k,Qno ndP hp hu k⟩
  ·obtain⟨c,e⟩:=Qqu (n:=s.heap.objs.size+1) k;refine .inr ⟨.inl k,c,e,?_⟩;have q:=x.cell y c e;rw[Qnw ndP hp hu (by show scope.names.lookup y≠_;rw[k];decide)]at q;exact q
 ·exact e0.hok.fresh (Zbi (x.above y c (Zar h)))
 ·unfold start;show _=N.length;rw[Zx,Zj,List.length_replicate];omega
theorem QB2{CX:CXT}{P:Program}{w:World}{K:Fgg}{mg:Str->Option Value}{base:Heap}{k:Nat}{f:Addr}{name qual:Str}{params:Arguments}{body:List Stmt}{scope:Scope}{dV kV doc pm cdv ct oc:Value}{an od:Option Addr}
  {osl:Array (Option Value)}{N ps:List Str}{sp:Sp}(lk:K.lookup f=some ⟨oc,od,.func (PySem.W.fnOf name qual params body scope dV kV doc pm an cdv ct),osl⟩) (hcd:PySem.W.codeIn K cdv qual=true) (S:QdB N ps scope)
  (len:∀vs H Q E,sp vs H Q E->vs.length=ps.length)
  (hbody:∀(A:Around) (outer:List Env) (s:Shared) (H:Hp) (vs:List V) (Q:VK) (E:XK),QbS k (A.deeper (envOfC qual scope s.heap.objs.size f cdv))->sp vs H Q E→
   ∃t,PSs (Qjz CX P w K mg base N qual scope f cdv A outer s H E) body t/\t {nx:=λ_ H'=>Q .non H',rt:=Q} (start N vs) H):
  QdK P w K mg base CX (k+1) f (PySem.W.fnOf name qual params body scope dV kV doc pm an cdv ct) ps sp:=by
 refine⟨len,λA outer s H args us vs Q E hr e0 hb r hsp=>?_⟩;have hl:=len _ _ _ _ hsp;have KX:K.In s.heap:=e0.mod.kin.keeps λb o e=>(e0.bs b o e).1;have lim:s.heap.NoLimit:=e0.mod.nolimit.keeps λb o e=>(e0.bs b o e).1;have hkind:∀y∈ps.zip us,scope.names.lookup y.1=some .local ∨(scope.names.lookup y.1=some .cell/\((cellsFrom (s.heap.objs.size+1) scope.names []).lookup y.1).isSome=true):=λZ hy=>by
  obtain⟨n,v⟩:=Z;rcases S.par n (Zcr hy).1 with q | q
  ·exact .inl q
  ·exact .inr ⟨q,Zcl _ _ _ (.inl q)⟩
 refine codeAny_call_function hr.depth (KX _ _ lk) rfl S.co S.gen rfl (PySem.W.codeRec_of KX hcd) (hb _ _ _ _ ?_);refine wpAny_newFunctionEnv_cells S.kind hkind λenv he s1 x=>?_;subst he;refine⟨lim.keeps x.toInCall.keep,codeAny_func ?_⟩;obtain⟨t,ht,hq⟩:=hbody A outer s H vs Q E (hr.deeper _) hsp;have I:Inv (Qjz CX P w K mg base N qual scope f cdv A outer s H E) [] (start N vs) H s1:=QuI S e0 hl r x;refine wpAny_mono (ht [] s1 (start N vs) H _ I hq) (λfl s' hs=>?_) λe s' hs=>hs
 have fin:∀{σ':St}{H':Hp}{v:V}{u:Value},Inv (Qjz CX P w K mg base N qual scope f cdv A outer s H E) [] σ' H' s'->RelV v u->Q v H'->CE outer P w H s Q u s':=
  λ{σ' H' v u} J rv q=>⟨v,H',J.os,J.bare,J.base,J.hok,rv,q⟩
 cases fl with
 | ret u=>
  obtain⟨v,σ',H',J,rv,q⟩:=hs;exact fin J rv q
 | next=>
  obtain⟨σ',H',J,q⟩:=hs;exact fin (v:=V.non) (u:=Value.none) J rfl q
 | brk=>
  obtain⟨_,_,_,q⟩:=hs;exact False.elim q
 | cont=>
  obtain⟨_,_,_,q⟩:=hs;exact False.elim q
end L2
namespace L2
open PySem PySem.Spec PyProof.Rows
section
variable {X:Cx}{x:Str}{p pos:Pos}{e:Expr}{es:List Expr}{t:TA}{id T:String}{r:List V->Hp->VK->Prop}
noncomputable def tCB(r:List V->Hp->VK->Prop)(t:TA):TE:=λσ H Q=>t σ H λvs H1=>r vs H1 Q
theorem Qk4(hc:Qc7 X (.builtin id) r)(hg:Gl X x)(hm:X.mg x=none)(hv:bootBuiltins x=some (.builtin id))(ha:PA X (e::es) t)(hn:x≠ "__name__" :=by decide)(hdb:(x == ("__debug__" :Str))=false:=by decide)
  (he:starEach (e::es) X.env=(false,eval e X.env)::starEach es X.env:=by rfl) (hpl:(backTo pos (starEach es X.env)).any (·.1)=false:=by rfl):PE X (.Call (.Name x p) (e::es) [] pos) (tCB r t):=by
 intro pins s σ H Q I h;refine wpAny_Call_Name_kw (Qc9 I hg hm hv ?_ hn hdb);exact PyProof.Rows.callWith_builtin1 (thn (ha pos pins s σ H _ I h) λus s1 ⟨vs,H1,I1,r1,q1⟩=>hc pins s1 σ H1 vs us Q I1 r1 q1) he hpl
theorem QjJ(hc:Qc7 X (.type T) r)(hg:Gl X x)(hm:X.mg x=none)(hv:bootBuiltins x=some (.type T))(ha:PA X (e::es) t)(hn:x≠ "__name__" :=by decide)(hdb:(x == ("__debug__" :Str))=false:=by decide)
  (he:starEach (e::es) X.env=(false,eval e X.env)::starEach es X.env:=by rfl) (hpl:(backTo pos (starEach es X.env)).any (·.1)=false:=by rfl):PE X (.Call (.Name x p) (e::es) [] pos) (tCB r t):=by
 intro pins s σ H Q I h;refine wpAny_Call_Name_kw (Qc9 I hg hm hv ?_ hn hdb);exact ZV (thn (ha pos pins s σ H _ I h) λus s1 ⟨vs,H1,I1,r1,q1⟩=>hc pins s1 σ H1 vs us Q I1 r1 q1) he hpl
end
end L2
namespace HT
open PySem PyProof.Rows
section
open PySem.SeqAt
open PySem.AutoSeq1 (wpAny_loadPart')
open PySem.MeetsSeq PySem.MeetsSeq2 PySem.MeetsSeq3
end
section
variable {prog:Program}{w:World}{A:Around}{E:Value->Shared->Prop}{s:Shared}
noncomputable def sIx(n d:Nat):Option Int->Nat
 | none=>d
 | some v=>if v<0 then(v+(n:Int)).toNat else min v.toNat n
theorem QiH(n d:Nat):sIx n d none=d:=rfl
theorem QhK(n d k:Nat):sIx n d (some (k:Int))=min k n:=by
 show(if(k:Int)<0 then((k:Int)+(n:Int)).toNat else min (k:Int).toNat n)=min k n;rw[if_neg ⋯,Zab]
end
end HT
namespace L2
open PySem PySem.Spec PyProof.Rows
noncomputable abbrev TO:=St->Hp->(Option Int->Hp->Prop)->Prop
def PO(X:Cx)(e:Option Expr)(t:TO):Prop:=
 ∀(pins:List (Addr×Obj)) (s:Shared) (σ:St) (H:Hp) (Q:Option Int->Hp->Prop),Inv X pins σ H s->t σ H Q→
  wpAny (model X.prog X.w) X.A (evalPart e X.env) (λu s'=>∃o H',Inv X pins σ H' s'/\IsPart u o/\Q o H') X.xe s
noncomputable def Qzb:TO:=λ_ H Q=>Q none H
noncomputable def QBT(t:TE):TO:=λσ H Q=>t σ H λx H1=>∃i,x= .int i/\Q (some i) H1
theorem intsAre_of{ns:List Int}:∀{us:List Value},QL (ns.map V.int) us->IntsAre us ns:=by
 induction ns with
 | nil=>intro us r;rw[List.map_nil]at r;cases r;exact .nil
 | cons n ns ih=>
  intro us r;rw[ZM]at r;cases r with
  | cons r1 r2=>
   obtain⟨t,e⟩:=r1;subst e;exact .cons n t (ih r2)
section
variable {X:Cx}{e:Expr}{te:TE}{lo hi:Option Expr}{tl th:TO}{pos p2:Pos}
theorem QyP:PO X none Qzb:=by
 intro pins s σ H Q I h;rw[evalPart_none];exact wpAny_pure ⟨none,H,I,.none,h⟩
theorem Qyd(h:PE X e te):PO X (some e) (QBT te):=by
 intro pins s σ H Q I hw;rw[evalPart_some];refine thn (h pins s σ H _ I hw) λu s1=>exJ λx H1 I1 r1 q1=>?_;obtain⟨i,rfl,q⟩:=q1;obtain⟨t,rfl⟩:=r1;exact⟨some i,H1,I1,.int i t,q⟩
def SlR(X:Cx)(r:V->Option Int->Option Int->Hp->VK->Prop):Prop:=
 ∀(pins:List (Addr×Obj)) (s:Shared) (σ:St) (H:Hp) (x:V) (v vl vu:Value) (lo hi:Option Int) (sl:Addr) (Q:VK),Inv X pins σ H s->RelV x v->s.heap.IsSliceOf sl vl vu .none->IsPart vl lo->IsPart vu hi->r x lo hi H Q→
  ∃T id,typeLookup (.type T) "__getitem__" =pure (some (.builtin id))/\s.TypeIs v T/\wpAny (model X.prog X.w) X.A (getItem v (.ref sl)) (EP X pins σ Q) X.xe s
noncomputable def tSl(r:V->Option Int->Option Int->Hp->VK->Prop)(te:TE)(tl th:TO):TE:=λσ H Q=>te σ H λx H1=>tl σ H1 λl H2=>th σ H2 λu H3=>r x l u H3 Q
theorem QwF{r:V->Option Int->Option Int->Hp->VK->Prop}(hr:SlR X r)(he:PE X e te)(hl:PO X lo tl)(hu:PO X hi th):PE X (.Subscript e (.Slice lo hi none p2) pos) (tSl r te tl th):=by
 intro pins s σ H Q I h;refine Subscript_ (thn (he pins s σ H _ I h) λv s1=>exJ λx H1 I1 r1 q1=>?_);refine wpAny_Slice (thn (hl pins s1 σ H1 _ I1 q1) λvl s2 ⟨l,H2,I2,pl,q2⟩=>thn (hu pins s2 σ H2 _ I2 q2) λvu s3=>exJ λu H3 I3 pu q3=>?_);rw[evalPart_none];refine wpAny_pure ?_;have I4:Inv X pins σ H3 {s3 with heap:=s3.heap.push {cls:= .type "slice",data:= .fields #[vl,vu,.none]}}:=I3.kept (t':=s3.toks) λb ob q=>Zb _ q;obtain⟨T,id,hT,ht,hg⟩:=hr pins {s3 with heap:=s3.heap.push {cls:= .type "slice",data:= .fields #[vl,vu,.none]}} σ H3 x v vl vu l u s3.heap.objs.size Q I4 r1 (Heap.IsSliceOf.new ..) pl pu q3;show wpAny (model X.prog X.w) X.A (subscriptTail e (.Slice lo hi none p2) v (.ref s3.heap.objs.size)) (EP X pins σ Q) X.xe {s3 with heap:=s3.heap.push {cls:= .type "slice",data:= .fields #[vl,vu,.none]}};exact tail_any (ops:=[.ref s3.heap.objs.size,v]) ht hT hg (by with_unfolding_all rfl)
noncomputable def Qm1(xs:List V)(lo hi:Option Int):List V:=(xs.drop (HT.sIx xs.length 0 lo)).take (HT.sIx xs.length xs.length hi-HT.sIx xs.length 0 lo)
theorem QqQ(xs:List V)(lo hi:Option Int):(Qm1 xs lo hi).length<=xs.length:=by
 unfold Qm1;rw[ZaJ,ZaR];omega
end
end L2
namespace L2
open PySem PySem.Spec PyProof.Rows
noncomputable def ixN(n:Nat)(i:Int):Option Nat:=if 0<=i then(if i<n then some i.toNat else none)else if-(n:Int)<=i then some (i+n).toNat else none
noncomputable def atI{α:Type}(xs:List α)(i:Int):Option α:=(ixN xs.length i).bind λj=>xs[j]?
theorem Qcw{n:Nat}{i:Int}{j:Nat}(h:ixN n i=some j):seqIndex? i n=some j/\j<n/\ -(n:Int)<=i/\i<n:=by
 unfold ixN at h;by_cases h0:0<=i
 ·rw[if_pos h0]at h;by_cases h1:i<n
  ·rw[if_pos h1]at h;have e:i.toNat=j:=Option.some.inj h;exact⟨by rw[seqIndex_of h0 h1,e],⋯,⋯,h1⟩
  ·rw[if_neg h1]at h;cases h
 ·rw[if_neg h0]at h;by_cases h1: -(n:Int)<=i
  ·rw[if_pos h1]at h;have e:(i+n).toNat=j:=Option.some.inj h;exact⟨by rw[seqIndex_neg ⋯ h1,e],⋯,h1,⋯⟩
  ·rw[if_neg h1]at h;cases h
theorem QmE{α:Type}{xs:List α}{i:Int}{v:α}(h:atI xs i=some v):∃j,seqIndex? i xs.length=some j/\xs[j]? =some v/\j<xs.length/\ -(xs.length:Int)<=i/\i<xs.length:=by
 unfold atI at h;cases e:ixN xs.length i with
 | none=>rw[e]at h;cases h
 | some j=>
  rw[e]at h;obtain⟨h1,h2,h3,h4⟩:=Qcw e;exact⟨j,h1,h,h2,h3,h4⟩
def Qj9(b:Expr):Prop:=∀o i,subscripted b false o i=operate [o,i] (getItem o i)
def IxR(X:Cx)(r:R2):Prop:=
 ∀(value slice:Expr) (pins:List (Addr×Obj)) (s:Shared) (σ:St) (H:Hp) (x y:V) (v u:Value) (Q:VK),Inv X pins σ H s->RelV x v->RelV y u->r x y H Q→
  subscripted slice false v u=operate [v,u] (getItem v u)->wpAny (model X.prog X.w) X.A (subscriptTail value slice v u) (EP X pins σ Q) X.xe s
def MtR(X:Cx)(id:String)(r:V->List V->Hp->VK->Prop):Prop:=
 ∀(pins:List (Addr×Obj)) (s:Shared) (σ:St) (H:Hp) (x:V) (xs:List V) (v:Value) (us:List Value) (Q:VK),Inv X pins σ H s->RelV x v->QL xs us->r x xs H Q→
  wpAny (model X.prog X.w) X.A (call (.builtin id) (v::us)) (EP X pins σ Q) X.xe s
section
variable {X:Cx}{a b:Expr}{ta tb:TE}{pos:Pos}
theorem IxR.or{r r':R2}(h:IxR X r)(h':IxR X r'):IxR X (λx y H Q=>r x y H Q∨r' x y H Q):=by
 intro value slice pins s σ H x y v u Q I rx ry q hs;rcases q with q | q
 ·exact h value slice pins s σ H x y v u Q I rx ry q hs
 ·exact h' value slice pins s σ H x y v u Q I rx ry q hs
theorem Qxm{r:R2}(hr:IxR X r)(ha:PE X a ta)(hb:PE X b tb)(hs:Qj9 b):PE X (.Subscript a b pos) (tOp r ta tb):=by
 intro pins s σ H Q I h;exact Subscript_ (Qvy ha hb I h λv u s2 x y H2 I2 rx ry q=>hr a b pins s2 σ H2 x y v u Q I2 rx ry q (hs _ _))
noncomputable def QAn(K:Fgg):R2:=λx y H Q=>∃p xs i v,x= .ref p/\y= .int i/\SqL K H p xs/\atI xs i=some v/\Q v H
noncomputable def QC3(K:Fgg):R2:=λx y H Q=>∃p xs i v,x= .ref p/\y= .int i/\SqT K H p xs/\atI xs i=some v/\Q v H
theorem Qq1:IxR X (QAn X.K):=by
 intro value slice pins s σ H x y v u Q I rx ry h hs;obtain⟨p,xs,i,z,rfl,rfl,hq,he,q⟩:=h;cases rx;obtain⟨t,rfl⟩:=ry;obtain⟨its,r,pl,hz⟩:=I.list hq;obtain⟨j,h1,h2,h3,h4,h5⟩:=QmE he;obtain⟨w,ew,rw'⟩:=r.get h2;have hl:=r.length;have hn:=QhR;have fin:EP X pins σ Q w s:=⟨z,H,I,rw',q⟩;by_cases h0:0<=i
 ·have hj:i.toNat=j:=by
   rw[seqIndex_of h0 h5]at h1;exact Option.some.inj h1
  exact item_listR pl.isList h0 ⋯ (by rw[hj];simpa using ew) fin hs
 ·have hj:(i+(its.toArray.size:Int)).toNat=j:=by
   rw[seqIndex_neg ⋯ h4]at h1;rw[Zv,← hl];exact Option.some.inj h1
  exact subscriptTail_builtinR (x:=w) pl.isList.typeIs slot_list_getitem.lookup
   (wpAny_getItem_list_neg (Q:=λr s'=>r=w/\EP X pins σ Q r s') pl.isList ⋯ (by rw[Zv]<;>omega) ⋯ (by rw[hj];simpa using ew) ⟨rfl,fin⟩) hs
theorem Qte:IxR X (QC3 X.K):=by
 intro value slice pins s σ H x y v u Q I rx ry h hs;obtain⟨p,xs,i,z,rfl,rfl,hq,he,q⟩:=h;cases rx;obtain⟨t,rfl⟩:=ry;obtain⟨its,r,pl,hz⟩:=I.tuple hq;obtain⟨j,h1,h2,h3,h4,h5⟩:=QmE he;obtain⟨w,ew,rw'⟩:=r.get h2;have hl:=r.length;have hn:=QhR;have fin:EP X pins σ Q w s:=⟨z,H,I,rw',q⟩
 exact subscriptTail_builtinR (x:=w) pl.typeIs slot_tuple_getitem.lookup
  (getItem_tuple (j:=j) (Q:=λr s'=>r=w/\EP X pins σ Q r s') pl ⋯ ⋯ (by rw[Zv,← hl];exact h1) (by simpa using ew) ⟨rfl,fin⟩) hs
theorem Qr1(its:List Value)(n j:Nat)(u:Value):Obj.mapSeq (·.setIfInBounds j u) {cls:= .type "list",data:= .seq its.toArray n}={cls:= .type "list",data:= .seq (its.set j u).toArray n}:=by
 simp[Obj.mapSeq]
theorem Inv.lst{pins:List (Addr×Obj)}{σ:St}{H:Hp}{s:Shared}{p:Addr}{xs:List V}(I:Inv X pins σ H s)(h:H p=some (.lst xs)):
  ∃(its:List Value) (n:Nat),QL xs its/\s.heap.get? p=some {cls:= .type "list",data:= .seq its.toArray n}/\xs.length<=sizeLine:=by
 obtain⟨z,its,n,r,e⟩:=I.hok p _ h;exact⟨its,n,r,e,z⟩
theorem Inv.QAL{pins:List (Addr×Obj)}{σ:St}{H:Hp}{s:Shared}{p:Addr}{xs ys:List V}{its its':List Value}{n n':Nat}{f:Obj->Obj}(I:Inv X pins σ H s)(h:H p=some (.lst xs))
  (ho:s.heap.get? p=some {cls:= .type "list",data:= .seq its.toArray n}) (hf:f {cls:= .type "list",data:= .seq its.toArray n}={cls:= .type "list",data:= .seq its'.toArray n'}) (r:QL ys its') (hz:ys.length<=sizeLine) (t:Nat):
  Inv X pins σ (upd H p (.lst ys)) {s with heap:=s.heap.update p f,toks:=t}:=by
 have e:(s.heap.update p f).get? p=some {cls:= .type "list",data:= .seq its'.toArray n'}:=by
  rw[Heap.get?_update_self f ho (by rw[hf]<;>rfl),hf]
 refine I.write (x:=p) (e:=p) (by rw[h];trivial) (.inl rfl) (λb u hb q=>(Heap.get?_update_other _ _ (Ne.symm hb)).trans q) ⟨_,e⟩ ?_;exact⟨hz,its',n',r,e⟩
noncomputable def QgQ:V->V->V->Hp->(Hp->Prop)->Prop:=λo i v H Q=>∃p xs k j,o= .ref p/\i= .int k/\H p=some (.lst xs)/\ixN xs.length k=some j/\Q (upd H p (.lst (xs.set j v)))
theorem set_list:Qvo X QgQ:=by
 intro pins s σ H o i v ov iv u Q I ro ri rv h;obtain⟨p,xs,k,j,rfl,rfl,hp,hj,q⟩:=h;cases ro;obtain⟨t,rfl⟩:=ri;obtain⟨its,n,r,ho,hz⟩:=I.lst hp;obtain⟨h1,h2,h3,h4⟩:=Qcw hj;have hl:=r.length;have hn:=QhR
 have I':Inv X pins σ (upd H p (.lst (xs.set j v))) {s with heap:=s.heap.update p (Obj.mapSeq (·.setIfInBounds j u))}:=
  I.QAL hp ho (Qr1 its n j u) (r.set rv j) (by rw[Zaf];exact hz) s.toks
 by_cases h0:0<=k
 ·have hk:k.toNat=j:=by
   rw[seqIndex_of h0 h4]at h1;exact Option.some.inj h1
  exact PySem.W.ki_setAt ho h0 ⋯ (by rw[Zv,← hl];exact h4) (by rw[hk];exact⟨_,I',q⟩)
 ·have hk:(k+(its.toArray.size:Int)).toNat=j:=by
   rw[seqIndex_neg ⋯ h3]at h1;rw[Zv,← hl];exact Option.some.inj h1
  exact PySem.W.ki_setBack ho ⋯ (by rw[Zv,← hl];exact h3) ⋯ (by rw[hk];exact⟨_,I',q⟩)
theorem Qp5(lo hi:Option Int)(n:Nat):(sliceBounds lo hi none n).1=((HT.sIx n 0 lo:Nat):Int)/\(sliceBounds lo hi none n).2.1=((HT.sIx n n hi:Nat):Int)/\(sliceBounds lo hi none n).2.2=1:=by
 refine⟨?_,?_,rfl⟩
 ·cases lo with
  | none=>simp[sliceBounds,HT.sIx]
  | some i=>
   simp only[sliceBounds,HT.sIx,Option.getD_none,show(1:Int)>0 by decide,if_true];by_cases h:i<0
   ·simp only[h,if_true]<;>omega
   ·simp only[h,if_false]<;>omega
 ·cases hi with
  | none=>simp[sliceBounds,HT.sIx]
  | some i=>
   simp only[sliceBounds,HT.sIx,Option.getD_none,show(1:Int)>0 by decide,if_true];by_cases h:i<0
   ·simp only[h,if_true]<;>omega
   ·simp only[h,if_false]<;>omega
theorem Qn9(its:List Value)(lo hi:Option Int):slicePick its.toArray lo hi none=((its.drop (HT.sIx its.length 0 lo)).take (HT.sIx its.length its.length hi-HT.sIx its.length 0 lo)).toArray:=by
 obtain⟨h1,h2,h3⟩:=Qp5 lo hi its.toArray.size;unfold slicePick;rw[h1,h2,h3];simp only[sliceRange_one,pick_run,Zv]<;>rfl
noncomputable def QC7(K:Fgg):V->Option Int->Option Int->Hp->VK->Prop:=λx lo hi H Q=>∃a xs,x= .ref a/\SqL K H a xs/\∀p,H p=none->Q (.ref p) (upd H p (.lst (Qm1 xs lo hi)))
theorem QyZ:SlR X (QC7 X.K):=by
 intro pins s σ H x v vl vu lo hi sl Q I rx hs pl pu h;obtain⟨a,xs,rfl,hx,q⟩:=h;cases rx;obtain⟨its,r,ht,hz⟩:=I.list hx;have hlen:=r.length;refine⟨"list",_,slot_list_getitem.lookup,ht.isList.typeIs,?_⟩;refine wpAny_getItem_list_slice ht.isList hs pl pu .none (by simp) ?_ (by rw[Zv]<;>omega);rw[Qn9,← hlen];refine⟨.ref s.heap.objs.size,_,I.laid (t':=s.toks) (o:= .lst (Qm1 xs lo hi)) (λb ob q=>Zb _ q) (Zh _) ?_,rfl,q _ (I.hok.fresh (Zh _))⟩;exact⟨Zp (QqQ xs lo hi) hz,_,0,(r.drop (HT.sIx xs.length 0 lo)).take (HT.sIx xs.length xs.length hi-HT.sIx xs.length 0 lo),ZE _ rfl⟩
theorem Qp4:Qc7 X (.builtin "len") (λxs H Q=>∃p ys,xs=[.ref p]/\(SqL X.K H p ys∨SqT X.K H p ys)/\Q (.int ys.length) H):=by
 intro pins s σ H xs us Q I r h;obtain⟨p,ys,rfl,hq,q⟩:=h;obtain⟨u,rfl,rx⟩:=vals1 r;cases rx;have hn:=QhR;rcases hq with hq | hq
 ·obtain⟨its,r',pl,hz⟩:=I.list hq;have hlen:=r'.length;exact Calls.call_len_list pl.isList (by simp only[Zv]<;>omega) ⟨.int ys.length,H,I.tok _,⟨s.toks+1,by rw[Zv,hlen]⟩,q⟩
 ·obtain⟨its,r',pl,hz⟩:=I.tuple hq;have hlen:=r'.length;exact len_tuple pl (by simp only[Zv]<;>omega) ⟨.int ys.length,H,I.tok _,⟨s.toks+1,by rw[Zv,hlen]⟩,q⟩
theorem Qi9:Qc7 X (.type "list") (λxs H Q=>∃p ys,xs=[.ref p]/\(SqL X.K H p ys∨SqT X.K H p ys)/\∀l,H l=none->Q (.ref l) (upd H l (.lst ys))):=by
 intro pins s σ H xs us Q I r h;obtain⟨p,ys,rfl,hq,q⟩:=h;obtain⟨u,rfl,rx⟩:=vals1 r;cases rx
 have fin:∀(its:List Value),QL ys its->ys.length<=sizeLine->∀(h':Heap) (c':Nat),(∀b o',s.heap.get? b=some o'->h'.get? b=some o')→
   h'.get? s.heap.objs.size=some {cls:= .type "list",dict:=none,data:= .seq its.toArray c',slots:= #[]}->EP X pins σ Q (.ref s.heap.objs.size) {s with heap:=h'}:=λits r' hz h' c' kp e=>
  ⟨.ref s.heap.objs.size,_,I.laid (t':=s.toks) kp (Zh _) (show QcK X.prog X.w _ h' _ (.lst ys)from⟨hz,its,c',r',e⟩),rfl,q _ (I.hok.fresh (Zh _))⟩
 rcases hq with hq | hq
 ·obtain⟨its,r',pl,hz⟩:=I.list hq;have hlen:=r'.length;obtain⟨o,ho,hc,n,hd⟩:=pl.isList;exact call_list_seq p (.inl rfl) ho hc hd (λh' c' kp e=>fin its r' hz h' c' kp e) (by simp only[Zv]<;>omega)
 ·obtain⟨its,r',pl,hz⟩:=I.tuple hq;have hlen:=r'.length;obtain⟨o,ho,hc,n,hd⟩:=pl;exact call_list_seq p (.inr rfl) ho hc hd (λh' c' kp e=>fin its r' hz h' c' kp e) (by simp only[Zv]<;>omega)
theorem Qoj:Qc7 X (.type "tuple") (λxs H Q=>∃p ys,xs=[.ref p]/\((SqL X.K H p ys/\∀l,H l=none->Q (.ref l) (upd H l (.tup ys)))∨(SqT X.K H p ys/\Q (.ref p) H))):=by
 intro pins s σ H xs us Q I r h;obtain⟨p,ys,rfl,h⟩:=h;obtain⟨u,rfl,rx⟩:=vals1 r;cases rx;rcases h with⟨hq,q⟩ | ⟨hq,q⟩
 ·obtain⟨its,r',pl,hz⟩:=I.list hq;have hlen:=r'.length;refine call_tuple_list pl.isList (λh' kp=>?_) (by simp only[Zv]<;>omega);have I1:Inv X pins σ H {s with heap:=h'}:=I.kept (t':=s.toks) kp
  have I2:Inv X pins σ (upd H h'.objs.size (.tup ys)) {s with heap:=h'.push {cls:= .type "tuple",data:= .seq its.toArray}}:=
   I1.laid (t':=s.toks) (λb o e=>Zb _ e) (Zh _) (show QcK X.prog X.w _ _ _ (.tup ys)from⟨hz,its,r',IsTup.new _ _⟩)
  exact⟨.ref h'.objs.size,_,I2,rfl,q _ (I1.hok.fresh (Zh _))⟩
 ·obtain⟨its,r',pl,hz⟩:=I.tuple hq;exact call_tuple_same pl ⟨.ref p,H,I,rfl,q⟩
def tyV(K:Fgg)(T:String)(x:V)(H:Hp):Prop:=match x with
 | .str _=>T= "str"
 | .int _=>T= "int"
 | .ref p=>(T= "list" /\∃xs,SqL K H p xs)∨(T= "tuple" /\∃o,K.lookup p=some o/\o.cls= .type "tuple" /\o.dict=none)∨
   (T= "dict" /\((∃kvs,H p=some (.dK kvs))∨∃kvs,H p=some (.dT kvs)))∨(T= "set" /\∃S n,H p=some (.set S n))
 | _=>False
theorem Qt8{pins:List (Addr×Obj)}{σ:St}{H:Hp}{s:Shared}{T:String}{x:V}{v:Value}(I:Inv X pins σ H s)(r:RelV x v)(ty:tyV X.K T x H):
  s.TypeIs v T/\∀a,v= .ref a->∃ob,s.heap.get? a=some ob/\ob.dict=none:=by
 cases x with
 | str z=>
  obtain⟨t,rfl⟩:=r;cases(show T= "str" from ty);exact⟨typeIs_str s z t,λ_ e=>nomatch e⟩
 | int i=>
  obtain⟨t,rfl⟩:=r;cases(show T= "int" from ty);exact⟨typeIs_int s i t,λ_ e=>nomatch e⟩
 | ref p=>
  cases r;rcases ty with⟨rfl,xs,hq⟩ | ⟨rfl,o,hk,hc,hd⟩ | ⟨rfl,hk⟩ | ⟨rfl,S,n,hk⟩
  ·obtain⟨its,_,pl,_⟩:=I.list hq;refine⟨pl.isList.typeIs,λa e=>?_⟩;cases e;obtain⟨o,n,e,c,hd,_⟩:=pl;exact⟨o,e,hd⟩
  ·refine⟨⟨o,I.kIn p o hk,hc⟩,λa e=>?_⟩;cases e;exact⟨o,I.kIn _ o hk,hd⟩
  ·have z:∃o,s.heap.get? p=some o/\o.ExactDict:=by
    rcases hk with⟨kvs,hk⟩ | ⟨kvs,hk⟩
    ·obtain⟨_,_,_,_,o,_,_,e,ex,_⟩:=I.hok p _ hk;exact⟨o,e,ex⟩
    ·obtain⟨_,_,_,_,o,_,_,e,ex,_⟩:=I.hok p _ hk;exact⟨o,e,ex⟩
   obtain⟨o,e,ex⟩:=z;refine⟨⟨o,e,ex.1⟩,λa e2=>?_⟩;cases e2;exact⟨o,e,ex.2.1⟩
  ·obtain⟨o,_,_,_,e,ex,_⟩:=I.hok p _ hk;refine⟨⟨o,e,ex.1⟩,λa e2=>?_⟩;cases e2;exact⟨o,e,ex.2.1⟩
 | _=>exact False.elim ty
noncomputable def QzP(K:Fgg)(T:String)(r:V->List V->Hp->VK->Prop)(to:TE):TE:=λσ H Q=>to σ H λx H1=>tyV K T x H1/\r x [] H1 Q
noncomputable def tBM(K:Fgg)(T:String)(r:V->List V->Hp->VK->Prop)(to:TE)(t:TA):TE:=λσ H Q=>to σ H λx H1=>tyV K T x H1/\t σ H1 λxs H2=>r x xs H2 Q
variable {o e:Expr}{es:List Expr}{to:TE}{t:TA}{name:Str}{apos cpos:Pos}{T id:String}{r:V->List V->Hp->VK->Prop}
theorem Qtt(pa:PlainAttrs T)(slot:Slot T name id)(hty:typeOf (.builtin id)=pure (.type "method_descriptor"))(hm:MtR X id r)(ho:PE X o to)
  (hbase:attributeBase o name X.env (eval o X.env)=eval o X.env:=by rfl) (hline:(apos.endLine == cpos.line)=true:=by rfl):PE X (.Call (.Attribute o name apos) [] [] cpos) (QzP X.K T r to):=by
 intro pins s σ H Q I h;refine wpAny_Call_method0_late hbase hline (thn (ho pins s σ H _ I h) λv s1 Z=>?_);obtain⟨x,H1,I1,r1,ty,q1⟩:=Z;obtain⟨h1,h2⟩:=Qt8 I1 r1 ty;exact⟨T,id,pa,slot,hty,h1,h2,Calls.callWith_builtin rfl (PySem.evalArgs_none (hm pins s1 σ H1 x [] v [] Q I1 r1 .nil q1))⟩
theorem Qol(pa:PlainAttrs T)(slot:Slot T name id)(hty:typeOf (.builtin id)=pure (.type "method_descriptor"))(hm:MtR X id r)(ho:PE X o to)(ha:PA X (e::es) t)
  (hbase:attributeBase o name X.env (eval o X.env)=eval o X.env:=by rfl)
  (hfew:((backTo cpos (starEach (e::es) X.env)).all (λx=> !x.1) && (backToKw cpos (keywordEach [] X.env)).all (λx=>x.1.isSome)
   && decide ((e::es).length+([]:List Keyword).length+(if([]:List Keyword).isEmpty then 0 else 1)<30))=true:=by rfl)
  (hline:(apos.endLine == cpos.line)=true:=by rfl) (hs:starEach (e::es) X.env=(false,eval e X.env)::starEach es X.env:=by rfl) (hplain:(backTo cpos (starEach es X.env)).any (·.1)=false:=by rfl):
  PE X (.Call (.Attribute o name apos) (e::es) [] cpos) (tBM X.K T r to t):=by
 intro pins s σ H Q I h;refine wpAny_Call_method_late hbase hfew hline rfl (thn (ho pins s σ H _ I h) λv s1 Z=>?_);obtain⟨x,H1,I1,r1,ty,q1⟩:=Z;obtain⟨h1,h2⟩:=Qt8 I1 r1 ty;refine⟨T,id,pa,slot,hty,h1,h2,?_⟩;have hA:=ha cpos pins s1 σ H1 _ I1 q1;rw[hs]at hA ⊢;refine Calls.callWith_builtin (by show(false || (backTo cpos (starEach es X.env)).any (·.1))=false;rw[hplain]<;>rfl) (Calls.evalArgs_plain ?_);exact thn hA λus s2 ⟨vs,H2,I2,r2,q2⟩=>hm pins s2 σ H2 x vs v us Q I2 r1 r2 q2
end
end L2
namespace L2
open PySem PySem.Spec PyProof.Rows
def MtM(X:Cx)(id:String)(r:V->List V->Hp->VK->Prop):Prop:=
 ∀(pins:List (Addr×Obj)) (s:Shared) (σ:St) (H:Hp) (x:V) (xs:List V) (v:Value) (us:List Value) (Q:VK),Inv X pins σ H s->RelV x v->QL xs us->r x xs H Q→
  wpAny (model X.prog X.w) X.A (call (.builtin id) (v::us)) (EP X pins σ Q) X.xe s
theorem QL.one{x:V}{us:List Value}(r:QL [x] us):∃u,us=[u]/\RelV x u:=vals1 r
theorem QL.zero:∀{us:List Value},QL [] us->us=[]
 | _,.nil=>rfl
theorem QL.eraseIdx:∀{xs:List V}{us:List Value}(i:Nat),QL xs us->QL (xs.eraseIdx i) (us.eraseIdx i)
 | _,_,_,.nil=> .nil
 | _,_,0,.cons _ t=>t
 | _,_,i+1,.cons r t=> .cons r (QL.eraseIdx i t)
theorem QL.rep{xs:List V}{us:List Value}(h:QL xs us):∀k:Nat,QL (List.replicate k xs).flatten (List.replicate k us).flatten
 | 0=> .nil
 | k+1=>by
  rw[Zas,Zas,Zay,Zay];exact QL.append h (QL.rep h k)
theorem QnM{α:Type}:∀(l:List α) (i:Nat),(l.eraseIdx i).length<=l.length
 | [],_=>Zh _
 | _::_,0=>ZbN _
 | _::r,i+1=>Nat.succ_le_succ (QnM r i)
theorem foldl_rep(its:List Value):∀(k:Nat) (acc:List Value),
  List.foldl (λx1 x2=>x1++x2) acc.toArray (List.replicate k its.toArray)=(acc++(List.replicate k its).flatten).toArray
 | 0,acc=>by simp
 | k+1,acc=>by
  have e:acc.toArray++its.toArray=(acc++its).toArray:=by simp
  have e2:(acc++its)++(List.replicate k its).flatten=acc++(List.replicate (k+1) its).flatten:=by
   rw[Zas,Zay,Zbc]
  rw[← e2,← foldl_rep its k (acc++its),← e,Zas,List.foldl_cons]
section
variable {X:Cx}{pins:List (Addr×Obj)}{σ:St}{H:Hp}{s:Shared}{l b:Addr}{xs ys zs:List V}
theorem Inv.QsS{its its':List Value}{n:Nat}{f:Array Value->Array Value}{t':Nat}(I:Inv X pins σ H s)(hH:H l=some (.lst xs))
  (e:s.heap.get? l=some {cls:= .type "list",data:= .seq its.toArray n}) (hf:f its.toArray=its'.toArray) (hv:QL ys its') (hz:ys.length<=sizeLine):
  Inv X pins σ (upd H l (.lst ys)) {s with heap:=s.heap.update l (Obj.mapSeq f),toks:=t'}:=by
 have q:=PySem.IsL.update e f;rw[hf]at q;refine I.write (x:=l) (e:=l) (by rw[hH];exact trivial) (.inl rfl) (λb' u hb hu=>(Heap.get?_update_other s.heap (Obj.mapSeq f) (Ne.symm hb)).trans hu) ⟨_,q⟩ ?_;exact⟨hz,its',_,hv,q⟩
theorem Inv.QAQ{its:List Value}{t':Nat}(I:Inv X pins σ H s)(hv:QL ys its)(hz:ys.length<=sizeLine):
  Inv X pins σ (upd H s.heap.objs.size (.lst ys)) {s with heap:=s.heap.push {cls:= .type "list",data:= .seq its.toArray},toks:=t'}:=
 I.laid (λ_ _ q=>Zb _ q) (Zh _) ⟨hz,its,0,hv,ZE _ rfl⟩
theorem Inv.fresh(I:Inv X pins σ H s):H s.heap.objs.size=none:=I.hok.fresh (Zh _)
theorem Inv.QoN(I:Inv X pins σ H s)(hH:H l=some (.lst xs)):xs.length<=sizeLine/\∃(its:List Value) (n:Nat),QL xs its/\xs.length=its.length/\s.heap.get? l=some {cls:= .type "list",data:= .seq its.toArray n}:=by
 obtain⟨z,its,n,r,e⟩:=I.hok l _ hH;exact⟨z,its,n,r,r.length,e⟩
theorem QwP{n:Nat}(h:n<=sizeLine):Builtin.List.listTooLong n=false:=by
 unfold Builtin.List.listTooLong;exact decide_eq_false ⋯
end
section
variable {X:Cx}
noncomputable def Qm4:V->List V->Hp->VK->Prop:=λx vs H Q=>∃l xs y,x= .ref l/\vs=[y]/\H l=some (.lst xs)/\xs.length<sizeLine/\Q .non (upd H l (.lst (xs++[y])))
theorem Qi6:MtM X "list.append" Qm4:=by
 intro pins s σ H x vs v us Q I rx rv h;obtain⟨l,xs,y,rfl,rfl,hH,hz,q⟩:=h;cases rx;obtain⟨u,rfl,ru⟩:=rv.one;obtain⟨z,its,n,r,hl,e⟩:=I.QoN hH;refine call_meets F.slot_list_append ⟨_,e,rfl⟩ F.entry_list_append (F.args_list_append_2 _ _) (PySem.list_append l its.toArray n u (by rw[Zv];omega)) ⟨e,?_⟩;refine⟨.non,_,I.QsS (its':=its++[u]) hH e (by simp) (r.append (.cons ru .nil)) ?_,rfl,q⟩;rw[Zx,Zbn];omega
noncomputable def Qqo:V->List V->Hp->VK->Prop:=λx vs H Q=>∃l xs i k y,x= .ref l/\vs=[.int i]/\H l=some (.lst xs)/\ -(2^63)<=i/\i<2^63/\seqIndex? i xs.length=some k/\xs[k]? =some y/\Q y (upd H l (.lst (xs.eraseIdx k)))
theorem QvP:MtM X "list.pop" Qqo:=by
 intro pins s σ H x vs v us Q I rx rv h;obtain⟨l,xs,i,k,y,rfl,rfl,hH,h1,h2,hk,hy,q⟩:=h;cases rx;obtain⟨u,rfl,ru⟩:=rv.one;obtain⟨t,rfl⟩:=ru;obtain⟨z,its,n,r,hl,e⟩:=I.QoN hH;obtain⟨w,hw,rw'⟩:=r.get hy
 refine call_meets F.slot_list_pop ⟨_,e,rfl⟩ F.entry_list_pop (F.args_list_pop_2 _ _)
  (MeetsSeq.list_pop_at l its.toArray n i t k w (fitsIndex_both h1 h2) (by rw[Zv,← hl];exact hk) (by rw[← Array.getElem?_toList];exact hw) (by rw[Zv];omega)) ⟨e,?_⟩
 refine⟨y,_,I.QsS (its':=its.eraseIdx k) hH e ?_ (r.eraseIdx k) ?_,rw',q⟩
 ·show its.toArray.eraseIdxIfInBounds k=(its.eraseIdx k).toArray;rw[List.eraseIdxIfInBounds_toArray]
 ·have:=QnM xs k;omega
noncomputable def Quu:V->List V->Hp->VK->Prop:=λx vs H Q=>∃l xs,x= .ref l/\vs=[]/\H l=some (.lst xs)/\Q .non (upd H l (.lst []))
theorem QwQ:MtM X "list.clear" Quu:=by
 intro pins s σ H x vs v us Q I rx rv h;obtain⟨l,xs,rfl,rfl,hH,q⟩:=h;cases rx;have hus:=rv.zero;subst hus;obtain⟨z,its,n,r,hl,e⟩:=I.QoN hH;refine call_meets F.slot_list_clear ⟨_,e,rfl⟩ F.entry_list_clear (F.args_list_clear_1 _) (AutoSeq1.list_clear_list_0 l its.toArray n (by rw[Zv];omega)) ⟨e,?_⟩;exact⟨.non,_,I.QsS (its':=[]) (ys:=[]) hH e rfl .nil (Zai _),rfl,q⟩
theorem len_rep{α:Type}(xs:List α)(k:Nat):(List.replicate k xs).flatten.length=k*xs.length:=by
 induction k with
 | zero=>simp
 | succ k ih=>rw[Zas,Zay,Zx,ih,Nat.succ_mul,Nat.add_comm]
end
section
variable {prog:Program}{w:World}{A:Around}{E:Value->Shared->Prop}{s:Shared}
end
section
variable {X:Cx}
end
end L2
namespace Att
open PySem PySem.W PySem.Calls PyProof.Rows
theorem Ql5{P:Params}{h:Heap}:∀(ns:List Int) (vs:List Value),WellAll P h vs (ns.map WData.int)->IntsAre vs ns:=by
 intro ns
 induction ns with
 | nil=>
  intro vs w;rw[List.map_nil]at w;cases w;exact .nil
 | cons n ns ih=>
  intro vs w;rw[ZM]at w;cases w with
  | cons a b=>
   cases a;exact .cons _ _ (ih _ b)
theorem QtH{l:OpenLaw}{n:Nat}(hn:l.most=some n){P:Params}{h:Heap}{args:List WData}{vals:List Value}
  (hpre:l.row.toRowW.claim.pre args=true) (hwl:WellAll P h vals args):
  ∃a vs ns,vals=[Value.ref a]/\args=[WData.list (ns.map WData.int)]/\h.get? a=some {cls:= .type "list",data:= .seq vs.toArray}/\IntsAre vs ns/\ns.length<=n:=by
 have hsh:WShape.hasAll [] args [.list .int]=true:=(pre_splitW hpre).1;have hc:l.pre.holds [] {args:=args}=true:=(pre_splitW hpre).2;obtain⟨d,r,rfl,h1,h2⟩:=hasAllW_cons hsh;obtain rfl:=hasAllW_nil h2;obtain⟨xs,rfl,h3⟩:=hasW_list h1;obtain⟨ns,rfl⟩:=items_int h3;have hlen:ns.length<=n:=by
  unfold OpenLaw.pre at hc;have h4:(WTm.not (.lt (.lit (.int (n:Int))) (.len (.arg 0)))).holds [] {args:=[.list (ns.map .int)]}=true:=by
   have h4:=(holds_andW hc).1;rw[hn]at h4;exact h4
  have h5:=condW_of h4 (w_not (w_lt w_lit (w_len_list (w_arg rfl))));rw[Zj]at h5;refine Nat.le_of_not_lt λq=>?_;have q':(n:Int)<((ns.length:Nat):Int):= ⋯
  first
   | (rw[decide_eq_true q']at h5;exact absurd h5 (by decide))
   | (simp at h5;omega)
 cases hwl with
 | cons w1 w2=>
  cases w2;cases w1 with
  | list ho hall=>exact⟨_,_,ns,rfl,rfl,ho,Ql5 ns _ hall,hlen⟩
theorem QsX(l:OpenLaw)(args:List WData):l.row.toRowW.claim.post args (.bool true) args=true:=
 postW_of (r:=l.row.toRowW) (X:=(true == true))
  (show WShape.has [] (.bool true) .bool=true by first | rfl | decide | simp[WShape.has,WShape.arms,WShape.armsAll])
  (show(WTm.eq .res (.lit (.bool true))).value [] {args:=args,res:=some (.bool true),after:=args}=some (.bool (true == true))from w_eq_bool (w_res rfl) w_lit) rfl
theorem Qqy{l:OpenLaw}{n:Nat}{q:Program}{loose:List Str}{XP:(Str->Option Value)->Heap->Prop}{YP:World->Heap->Prop}{d:DefRec}
  (hn:l.most=some n) (hdf:d.params.defaults=[])
  (call:∀(w:World) (s₀ s₁:Shared) (mg mb:Str->Option Value) (fa:Addr) (o:Obj) (pm cd doc:Value) (a:Addr) (vs:List Value) (ns:List Int),
   Ground q loose [] XP w s₀ mg mb s₁.heap->YP w s₁.heap→
   s₁.heap.get? fa=some o->o.data= .func (docDef d.name d.params d.body d.scope pm cd doc)->s₁.heap.CodeRec cd d.name->mg d.name=some (.ref fa)→
   s₁.heap.get? a=some {cls:= .type "list",data:= .seq vs.toArray}->IntsAre vs ns->ns.length<=n->s₁.gens= #[]→
   codeAny (model l.prog w) callerA (.call (.ref fa) ⟨[.ref a],[]⟩) (λr s'=>r= .ok (.ret (.bool true))/\OldK s₁.heap s'.heap/\s'.os=s₁.os/\AllBare s'.gens) s₁):
  WalkO q loose XP YP l.row.toRowW d [] (λf vs=>PySem.call f vs):=by
 intro w s₀ s₁ mg mb G Y fa o pm cd doc dV kV ho hd hcd hD hmg hg args vals as hpre hlay hrd hwl hlo;obtain rfl:dV= .none:=Dflts.none hD hdf;obtain rfl:kV= .none:=Dflts.noKw hD;obtain⟨a,vs,ns,rfl,rfl,hobj,hints,hlen⟩:=QtH hn hpre hwl;refine enter_call (codeAny_mono (call w s₀ s₁ mg mb fa o pm cd doc a vs ns G Y ho (fd_plain hd) hcd hmg hobj hints hlen hg) λr s' hq=>?_);obtain⟨rfl,h2,h3,h4⟩:=hq;exact⟨.inl ⟨.bool true,.bool true,[],rfl,λ_=>rfl,.bool true,QsX l _,λ_=>⟨List.Pairwise.nil,λ_ hm=>(nomatch hm)⟩⟩,h2,h3,h4⟩
section
variable {prog:Program}{w:World}{A:Around}{E:Value->Shared->Prop}{s:Shared}{K:Frag}
end
end Att
namespace L2
open PySem PySem.Spec PyProof.Rows
theorem Qb5:∀{vs:List Value}{ns:List Int},IntsAre vs ns->QL (ns.map V.int) vs
 | _,_,.nil=> .nil
 | _,_,.cons n t h=> .cons ⟨t,rfl⟩ (Qb5 h)
def Qz4(H:Hp):Prop:=∀b,H b=none∨∃o xs,H b=some (.frz o (.lst xs))
theorem QvY{P:Program}{w:World}{K:Fgg}{mg mb:Str->Option Value}{CX:CXT}{k:Nat}{fa a:Addr}{fd:FuncData}{x:Str}{sp:Sp}{s₁:Shared}{vs:List Value}{ns:List Int}
  (KX:K.In s₁.heap) (hns:s₁.heap.Ns mainGlobals mg) (hb:s₁.heap.Ns builtinsNs mb) (hbb:∀x:Str,x≠ "__name__" ->mb x=bootBuiltins x) (hlim:s₁.heap.NoLimit) (hg:s₁.gens= #[])
  (ha:s₁.heap.get? a=some {cls:= .type "list",data:= .seq vs.toArray}) (hi:IntsAre vs ns) (hl:ns.length<=sizeLine) (hr:QbS k callerA)
  (F:∀base:Heap,K.In base->base.Ns mainGlobals mg->QdK P w K mg base CX k fa fd [x] sp) (hbind:∀(s:Shared) (u:Value),BindsTo s fd ⟨[u],[]⟩ [(x,u)])
  (hsp:∀H:Hp,Qz4 H->SqL K H a (ns.map V.int)->sp [.ref a] H (λv _=>v= .bl true) λ_ _ _=>False)
  (hCX:∀H e s',CX [] H s₁ (λ_ _ _=>False) e s'->False):
  codeAny (model P w) callerA (.call (.ref fa) ⟨[.ref a],[]⟩) (λr s'=>r= .ok (.ret (.bool true))/\OldK s₁.heap s'.heap/\s'.os=s₁.os/\AllBare s'.gens) s₁:=by
 have rv:=Qb5 hi;have lenV:=hi.length
 have core:∀H:Hp,Qz4 H->SqL K H a (ns.map V.int)->HOk P w H s₁.heap->(∀b,H b≠none->b=a)->(H a≠none->K.lookup a=none)→
   codeAny (model P w) callerA (.call (.ref fa) ⟨[.ref a],[]⟩) (λr s'=>r= .ok (.ret (.bool true))/\OldK s₁.heap s'.heap/\s'.os=s₁.os/\AllBare s'.gens) s₁:=by
  intro H hO hS hok hA hK;have base_of:∀{b:Addr}{o:Obj},s₁.heap.get? b=some o->H b=none->(QiB s₁.heap H).get? b=some o:=λe n=>QvM e n;have noA:∀{b:Addr}{o:Obj}{es:Array DictEntry}{ep:Nat},s₁.heap.get? b=some o->o.data= .dict es ep->H b=none:=λ{b o es ep} e d=>by
   cases q:H b with
   | none=>rfl
   | some u=>
    have e':b=a:=hA b (by rw[q];simp);subst e';rw[ha]at e;cases e;have d':Data.seq vs.toArray _=Data.dict es ep:=d;cases d'
  have nsK:∀{b:Addr}{m:Str->Option Value},s₁.heap.Ns b m->(QiB s₁.heap H).Ns b m:=λ{b m} ⟨o,es,ep,e,d,r⟩=>⟨o,es,ep,base_of e (noA e d),d,r⟩;have hKb:K.In (QiB s₁.heap H):=λb o e=>base_of (KX b o e) (by
   cases q:H b with
   | none=>rfl
   | some u=>
    have e':b=a:=hA b (by rw[q];simp);subst e';rw[hK (by rw[q];simp)]at e;cases e)
  have hM:Mod K mg (QiB s₁.heap H):=⟨hKb,nsK hns,⟨mb,nsK hb,hbb⟩,let ⟨mc,h1,h2⟩:=hlim;⟨mc,nsK h1,h2⟩⟩;have e0:QsT P w K mg (QiB s₁.heap H) callerA [] s₁ H:=⟨rfl,hM,λb o e=>QxP e,Nat.le_of_eq (Qum _ _),trivial,λb hb=>absurd (show b∈([]:LAd)from hb) (by simp),hok,.of_eq hg⟩;refine codeAny_mono ((F _ hKb (nsK hns)).run callerA [] s₁ H ⟨[.ref a],[]⟩ [.ref a] [.ref a] _ _ hr e0 (hbind s₁ (.ref a)) (.cons rfl .nil) (hsp H hO hS)) λr s' h=>?_;cases r with
  | error e=>exact(hCX H e s' h).elim
  | ok fl=>
   cases fl with
   | next=>exact False.elim h
   | brk=>exact False.elim h
   | cont=>exact False.elim h
   | ret u=>
    obtain⟨v,H',os,bare,un,hok',r',q⟩:=h;have q':v= .bl true:=q;subst q';obtain rfl:u=Value.bool true:=r';refine⟨rfl,OldK.of_keep λb o e=>?_,os,bare⟩;cases q:H b with
    | none=>exact un.keep b o e q (by intro z;exact absurd (show b∈([]:LAd)from z) (by simp)) (by simp)
    | some u=>
     rcases hO b with z | ⟨ob,xs,z⟩
     ·rw[q]at z;cases z
     ·have z2:=un.frzs b ob _ z;obtain⟨e1,_⟩:=hok b _ z;obtain⟨e2,_⟩:=hok' b _ z2;rw[e]at e1;cases e1;exact e2
 cases hk:K.lookup a with
 | some o=>
  have e:=KX a o hk;rw[ha]at e;cases e;refine core (λ_=>none) (λ_=> .inl rfl) (.inr ⟨_,vs.toArray,_,hk,rfl,rfl,rfl,by rw[Zv,lenV];exact hl,by simpa using rv⟩) (λb u z=>by have z':(none:Option HO)=some u:=z;cases z') (λb z=>absurd rfl z) λz=>absurd rfl z
 | none=>
  refine core (λb=>if b=a then some (.frz {cls:= .type "list",data:= .seq vs.toArray} (.lst (ns.map V.int)))else none) (λb=>?_) (.inl (.inr ⟨{cls:= .type "list",data:= .seq vs.toArray},if_pos rfl⟩)) (λb u z=>?_) (λb z=>?_) λ_=>hk
  ·by_cases hb:b=a
   ·exact .inr ⟨_,_,if_pos hb⟩
   ·exact .inl (if_neg hb)
  ·by_cases hb:b=a
   ·have z':=(if_pos hb).symm.trans z;cases z';subst hb;exact⟨ha,by rw[Zj];exact hl,vs,_,rv,ha⟩
   ·have z':=(if_neg hb).symm.trans z;cases z'
  ·by_cases hb:b=a
   ·exact hb
   ·exact absurd (if_neg hb) z
end L2
namespace L2
open PySem PySem.Spec PyProof.Rows
noncomputable abbrev KOf{K:Fgg}{h:Heap}(_:K.In h):PySem.W.Frag:=K
end L2
namespace L2
open PySem PySem.Spec PyProof.Rows
noncomputable def QfY(s:Stmt):Arguments:=match s with
 | .FunctionDef _ a _ _ _ _ _ _ _ _=>a
 | _=>{posonlyargs:=[],args:=[],vararg:=none,kwonlyargs:=[],kw_defaults:=[],kwarg:=none,defaults:=[]}
noncomputable def Qcy(s:Stmt):List Stmt:=match s with
 | .FunctionDef _ _ b _ _ _ _ _ _ _=>b
 | _=>[]
noncomputable def QJ(s:Stmt):Scope:=match s with
 | .FunctionDef _ _ _ _ _ _ sc _ _ _=>sc
 | _=>{kind:= .function,names:=[],isGenerator:=false,isCoroutine:=false}
noncomputable abbrev CX0:CXT:=λ_ _ _ _ _ _=>False
noncomputable abbrev E0:XK:=λ_ _ _=>False
theorem Qxl{X:Cx}:QlL CX0 X E0:=λ_ _ _ _ _ _ _ h=>h.elim
structure Fun (K:Fgg) (x qual:Str) (st:Stmt) (f:Addr) (fd:FuncData):Prop where
 ex:∃(oc:Value) (od:Option Addr) (kV doc pm:Value) (an:Option Addr) (cdv ct:Value) (osl:Array (Option Value)),
  fd=PySem.W.fnOf x qual (QfY st) (Qcy st) (QJ st) .none kV doc pm an cdv ct/\K.lookup f=some ⟨oc,od,.func fd,osl⟩/\PySem.W.codeIn K cdv qual=true
 kp:PySem.W.keepIn K (.ref f)=true
section
variable {P:Program}{w:World}{K:Fgg}{mg:Str->Option Value}{base:Heap}
theorem Fun.ok{x qual:Str}{st:Stmt}{f:Addr}{fd:FuncData}{N ps:List Str}{k:Nat}{sp:Sp}(F:Fun K x qual st f fd)(S:QdB N ps (QJ st))(len:∀vs H Q E,sp vs H Q E->vs.length=ps.length)
  (hbody:∀(cdv:Value) (A:Around) (outer:List Env) (s:Shared) (H:Hp) (vs:List V) (Q:VK) (E:XK),QbS k (A.deeper (envOfC qual (QJ st) s.heap.objs.size f cdv))->sp vs H Q E→
   ∃t,PSs (Qjz CX0 P w K mg base N qual (QJ st) f cdv A outer s H E).nox (Qcy st) t/\t {nx:=λ_ H'=>Q .non H',rt:=Q} (start N vs) H):QdK P w K mg base CX0 (k+1) f fd ps sp:=by
 obtain⟨oc,od,kV,doc,pm,an,cdv,ct,osl,rfl,lk,hcd⟩:=F.ex;refine QB2 lk hcd S len λA outer s H vs Q E hr hsp=>?_;obtain⟨t,h,q⟩:=hbody cdv A outer s H vs Q E hr hsp;exact⟨t,h.nox,q⟩
theorem Fun.binds{x qual:Str}{st:Stmt}{f:Addr}{fd:FuncData}{ps:List Str}(F:Fun K x qual st f fd)
  (h:∀(kV doc pm:Value) (an:Option Addr) (cdv ct:Value) (us:List Value),us.length=ps.length->bindArgs (PySem.W.fnOf x qual (QfY st) (Qcy st) (QJ st) .none kV doc pm an cdv ct) ⟨us,[]⟩=pure (ps.zip us)):Binds K fd ps []:=by
 obtain⟨oc,od,kV,doc,pm,an,cdv,ct,osl,rfl,lk,hcd⟩:=F.ex;exact .all (h kV doc pm an cdv ct)
theorem QBa{x qual:Str}{st:Stmt}{f:Addr}{oc:Value}{od an:Option Addr}{osl:Array (Option Value)}{kV doc pm cdv ct:Value}(l:K.lookup f=some ⟨oc,od,.func (PySem.W.fnOf x qual (QfY st) (Qcy st) (QJ st) .none kV doc pm an cdv ct),osl⟩)
  (c:PySem.W.codeIn K cdv qual=true) (k:PySem.W.keepIn K (.ref f)=true):Fun K x qual st f (PySem.W.fnOf x qual (QfY st) (Qcy st) (QJ st) .none kV doc pm an cdv ct):=⟨⟨oc,od,kV,doc,pm,an,cdv,ct,osl,rfl,l,c⟩,k⟩
end
section
variable {X:Cx}
end
theorem Qvm{A B:Prop}(h:B):if false=true then A else B:=by
 rw[if_neg ZaI];exact h
theorem QvU{A B:Prop}(h:A):if true=true then A else B:=by
 rw[if_pos rfl];exact h
def QU(H H':Hp):Prop:=∀b o,H b=some o->H' b=some o
theorem QU.refl(H:Hp):QU H H:=λ_ _ h=>h
theorem QU.trans{H H1 H2:Hp}(a:QU H H1)(b:QU H1 H2):QU H H2:=λc o h=>b c o (a c o h)
theorem QU.free{H H':Hp}(e:QU H H'){l:Addr}(h:H' l=Option.none):H l=Option.none:=by
 cases q:H l with
 | none=>rfl
 | some o=>
  rw[e l o q]at h;cases h
end L2
namespace L2
open PySem PySem.Spec PyProof.Rows
theorem Qmt(env:Env)(body:Str×NameKind->List (Str×Addr)->Sem (ForInStep (List (Str×Addr))))
  (hb:∀n k cs,body (n,k) cs=if(k == NameKind.free)=true then(do let c ← cellOf env n;pure (ForInStep.yield ((n,c)::cs)))else pure (ForInStep.yield cs)):
  ∀(names:List (Str×NameKind)) (acc:List (Str×Addr)),(∀y∈names,y.2= .free->∃c,env.cells.lookup y.1=some c)->(∀x c,acc.lookup x=some c->env.cells.lookup x=some c)→
   ∃cl,forIn names acc body=(pure cl:Sem _)/\(∀x c,cl.lookup x=some c->env.cells.lookup x=some c)/\(∀x,acc.lookup x≠none->cl.lookup x≠none)/\∀y∈names,y.2= .free->cl.lookup y.1≠none
 | [],acc,_,ha=>⟨acc,rfl,ha,λ_ h=>h,λy hy=>by simp at hy⟩
 | (n,k)::r,acc,hn,ha=>by
  rw[Zcs,hb];have hr:∀y∈r,y.2= .free->∃c,env.cells.lookup y.1=some c:=λy hy=>hn y (Zc _ hy);by_cases hk:k= .free
  ·subst hk;obtain⟨c,hc⟩:=hn (n,.free) Zm rfl;have hce:cellOf env n=pure c:=by unfold cellOf;rw[show env.cells.lookup n=some c from hc]
   rw[if_pos (by rfl),hce];obtain⟨cl,e,h1,h2,h3⟩:=Qmt env body hb r ((n,c)::acc) hr (λx c' e=>by
    rw[Zz]at e;cases q:x == n with
    | true=>rw[q]at e;cases e;rw[beq_iff_eq]at q;rw[q];exact hc
    | false=>rw[q]at e;exact ha x c' e)
   have hcons:∀x,((n,c)::acc).lookup x≠none->cl.lookup x≠none:=h2;refine⟨cl,by simpa using e,h1,λx hx=>hcons x ?_,λy hy hf=>?_⟩
   ·rw[Zz];cases x == n with
    | true=>simp
    | false=>exact hx
   ·rcases Zo.mp hy with rfl | hy
    ·exact hcons _ (by simp[Zz])
    ·exact h3 y hy hf
  ·rw[if_neg (by simpa using hk)];obtain⟨cl,e,h1,h2,h3⟩:=Qmt env body hb r acc hr ha;refine⟨cl,by simpa using e,h1,h2,λy hy hf=>?_⟩;rcases Zo.mp hy with rfl | hy
   ·exact absurd hf hk
   ·exact h3 y hy hf
theorem Qxq(h:∀y∈scope.names,y.2= .free->∃c,env.cells.lookup y.1=some c):
  ∃cl,closureFor scope env=pure cl/\(∀x c,cl.lookup x=some c->env.cells.lookup x=some c)/\∀y∈scope.names,y.2= .free->∃c,cl.lookup y.1=some c:=by
 unfold closureFor;obtain⟨cl,e,h1,_,h3⟩:=Qmt env (λx cs=>match x with | (name,kind)=>if(kind == NameKind.free)=true then(do let c ← cellOf env name;pure (ForInStep.yield ((name,c)::cs)))else pure (ForInStep.yield cs)) (λ_ _ _=>rfl) scope.names [] h (λx c e=>by simp at e);refine⟨cl,?_,h1,λy hy hf=>Option.ne_none_iff_exists'.mp (h3 y hy hf)⟩;show(forIn scope.names [] _ >>= λr=>pure r)=_;rw[e];rfl
noncomputable def cxc(X:Cx)(N':List Str)(scope:Scope)(cl:List (Str×Addr))(C:Addr)(fp:LAd)(s3:Shared)(H3:Hp):Cx:=
 {X with N:=N',s₀:=s3,H₀:=H3,env:=compEnvC scope cl C X.env,outer:=X.stack,ex:=fp,fn:=λx=>decide (scope.names.lookup x=some .cell),pn:=[],xe:=λ_ _=>False}
def PTs(X:Cx)(ifs:List Expr)(t:TT):Prop:=
 ∀(pins:List (Addr×Obj)) (s:Shared) (σ:St) (H:Hp) (Q:Bool->Hp->Prop),Inv X pins σ H s->t σ H Q→
  wpAny (model X.prog X.w) X.A (forIn ifs true λc r=>if r=true then do let ok ← isTrue c X.env (eval c X.env);pure (ForInStep.yield ok)else pure (ForInStep.yield r)) (TP X pins σ Q) X.xe s
noncomputable def QDa:TT:=λ_ H Q=>Q true H
theorem Qzg:PTs X [] QDa:=λ_ _ _ H _ I h=>wpAny_tests_nil ⟨H,I,h⟩
theorem Qy4(h:PT X c t):PTs X [c] t:=λpins s σ H Q I q=>wpAny_tests_one (h pins s σ H Q I q)
def Qlx(X:Cx)(N':List Str)(scope:Scope)(σ σ':St):Prop:=
 σ'.length=N'.length/\∀(j:Nat) (x:Str) (v:V),N'[j]? =some x->σ'[j]? =some (some v)->scope.names.lookup x=some .free/\∃i:Nat,X.N[i]? =some x/\σ[i]? =some (some v)/\(X.env.kindOf x=some .cell∨X.env.kindOf x=some .free)
noncomputable def Qop(wi:TI)(cap:St->St->Prop)(g:TG)(tc:TT)(te:TE):TE:=λσ H Q=>wi σ H λJ H1=>∃σc,cap σ σc/\∀D,H1 D=none->∃W:Nat->Nat->List V->Hp->Prop,
 (∃m,W 0 m [] (upd H1 D (.lst [])))/\∀i m acc H2,W i m acc H2->(J.stop i H2/\Q (.ref D) H2)∨
  (J.go i H2/\∀x H3,J.yld i H2 x H3->g x σc H3 λσ2 H4=>(∀(j:Nat) v,σc[j]? =some (some v)->σ2[j]? =some (some v))/\tc σ2 H4 λb H5=>if b=true then
   te σ2 H5 λy H6=>H6 D=some (.lst acc)/\acc.length<sizeLine/\∃m',m'<m/\W (i+1) m' (acc++[y]) (upd H6 D (.lst (acc++[y])))
   else ∃m',m'<m/\W (i+1) m' acc H5)
theorem Qc2{env:Env}:∀{names:List (Str×NameKind)}{x:Str},names.lookup x=some .free→
  (names.map λ(n,k)=>if(k == NameKind.free && env.scope.kind == .function && env.kindOf n == some .cell)then(n,NameKind.cell)else(n,k)).lookup x=some .cell∨
  (names.map λ(n,k)=>if(k == NameKind.free && env.scope.kind == .function && env.kindOf n == some .cell)then(n,NameKind.cell)else(n,k)).lookup x=some .free
 | [],_,h=>by simp at h
 | (n,k)::r,x,h=>by
  have ih:= @Qc2 env r x;rw[ZM];cases hx:x == n with
  | true=>
   simp only[Zz,hx]at h;cases h;dsimp only;split
   ·left;simp[Zz,hx]
   ·right;simp[Zz,hx]
  | false=>
   simp only[Zz,hx]at h;dsimp only;split
   ·simp only[Zz,hx];exact ih h
   ·simp only[Zz,hx];exact ih h
theorem Qfj{env:Env}:∀{names:List (Str×NameKind)}{x:Str},
  ((names.map λ(n,k)=>if(k == NameKind.free && env.scope.kind == .function && env.kindOf n == some .cell)then(n,NameKind.cell)else(n,k)).lookup x=some .cell∨
  (names.map λ(n,k)=>if(k == NameKind.free && env.scope.kind == .function && env.kindOf n == some .cell)then(n,NameKind.cell)else(n,k)).lookup x=some .free)→
  ∃k,(x,k)∈names/\(k= .free∨k= .cell)
 | [],_,h=>by simp at h
 | (n,k)::r,x,h=>by
  have ih:= @Qfj env r x;rw[ZM]at h;cases hx:x == n with
  | true=>
   have hn:x=n:=by simpa using hx
   subst hn;dsimp only at h;split at h
   ·rename_i hc;simp only[Zg]at hc;refine⟨k,Zm,.inl (by simpa using hc.1.1)⟩
   ·simp only[Zz,hx]at h;refine⟨k,Zm,?_⟩;rcases h with h | h
    ·exact .inr (Option.some.inj h)
    ·exact .inl (Option.some.inj h)
  | false=>
   dsimp only at h;have:∃k,(x,k)∈r/\(k= .free∨k= .cell):=by
    apply ih;split at h
    ·simpa only[Zz,hx]using h
    ·simpa only[Zz,hx]using h
   obtain⟨k',h1,h2⟩:=this;exact⟨k',Zc _ h1,h2⟩
theorem QhL:∀(names:List (Str×NameKind)) (n:Nat) (acc:List (Str×Addr)) (x:Str) (c:Addr),(cellsFrom n names acc).lookup x=some c->acc.lookup x=some c∨(n<=c/\(x,NameKind.cell)∈names)
 | [],_,_,_,_,h=> .inl h
 | (nm,k)::r,n,acc,x,c,h=>by
  unfold cellsFrom at h;split at h
  ·rename_i hk;have hk:k= .cell:=by simpa using hk
   rcases QhL r (n+1) ((nm,n)::acc) x c h with h | ⟨h1,h2⟩
   ·rw[Zz]at h;cases q:x == nm with
    | true=>
     rw[q]at h;cases h;have:x=nm:=by simpa using q
     exact .inr ⟨Zh _,by rw[this,hk];exact Zm⟩
    | false=>rw[q]at h;exact .inl h
   ·exact .inr ⟨⋯,Zc _ h2⟩
  ·rcases QhL r n acc x c h with h | ⟨h1,h2⟩
   ·exact .inl h
   ·exact .inr ⟨h1,Zc _ h2⟩
theorem QoE:∀(names:List (Str×NameKind)) (n:Nat) (acc:List (Str×Addr)) (x:Str) (c:Addr),(x,NameKind.cell)∈names->(cellsFrom n names acc).lookup x=some c->n<=c
 | (nm,k)::r,n,acc,x,c,hm,h=>by
  unfold cellsFrom at h;split at h
  ·by_cases hr:(x,NameKind.cell)∈r
   ·have:=QoE r (n+1) _ x c hr h;omega
   ·have hx:x=nm:=by
     rcases Zo.mp hm with e | e
     ·exact(Prod.mk.inj e).1
     ·exact absurd e hr
    rcases QhL r (n+1) ((nm,n)::acc) x c h with h | ⟨h1,_⟩
    ·rw[Zz,show(x == nm)=true by simpa using hx]at h;cases h;exact Zh _
    ·omega
  ·rename_i hk;rcases Zo.mp hm with e | e
   ·exact absurd (by rw[← (Prod.mk.inj e).2];rfl) hk
   ·exact QoE r n acc x c e h
theorem QoX:∀(names:List (Str×NameKind)) (n:Nat) (acc:List (Str×Addr)),(∀x y c,acc.lookup x=some c->acc.lookup y=some c->x=y)->(∀x c,acc.lookup x=some c->c<n)→
  ∀x y c,(cellsFrom n names acc).lookup x=some c->(cellsFrom n names acc).lookup y=some c->x=y
 | [],_,_,hi,_,x,y,c,h1,h2=>hi x y c h1 h2
 | (nm,k)::r,n,acc,hi,hb,x,y,c,h1,h2=>by
  unfold cellsFrom at h1 h2;split at h1
  ·rename_i hk;rw[if_pos hk]at h2;refine QoX r (n+1) ((nm,n)::acc) (λx y c h1 h2=>?_) (λx c h=>?_) x y c h1 h2
   ·rw[Zz]at h1 h2;cases qx:x == nm with
    | true=>
     rw[qx]at h1;cases h1;cases qy:y == nm with
     | true=>rw[show x=nm by simpa using qx,show y=nm by simpa using qy]
     | false=>rw[qy]at h2;exact absurd (hb y _ h2) (Zag _)
    | false=>
     rw[qx]at h1;cases qy:y == nm with
     | true=>rw[qy]at h2;cases h2;exact absurd (hb x _ h1) (Zag _)
     | false=>rw[qy]at h2;exact hi x y c h1 h2
   ·rw[Zz]at h;cases qx:x == nm with
    | true=>rw[qx]at h;cases h;exact Zbr _
    | false=>rw[qx]at h;exact Zbd (hb x c h)
  ·rename_i hk;rw[if_neg hk]at h2;exact QoX r n acc hi hb x y c h1 h2
theorem QhQ:∀(names:List (Str×NameKind)) (n:Nat) (acc:List (Str×Addr)) (x:Str),(∃c,acc.lookup x=some c)->∃c,(cellsFrom n names acc).lookup x=some c
 | [],_,_,_,h=>h
 | (nm,k)::r,n,acc,x,h=>by
  unfold cellsFrom;split
  ·refine QhQ r (n+1) _ x ?_;rw[Zz];cases x == nm with
   | true=>exact⟨n,rfl⟩
   | false=>exact h
  ·exact QhQ r n acc x h
theorem Qpn:∀(names:List (Str×NameKind)) (n:Nat) (acc:List (Str×Addr)) (x:Str),(x,NameKind.cell)∈names->∃c,(cellsFrom n names acc).lookup x=some c
 | (nm,k)::r,n,acc,x,hm=>by
  unfold cellsFrom;rcases Zo.mp hm with e | e
  ·obtain⟨e1,e2⟩:=Prod.mk.inj e;subst e1;rw[← e2,if_pos (by rfl)];exact QhQ r (n+1) _ x ⟨n,by simp[Zz]⟩
  ·split
   ·exact Qpn r (n+1) _ x e
   ·exact Qpn r n acc x e
theorem Qnk(lo:Nat):∀(names:List (Str×NameKind)) (h:Heap) (acc:List (Str×Addr)),(∀x c,acc.lookup x=some c->lo<=c->h.IsCell c none)->lo<=h.objs.size→
  ∀x c,(cellsFrom h.objs.size names acc).lookup x=some c->lo<=c->(pushCells h names).IsCell c none
 | [],_,_,ha,_,x,c,e,hl=>ha x c e hl
 | (nm,k)::r,h,acc,ha,hlo,x,c,e,hl=>by
  unfold cellsFrom at e;unfold pushCells;split at e
  ·rename_i hk;rw[if_pos hk];have hs:=Zat h {cls:= .type "cell",data:= .cell none};refine Qnk lo r (h.push {cls:= .type "cell",data:= .cell none}) ((nm,h.objs.size)::acc) (λx c e hl=>?_) (by rw[hs];omega) x c (by rw[hs];exact e) hl;rw[Zz]at e;cases q:x == nm with
   | true=>rw[q]at e;cases e;exact⟨_,ZE _ rfl,rfl⟩
   | false=>rw[q]at e;exact(ha x c e hl).keeps λb o e=>Zb _ e
  ·rename_i hk;rw[if_neg hk];exact Qnk lo r h acc ha hlo x c e hl
theorem QrL
  (hQ:∀h':Heap,h'.Ns s.heap.objs.size (λ_=>none)->(∀b o,s.heap.get? b=some o->h'.get? b=some o)->((∀x c,cl.lookup x=some c->c<s.heap.objs.size)->∀x c,(cellsFrom (s.heap.objs.size+1) scope.names cl).lookup x=some c->s.heap.objs.size+1<=c->h'.IsCell c none)→
   Q (newEnv scope s.heap.objs.size globals (cellsFrom (s.heap.objs.size+1) scope.names cl) qual none .none (some env) builtins) {s with heap:=h'}):
  wpAny M A (newFunctionEnv scope globals cl [] qual none .none (some env) builtins) Q E s:=by
 simp only[newFunctionEnv,Option.isSome_some,if_true];refine wpAny_bind (wpAny_alloc ?_);refine wpAny_bind (wpAny_layCells _ (λname kind cells=>by cases hkc:kind == NameKind.cell<;>simp[hkc]) _ _ _ _ ?_);have hs:=Zat s.heap {cls:= .type "dict",data:= .dict #[]};rw[show({s with heap:=s.heap.push {cls:= .type "dict",data:= .dict #[]}}:Shared).heap.objs.size=s.heap.objs.size+1 from hs];refine wpAny_bind (wpAny_pure (wpAny_pure ?_));refine hQ _ ((Heap.Ns.new s.heap (.type "dict")).keeps (pushCells_keeps _ _)) (λb o e=>pushCells_keeps _ _ b o (Zb _ e)) λhb x c e hl=>?_;refine Qnk (s.heap.objs.size+1) scope.names (s.heap.push {cls:= .type "dict",data:= .dict #[]}) cl (λx c e hl=>?_) (by rw[hs];exact Zh _) x c (by rw[hs];exact e) hl;exact absurd (Zw (hb x c e) (Zp (ZbN _) hl)) (Zag _)
section
variable {X:Cx}{tg iter elt:Expr}{ifs:List Expr}{scope:Scope}{N':List Str}{pos:Pos}
structure Qfi (X:Cx) (N':List Str) (scope:Scope):Prop where
 kind:scope.kind= .function
 own:∀y∈scope.names,y.2= .cell->scope.names.lookup y.1=some .cell
 loc:∀y∈scope.names,y.2= .local ->scope.names.lookup y.1=some .local
 free:∀y∈scope.names,y.2= .free->X.env.kindOf y.1=some .cell∨X.env.kindOf y.1=some .free
theorem Qv8{pins:List (Addr×Obj)}{σ σc:St}{H3:Hp}{s3:Shared}{fp:LAd}{cl:List (Str×Addr)}{h':Heap}{tk:Nat}(S:Qfi X N' scope)(I:Inv X pins σ H3 s3)
  (hf:∀b∈fp,Qei X pins H3 b) (hfl:∀b∈fp,b<s3.heap.objs.size) (hc1:∀x c,cl.lookup x=some c->X.env.cells.lookup x=some c) (hc2:∀y∈scope.names,y.2= .free->∃c,cl.lookup y.1=some c) (cap:Qlx X N' scope σ σc)
  (hns:h'.Ns s3.heap.objs.size (λ_=>none)) (hk:∀b o,s3.heap.get? b=some o->h'.get? b=some o)
  (hown:(∀x c,cl.lookup x=some c->c<s3.heap.objs.size)->∀x c,(cellsFrom (s3.heap.objs.size+1) scope.names cl).lookup x=some c->s3.heap.objs.size+1<=c->h'.IsCell c none):
  Inv (cxc X N' scope (cellsFrom (s3.heap.objs.size+1) scope.names cl) s3.heap.objs.size fp s3 H3) [] σc H3 {s3 with heap:=h',toks:=tk}:=by
 have nold:∀b,b∈fp->b≠s3.heap.objs.size:=λb hb e=>absurd (hfl b hb) (by rw[e];exact Zag _);have cellOld:∀x c,cl.lookup x=some c->∃v,s3.heap.IsCell c v:=λx c e=>I.cell x c (hc1 x c e);have cellLt:∀x c,cl.lookup x=some c->c<s3.heap.objs.size:=λx c e=>let ⟨v,q⟩:=cellOld x c e;q.lt;have cellNew:∀c v,s3.heap.IsCell c v->h'.IsCell c v:=λc v ⟨o,ho,hd⟩=>⟨o,hk c o ho,hd⟩;have hown:=hown cellLt;have look:∀x c,(cellsFrom (s3.heap.objs.size+1) scope.names cl).lookup x=some c->cl.lookup x=some c∨(s3.heap.objs.size+1<=c/\(x,NameKind.cell)∈scope.names):=QhL scope.names _ cl
 refine⟨⟨I.ok.mod,S.kind,I.ok.glob,I.ok.blt,Zh _,QoX scope.names _ cl (λx y c h1 h2=>I.ok.inj x y c (hc1 x c h1) (hc1 y c h2)) (λx c e=>Zbd (cellLt x c e)),λx hx=>?_,λx c e1 e2=>?_,I.ok.hd,I.ok.frames,.inl rfl,λb hb=>⟨nold b hb,λx c e=>?_⟩,
  I.bs,Zp I.ok.bsz I.sz,λb o e hb=>?_,λb hb hs=>?_,I.stack,I.Qrp⟩,rfl,I.bare,Un.kept hk,⟨_,hns,λj x v h1 h2 h3=>?_⟩,λx c e=>?_,I.hok.fresh (Zh _),λx c e=>?_,λp hp=>absurd (show p∈([]:List (Addr×Obj))from hp) (by simp),I.hok.kept hk,cap.1⟩
 ·obtain⟨k,hm,hk'⟩:=Qfj hx;rcases hk' with rfl | rfl
  ·exact QhQ scope.names _ cl x (hc2 _ hm rfl)
  ·exact Qpn scope.names _ cl x hm
 ·have e1:decide (scope.names.lookup x=some .cell)=true:=e1;have:=QoE scope.names _ cl x c (Zar (of_decide_eq_true e1)) e2;exact Zp (ZbN _) this
 ·rcases look x c e with e | ⟨e,_⟩
  ·exact(hf b hb).2.2.2.2.1 x c (hc1 x c e)
  ·intro z;rw[z]at e;exact absurd (Zw (hfl b hb) (Zp (ZbN _) e)) (Zag _)
 ·rcases(hf b hb).2.2.2.1 with z | z
  ·exact I.ok.noex b o e z
  ·exact absurd (Zw (Zy e) (Zp I.ok.bsz z)) (Zag _)
 ·rcases Zo.mp (I.Ql1 b hs)with e | z
  ·exact(hf b hb).2.1 e
  ·exact(hf b hb).2.2.1 z
 ·obtain⟨hl,i,e1,e2,e3⟩:=cap.2 j x v h1 h2;obtain⟨m,hn,look'⟩:=I.loc;obtain⟨u,r,l⟩:=look' i x v e1 e2 (e3.elim (λz=> .inr (.inl z)) λz=> .inr (.inr z));refine⟨u,r,.inr ⟨Qc2 hl,?_⟩⟩;rcases l with⟨k,_⟩ | ⟨_,c,ec,hcell⟩
  ·rcases e3 with z | z<;>(rw[k]at z;cases z)
  ·obtain⟨c',ec'⟩:=QhQ scope.names (s3.heap.objs.size+1) cl x (hc2 (x,.free) (Zar hl) rfl);rcases look x c' ec' with q | ⟨_,q⟩
   ·have:=hc1 x c' q;rw[ec]at this;cases this;exact⟨c,ec',cellNew c _ hcell⟩
   ·have:=S.own _ q rfl;rw[hl]at this;cases this
 ·rcases look x c e with q | ⟨q,_⟩
  ·obtain⟨v,q⟩:=cellOld x c q;exact⟨v,cellNew c v q⟩
  ·exact⟨none,hown x c e q⟩
 ·rcases look x c e with q | ⟨q,_⟩
  ·exact I.freeC x c (hc1 x c q)
  ·exact I.hok.fresh ⋯
theorem QtB(J:Nat->Shared->Prop)
  (turn:∀n s,J n s->wpAny (model prog w) A (pyNext it) (λr s1=>match r with
   | none=>R (.ok .next) s1
   | some v=>wpAny (model prog w) A (letOwnedTupleGo tg it v) (λ_ s2=>wpAny (model prog w) A (assign tg env v) (λ_ s3=>
     wpAny (model prog w) A (forIn ifs true λc r=>if r=true then do let ok ← isTrue c env (eval c env);pure (ForInStep.yield ok)else pure (ForInStep.yield r)) (λok s4=>
      if ok=true then wpAny (model prog w) A (eval elt env) (λx s5=>wpAny (model prog w) A (call (.builtin "list.append") [acc,x]) (λ_ s6=>∃m,m<n/\J m s6) (λ_ _=>False) s5) (λ_ _=>False) s4
      else ∃m,m<n/\J m s4) (λ_ _=>False) s3) (λ_ _=>False) s2) (λ_ _=>False) s1) (λ_ _=>False) s)
  (n:Nat) (h:J n s0):codeAny (model prog w) A (.compLoop (.ListComp elt [⟨tg,iter,ifs,0⟩] scope pos) 0 it acc env) R s0:=by
 have up:∀{α:Type}{t:Sem α}{Q:α->Shared->Prop}{E:Value->Shared->Prop}{s:Shared},wpAny (model prog w) A t Q (λ_ _=>False) s->wpAny (model prog w) A t Q E s:=λh=>wpAny_mono h (λ_ _ q=>q) λ_ _ f=>f.elim;refine codeAny_loop (by rfl) J (λk sk hk=>?_) n h;show wpAny (model prog w) A ((compTurn (.ListComp elt [⟨tg,iter,ifs,0⟩] scope pos) 0 it acc env).onRaise (λx=>do noteFrame x env;theTreesLotGoes x)) _ _ sk;refine wpAny_noted (up ?_);rw[compTurn_list];refine wpAny_bind (wpAny_standAt (wpAny_bind (thn (turn k sk hk) λr s1 h1=>?_)));cases r with
 | none=>exact wpAny_pure h1
 | some v=>
  refine wpAny_bind (thn h1 λ_ s2 h2=>wpAny_bind (thn h2 λ_ s3 h3=>wpAny_bind (thn h3 λok s4 h4=>?_)));cases ok with
  | false=>exact wpAny_pure ⟨rfl,h4⟩
  | true=>exact wpAny_bind (wpAny_bind (thn h4 λx s5 h5=>wpAny_bind (thn h5 λ_ s6 h6=>wpAny_pure (wpAny_pure ⟨rfl,h6⟩))))
theorem Qwk{it D C:Addr}{fp:LAd}{tn:Nat->Heap->Prop}{J:It}{cl:List (Str×Addr)}{s3 s4:Shared}{H3:Hp}{σc:St}{g:TG}{tc:TT}{te:TE}{Q:Hp->Prop}(hcalm:X.calm=true)
  (T:Turn X.prog X.w X.K tg J fp it tn)
  (hg:PG (cxc X N' scope cl C fp s3 H3) tg g) (ht:PTs (cxc X N' scope cl C fp s3 H3) ifs tc) (he:PE (cxc X N' scope cl C fp s3 H3) elt te)
  (I:Inv (cxc X N' scope cl C fp s3 H3) [] σc H3 s4) (st:tn 0 s4.heap) (ff:∀b∈fp,Qei (cxc X N' scope cl C fp s3 H3) [] H3 b)
  (W:Nat->Nat->List V->Hp->Prop) (hw:∃m,W 0 m [] H3)
  (turn:∀i m acc H2,W i m acc H2->(J.stop i H2/\Q H2)∨
   (J.go i H2/\∀x H5,J.yld i H2 x H5->g x σc H5 λσ2 H6=>(∀(j:Nat) v,σc[j]? =some (some v)->σ2[j]? =some (some v))/\tc σ2 H6 λb H7=>if b=true then
    te σ2 H7 λy H8=>H8 D=some (.lst acc)/\acc.length<sizeLine/\∃m',m'<m/\W (i+1) m' (acc++[y]) (upd H8 D (.lst (acc++[y])))
    else ∃m',m'<m/\W (i+1) m' acc H7))
  {R:Result->Shared->Prop}(hR:∀H' s',Inv (cxc X N' scope cl C fp s3 H3) [] σc H' s'->Q H'->R (.ok .next) s'):
  codeAny (model X.prog X.w) X.A (.compStart (.ListComp elt [⟨tg,iter,ifs,0⟩] scope pos) 0 (.ref it) (.ref D) (compEnvC scope cl C X.env)) R s4:=by
 obtain⟨m0,w0⟩:=hw;have stat:∀{H':Hp},(∀b∈fp,H' b=none)->∀b∈fp,Qei (cxc X N' scope cl C fp s3 H3) [] H' b:=λhn b hb=>⟨hn b hb,(ff b hb).2⟩;have loop:codeAny (model X.prog X.w) X.A (.compLoop (.ListComp elt [⟨tg,iter,ifs,0⟩] scope pos) 0 (.ref it) (.ref D) (compEnvC scope cl C X.env)) R s4:=by
  refine QtB (λn s'=>∃i acc H',Inv (cxc X N' scope cl C fp s3 H3) [] σc H' s'/\tn i s'.heap/\(∀b∈fp,H' b=none)/\W i n acc H') ?_ m0 ⟨0,[],H3,I,st,λb hb=>(ff b hb).1,w0⟩;rintro n s5 ⟨i,acc,H5,I5,st5,fr5,w5⟩;rcases turn i n acc H5 w5 with⟨stop,q⟩ | ⟨go,step⟩
  ·refine thn (T.done (cxc X N' scope cl C fp s3 H3) rfl rfl rfl hcalm i [] s5 σc H5 _ I5 (stat fr5) st5 stop) λr s6 Z=>?_;obtain⟨hr,I6⟩:=Z;subst hr;exact hR H5 s6 I6 q
  ·refine thn (T.item (cxc X N' scope cl C fp s3 H3) rfl rfl rfl hcalm i [] s5 σc H5 _ I5 (stat fr5) st5 go) λr s6 Z=>?_;obtain⟨u,hr,h6⟩:=Z;subst hr;refine thn h6 λ_ s7 Z=>?_;obtain⟨x,H7,I7,r7,y7,st7,fr7⟩:=Z;have I7':=I7.pinned (stat fr7) (T.obj _ _ st7);refine thn (hg _ s7 σc H7 x u _ I7' r7 (step x H7 y7)) λ_ s8=>exJ λσ8 H8 I8 k8 q8=>?_;refine thn (ht _ s8 σ8 H8 _ I8 q8) λok s9 Z=>?_;obtain⟨H9,I9,q9⟩:=Z
   have again:∀{H':Hp}{s':Shared}{acc':List V},Inv (cxc X N' scope cl C fp s3 H3) ([]++Qjo fp s7.heap) σ8 H' s'->(∃m',m'<n/\W (i+1) m' acc' H')→
     ∃m,m<n/\∃i acc H',Inv (cxc X N' scope cl C fp s3 H3) [] σc H' s'/\tn i s'.heap/\(∀b∈fp,H' b=none)/\W i m acc H':=λ{H' s' acc'} I' ⟨m',hm,w'⟩=>by
    have pin:∀b∈fp,∀o,s7.heap.get? b=some o->s'.heap.get? b=some o/\H' b=none:=λb hb o e=>by
     have z:=I'.pin (b,o) (Zf _ (Zf _ (Qiv hb e)));exact⟨z.1,z.2.1⟩
    refine⟨m',hm,i+1,acc',H',?_,T.keep _ _ _ st7 λb hb o e=>(pin b hb o e).1,λb hb=>?_,w'⟩
    ·exact I'.QiI.weak (I.len.trans I8.len.symm) k8
    ·obtain⟨o,e,_⟩:=T.obj _ _ st7 b hb;exact(pin b hb o e).2
   cases ok with
   | false=>
    rw[if_neg ZaI]at q9 ⊢;exact again I9 q9
   | true=>
    rw[if_pos rfl]at q9 ⊢;refine thn (he _ s9 σ8 H9 _ I9 q9) λyv s10 Z=>?_;obtain⟨y,H10,I10,r10,e10,l10,q10⟩:=Z;refine thn (Qi6 _ s10 σ8 H10 (.ref D) [y] (.ref D) [yv] (λv H11=>H11=upd H10 D (.lst (acc++[y]))) I10 rfl (.cons r10 .nil) ⟨D,acc,y,rfl,rfl,e10,l10,rfl⟩) λ_ s11 Z=>?_;obtain⟨_,H11,I11,_,e11⟩:=Z;subst e11;exact again I11 q10
 exact codeAny_compStart_list loop (T.self _ 0 _ _ _ st loop)
theorem Qqh{wi:TI}{g:TG}{tc:TT}{te:TE}{cp:Pos}{use:Option (Value->Sem Unit)}{pins:List (Addr×Obj)}{s:Shared}{σ:St}{H:Hp}{QV:Value->Shared->Prop}{Q:VK}(hcalm:X.calm=true)(S:Qfi X N' scope)(hi:PI X tg iter wi)
  (hin:∀cl C fp s3 H3,PG (cxc X N' scope cl C fp s3 H3) tg g/\PTs (cxc X N' scope cl C fp s3 H3) ifs tc/\PE (cxc X N' scope cl C fp s3 H3) elt te)
  (hs:∀x,foldedSetIterable iter X.env x=pure x) (I:Inv X pins σ H s) (h:Qop wi (Qlx X N' scope) g tc te σ H Q)
  (fin:∀(D C:Addr) (H':Hp) (s':Shared),Inv X pins σ H' s'->H' C=none->C≠X.env.locals->X.s₀.heap.objs.size<=C->(∀x c,X.env.cells.lookup x=some c->c≠C)->(∀p∈X.pn++pins,p.1≠C)->(∃m,s'.heap.Ns C m)->Q (.ref D) H'→
   compPost (model X.prog X.w) X.A X.xe use QV (.ref D) C (.ok .next) s'):
  wpAny (model X.prog X.w) X.A (comprehension (.ListComp elt [⟨tg,iter,ifs,0⟩] scope pos) scope X.env cp (newList []) false (eval iter X.env) use) QV X.xe s:=by
 obtain⟨cl,hcl,hc1,hc2⟩:=Qxq λy hy hf=>I.ok.has y.1 (S.free y hy hf);refine wpAny_comprehension_free rfl hs hcl S.kind S.loc ?_;refine thn (hi pins s σ H _ I h) λv s1 h1=>thn h1 λitv s2 h2=>?_;obtain⟨it,fp,tn,J,H2,e,I2,T,st2,f2,σc,cap,hw⟩:=h2;subst e;have hD0:H2 s2.heap.objs.size=none:=I2.hok.fresh (Zh _);obtain⟨W,hW0,turn⟩:=hw _ hD0;have fpl:∀b∈fp,b<s2.heap.objs.size:=λb hb=>let ⟨o,e,_⟩:=T.obj _ _ st2 b hb;Zy e;have hlist:∀D:Addr,D=s2.heap.objs.size->∃x,x=D:=λD _=>⟨D,rfl⟩;refine wpAny_newObj_type ?_
 have I3:Inv X pins σ (upd H2 s2.heap.objs.size (.lst [])) {s2 with heap:=s2.heap.push {cls:= .type "list",dict:=none,data:= .seq ([]:List Value).toArray}}:=
  I2.laid (t':=s2.toks) (λb o e=>Zb _ e) (Zh _) ⟨Zai _,[],0,.nil,ZE _ rfl⟩
 generalize hs3:({s2 with heap:=s2.heap.push {cls:= .type "list",dict:=none,data:= .seq ([]:List Value).toArray}}:Shared)=s3 at I3;have hs3':s3.heap=s2.heap.push {cls:= .type "list",dict:=none,data:= .seq ([]:List Value).toArray}:=by rw[← hs3]
 have sz3:s3.heap.objs.size=s2.heap.objs.size+1:=by rw[hs3',Zat]
 have old3:∀b o,s2.heap.get? b=some o->s3.heap.get? b=some o:=λb o e=>by rw[hs3'];exact Zb _ e
 have f3:∀b∈fp,Qei X pins (upd H2 s2.heap.objs.size (.lst [])) b:=λb hb=>⟨by rw[Q0 (Zaa (fpl b hb))];exact(f2 b hb).1,(f2 b hb).2⟩;have fpl3:∀b∈fp,b<s3.heap.objs.size:=λb hb=>by rw[sz3];exact Zbd (fpl b hb)
 refine QrL (λh4 hns4' keep4 hown4=>?_);have I4:=Qv8 (tk:=s3.toks) S I3 f3 fpl3 hc1 hc2 cap hns4' keep4 hown4;have hout:∀H' s',Inv (cxc X N' scope (cellsFrom (s3.heap.objs.size+1) scope.names cl) s3.heap.objs.size fp s3 (upd H2 s2.heap.objs.size (.lst []))) [] σc H' s'->Inv X pins σ H' s':=λH' s' J'=>
  I3.QCs J'.os J'.base J'.hok J'.bare λb hb=>⟨(f3 b hb).2.2.2.1,(f3 b hb).2.1,(f3 b hb).2.2.2.2.1,(f3 b hb).2.2.2.2.2⟩
 obtain⟨hg,ht,he⟩:=hin (cellsFrom (s3.heap.objs.size+1) scope.names cl) s3.heap.objs.size fp s3 (upd H2 s2.heap.objs.size (.lst []));have fc:∀b∈fp,Qei (cxc X N' scope (cellsFrom (s3.heap.objs.size+1) scope.names cl) s3.heap.objs.size fp s3 (upd H2 s2.heap.objs.size (.lst []))) [] (upd H2 s2.heap.objs.size (.lst [])) b:=λb hb=>
  ⟨(f3 b hb).1,Zaa (fpl3 b hb),λhs'=>(Zo.mp (I3.Ql1 b hs')).elim (f3 b hb).2.1 (f3 b hb).2.2.1,.inl hb,λx c e=>(by
   rcases QhL scope.names _ cl x c e with e | ⟨e,_⟩
   ·exact(f3 b hb).2.2.2.2.1 x c (hc1 x c e)
   ·intro z;rw[z]at e;exact absurd (Zw (fpl3 b hb) (Zp (ZbN _) e)) (Zag _)),λp hp=>absurd (show p∈([]:List (Addr×Obj))from hp) (by simp)⟩
 have hC1:s3.heap.objs.size≠X.env.locals:=Ne.symm (Zaa I3.lt);refine Qwk (W:=W) hcalm T hg ht he I4 (T.keep _ _ _ st2 λb hb o e=>keep4 b o (old3 b o e)) fc hW0 turn λH' s' J' q=>?_;have O:=hout H' s' J';refine fin _ _ H' s' O J'.free hC1 (Zp I3.sz (Zh _)) (λx c e z=>?_) (λp hp z=>?_) (let ⟨m,hn,_⟩:=J'.loc;⟨m,hn⟩) q
 ·obtain⟨v,o,ho,_⟩:=I3.cell x c e;exact absurd (Zy ho) (by rw[z];exact Zag _)
 ·exact absurd (Zy (I3.pin p hp).1) (by rw[z];exact Zag _)
theorem Inv.Qxi(I:Inv X pins σ H s)(hs:Heap.SameBut C s.heap h')(hn:H C=none)(hL:C≠X.env.locals)(h1:X.s₀.heap.objs.size<=C)
  (h2:∀x c,X.env.cells.lookup x=some c->c≠C) (h3:∀p∈X.pn++pins,p.1≠C):Inv X pins σ H {s with heap:=h'}:=
 I.turned (t':=s.toks) (λb o hb e=>(hs.2 b hb).trans e) hn hL (.inr h1) h2 h3
theorem QrB(hcalm:X.calm=true)(S:Qfi X N' scope)(hi:PI X tg iter wi)
  (hin:∀cl C fp s3 H3,PG (cxc X N' scope cl C fp s3 H3) tg g/\PTs (cxc X N' scope cl C fp s3 H3) ifs tc/\PE (cxc X N' scope cl C fp s3 H3) elt te)
  (hs:∀x,foldedSetIterable iter X.env x=pure x:=by intro _;rfl):PE X (.ListComp elt [⟨tg,iter,ifs,0⟩] scope pos) (Qop wi (Qlx X N' scope) g tc te):=by
 intro pins s σ H Q I h;rw[eval_ListComp];refine Qqh hcalm S hi hin hs I h λD C H' s' O h1 h2 h3 h4 h5 Z q=>?_;obtain⟨m,hm⟩:=Z;exact⟨m,hm,λh' hs'=>⟨.ref D,H',O.Qxi hs' h1 h2 h3 h4 h5,rfl,q⟩⟩
theorem Qxu(hN:X.N.Nodup)(hx1:X.N[i]? =some x)(hx:Loc X.env.scope x)(hf:X.fn x=true∨X.env.scope.names.lookup x=some .local)(hcalm:X.calm=true)(S:Qfi X N' scope)(hi:PI X tg iter wi)
  (hin:∀cl C fp s3 H3,PG (cxc X N' scope cl C fp s3 H3) tg g/\PTs (cxc X N' scope cl C fp s3 H3) ifs tc/\PE (cxc X N' scope cl C fp s3 H3) elt te)
  (hs:∀x,foldedSetIterable iter X.env x=pure x:=by intro _;rfl):
  PS X (.Assign [.Name x pos'] (.ListComp elt [⟨tg,iter,ifs,0⟩] scope pos) spos) (QeS (Qop wi (Qlx X N' scope) g tc te) (QgV i)):=by
 have hb:∃b,swapsWith (.ListComp elt [⟨tg,iter,ifs,0⟩] scope pos) (some (.Name x pos')) spos.line X.env=pure b:=⟨_,rfl⟩;obtain⟨b,hb⟩:=hb;cases b with
 | false=>exact QjI hN hx1 hx (QrB hcalm S hi hin hs) hb hf
 | true=>
  intro pins s σ H D I h;rw[exec_Assign_Name_used _ _ _ _ hb];refine wpAny_bind (wpAny_standAt (wpAny_bind ?_));show wpAny _ X.A (do let _ ← comprehension (.ListComp elt [⟨tg,iter,ifs,0⟩] scope pos) scope X.env _ (newList []) false (eval iter X.env) (some (assign (.Name x pos') X.env))) _ _ s;refine wpAny_bind (thn (Qqh hcalm S hi hin hs I h λDl C H' s' O h1 h2 h3 h4 h5 ⟨m,hm⟩ q=>?_) λ_ s' hq=>wpAny_pure (wpAny_pure hq));refine wpAny_assign_Name (Qnx O hN hx1 hx (v:= .ref Dl) rfl (λs2 I2 hsb=>?_) hf);obtain⟨a,sb,ha⟩:=hsb;have haC:C≠a:=by
   rcases ha with rfl | ha
   ·exact h2
   ·exact Ne.symm (h4 _ _ ha)
  exact⟨m,hm.sameBut sb haC,λh' hs'=>⟨_,H',I2.Qxi hs' h1 h2 h3 h4 h5,q⟩⟩
end
end L2
namespace L2
open PySem PySem.Spec PyProof.Rows
section
theorem Inv.Qsh{t':Nat}{ch:LAd}{T:Addr}{ts:List V}(I:Inv X pins σ H s)(hf:∀b∈ch,Qei X pins H b)(k:∀b o,b∉ch->s.heap.get? b=some o->h'.get? b=some o)(hp:∀b∈ch,∃o,h'.get? b=some o)
  (hT:s.heap.objs.size<=T) (hnew:ts.length<=sizeLine/\∃its:List Value,QL ts its/\IsTup h' T its.toArray):Inv X pins σ (upd H T (.tup ts)) {s with heap:=h',toks:=t'}:=by
 have hn:H T=none:=I.hok.fresh hT;have neT:∀b u,H b=some u->b≠T:=λb u e=>Qcb e hn;have nch:∀b u,H b=some u->b∉ch:=λb u e hb=>by rw[(hf b hb).1]at e;cases e
 have ltT:∀b o,s.heap.get? b=some o->b≠T:=λb o e=>Zaa (Zw (Zy e) hT)
 refine I.step (g':=s.gens) (d':=s.drawn) (ch:=ch) (λb hb=>?_) (λb o _ _ hc e _=>k b o hc e) (λb o _ _ hc e _=>⟨o.slots,k b o hc e⟩) (λb o _ e n=>by rw[Q0 (ltT b o e)];exact n)
  (λb o hc e=>⟨o,k b o hc e⟩) (λb xs e=>by rw[Q0 (neT b _ e)];exact e) (λb o u e=>by rw[Q0 (neT b _ e)];exact e) (λb ps e=>⟨#[],by rw[Q0 (neT b _ e),e];simp⟩) (λm hm=>?_) (λb u e=>?_) I.bare
 ·obtain⟨f0,f1,f2,f3,f4,f5⟩:=hf b hb;exact⟨f3,f1,f4,f5⟩
 ·obtain⟨o,es,ep,ho,r⟩:=hm;exact⟨o,es,ep,k _ o (λz=>(hf _ z).2.1 rfl) ho,r⟩
 ·by_cases hb:b=T
  ·subst hb;rw[Qau]at e;cases e;exact hnew
  ·rw[Q0 hb]at e;refine(I.hok b u e).Qlg (λc v hc q=>k c v ?_ q) (λc q=>by rw[Q0 (neT c _ q)];exact q) λc xs q=>by rw[Q0 (neT c _ q)];exact q
   rcases hc with z | z
   ·rw[z];exact nch b u e
   ·exact nch c _ z
theorem Inv.turns{t':Nat}{ch:LAd}(I:Inv X pins σ H s)(hf:∀b∈ch,Qei X pins H b)(k:∀b o,b∉ch->s.heap.get? b=some o->h'.get? b=some o):Inv X pins σ H {s with heap:=h',toks:=t'}:=by
 have nch:∀b u,H b=some u->b∉ch:=λb u e hb=>by rw[(hf b hb).1]at e;cases e
 refine I.step (g':=s.gens) (d':=s.drawn) (ch:=ch) (λb hb=>?_) (λb o _ _ hc e _=>k b o hc e) (λb o _ _ hc e _=>⟨o.slots,k b o hc e⟩) (λb o _ e n=>n)
  (λb o hc e=>⟨o,k b o hc e⟩) (λb xs e=>e) (λb o u e=>e) (λb ps e=>⟨#[],by rw[e];simp⟩) (λm hm=>?_) (λb u e=>?_) I.bare
 ·obtain⟨f0,f1,f2,f3,f4,f5⟩:=hf b hb;exact⟨f3,f1,f4,f5⟩
 ·obtain⟨o,es,ep,ho,r⟩:=hm;exact⟨o,es,ep,k _ o (λz=>(hf _ z).2.1 rfl) ho,r⟩
 ·refine(I.hok b u e).Qlg (λc v hc q=>k c v ?_ q) (λc q=>q) λc xs q=>q;rcases hc with z | z
  ·rw[z];exact nch b u e
  ·exact nch c _ z
end
noncomputable def Ite(K:Fgg)(a:Addr):It:=
 ⟨λi H=>∃xs x,SqL K H a xs/\xs[i]? =some x,λi H v H'=>∃p x,v= .ref p/\H p=none/\H'=upd H p (.tup [.int i,x])/\∀xs,SqL K H a xs->xs[i]? =some x,λi H=>∃xs,SqL K H a xs/\xs.length<=i⟩
theorem mm0{a:Addr}{l:LAd}:a∈a::l:= .head _
theorem mm1{a b:Addr}{l:LAd}:a∈b::a::l:= .tail _ mm0
theorem mm2{a b c:Addr}{l:LAd}:a∈b::c::a::l:= .tail _ mm1
theorem mm3{a b c d:Addr}{l:LAd}:a∈b::c::d::a::l:= .tail _ mm2
theorem mm4{a b c d e:Addr}{l:LAd}:a∈b::c::d::e::a::l:= .tail _ mm3
theorem nmm{a b:Addr}{l:LAd}(hb:b∉l)(ha:a∈l):b≠a:=λe=>hb (e▸ha)
theorem fa1{p:Addr->Prop}{a:Addr}{l:LAd}(h:p a)(t:∀x∈l,p x):∀x∈a::l,p x:=List.forall_mem_cons.2 ⟨h,t⟩
def NL(h:Heap)(b:Addr):Prop:=∃o,h.get? b=some o/\o.cls≠ .type "list" /\∀v,o.data≠ .cell v
theorem NL.it{h:Heap}(q:h.IsListIter b l k):NL h b:=by
 obtain⟨o,ho,hc,hd⟩:=q;exact⟨o,ho,by rw[hc];simp,λv z=>by rw[hd]at z;cases z⟩
theorem NL.zip(hz:IsZip h z T1 T2 x):NL h z:=⟨_,hz,by simp,λv z=>by cases z⟩
theorem NL.tup{h:Heap}(q:h.get? b=some {cls:= .type "tuple",data:= .seq a}):NL h b:=⟨_,q,by simp,λv z=>by cases z⟩
theorem NL.obj(n:NL h b):∃o,h.get? b=some o/\∀v,o.data≠ .cell v:=let ⟨o,e,_,v⟩:=n;⟨o,e,v⟩
theorem NL.ex(n:NL h b):∃o,h.get? b=some o:=let ⟨o,e,_⟩:=n;⟨o,e⟩
theorem NL.lt(n:NL h b):b<h.objs.size:=let ⟨_,e⟩:=n.ex;Zy e
theorem NL.apart{X:Cx}{H:Hp}{s:Shared}(n:NL s.heap b)(I:Inv X pins σ H s)(hn:H b=none)(hq:SqL X.K H l ys):l≠b:=λe=>by
 subst e;rcases hq with(hq | ⟨_,hq⟩) | ⟨o',its,k,hk,hc',_⟩
 ·rw[hn]at hq;cases hq
 ·rw[hn]at hq;cases hq
 ·obtain⟨o,ho,hc,_⟩:=n;rw[I.kIn l o' hk]at ho;exact hc (Option.some.inj ho▸hc')
theorem Qtl{P:Program}{w:World}{K:Fgg}{es:List Expr}{tk:Nat}{tpos:Pos}(a e it:Addr)(hne:e≠it):Turn P w K (.Tuple es tk tpos) (Ite K a) [e,it] e (λi h=>∃old,IsEnum h e it (i:Int) old/\h.IsListIter it a i) where
 mem:=mm0
 obj:=λi h st b hb=>by
  obtain⟨old,he,hi⟩:=st;exact(fa1 (p:=NL h) ⟨_,he,by simp,λv z=>by cases z⟩ (fa1 (.it hi) (List.forall_mem_nil _)) b hb).obj
 keep:=λi h h' st k=>by
  obtain⟨old,he,hi⟩:=st;exact⟨old,k e mm0 _ he,hi.at (k it mm1)⟩
 item:=by
  intro X hP hw hK hc i pins s σ H E I hf st hg;subst hP hw hK;obtain⟨old,he,hi⟩:=st;obtain⟨xs,x,hq,hx⟩:=hg;obtain⟨its,rv,p,hz⟩:=I.list hq;obtain⟨u,hu,ru⟩:=rv.get hx;refine wpAny_pyNext_enum_item he hi p.isList (x:=u) (by simpa using hu) hne λh1 heo hi1 ht1 hz1 hk1=>?_;refine⟨.ref s.heap.objs.size,rfl,wpAny_letOwnedTupleGo_enum heo λh2 he2 hs2=>?_⟩
  replace hs2:Heap.SameBut e h1 h2:=hs2
  have helt:e<s.heap.objs.size:=Zy he;have hilt:it<s.heap.objs.size:=by obtain⟨o,ho,_⟩:=hi;exact Zy ho
  have ht2:IsTup h2 s.heap.objs.size [Value.int i s.toks,u].toArray:=⟨_,(hs2.2 _ (ZbC helt)).trans ht1,rfl,_,rfl⟩;have hi2:h2.IsListIter it a (i+1):=hi1.extBut hs2.extBut (Ne.symm hne);have kk:∀b o,b∉[e,it]->s.heap.get? b=some o->h2.get? b=some o:=λb o hb q=>by
   have h1:b≠e:=λz=>hb (by simp[z]);have h2:b≠it:=λz=>hb (by simp[z]);exact hs2.extBut b o h1 (hk1 b o h1 h2 q)
  refine⟨.ref s.heap.objs.size,upd H s.heap.objs.size (.tup [.int i,x]),I.Qsh (t':=s.toks+1) hf kk (λb hb=>?_) (Zh _) ⟨by show 2<=sizeLine;decide,_,.cons ⟨_,rfl⟩ (.cons ru .nil),ht2⟩,rfl,
   ⟨_,x,rfl,I.hok.fresh (Zh _),rfl,λys hy=>by rw[I.Qd1 hy hq];exact hx⟩,⟨u,?_,hi2⟩,λb hb=>?_⟩
  ·have hb:b=e∨b=it:=by simpa using hb
   rcases hb with rfl | rfl
   ·exact⟨_,he2⟩
   ·obtain⟨o,ho,_⟩:=hi2;exact⟨o,ho⟩
  ·have:((i+1:Nat):Int)=(i:Int)+1:=by push_cast;rfl
   rw[this];exact he2
  ·have hb':b=e∨b=it:=by simpa using hb
   have:b≠s.heap.objs.size:=by
    rcases hb' with rfl | rfl
    ·exact Zaa helt
    ·exact Zaa hilt
   rw[Q0 this];exact(hf b hb).1
 done:=by
  intro X hP hw hK hc i pins s σ H E I hf st hg;subst hP hw hK;obtain⟨old,he,hi⟩:=st;obtain⟨xs,hq,hx⟩:=hg;obtain⟨its,rv,p,hz⟩:=I.list hq;have hl:=rv.length;refine wpAny_pyNext_enum_end (I.ok.hd hc) he hi p.isList (by simp;omega) λh1 eb=>⟨rfl,?_⟩;exact I.turns (t':=s.toks) hf λb o hb q=>eb b o (λz=>hb (by simp[z])) q
 self:=λ_ _ _ _ _ st h=>by
  obtain⟨old,he,hi⟩:=st;exact wpAny_pyIter_enum he h
section
noncomputable def QBW(K:Fgg)(ta:TA):TI:=λσ H R=>ta σ H λvs H1=>∃a,vs=[.ref a]/\(∃xs,SqL K H1 a xs)/\R (Ite K a) H1
theorem QxJ{a:Expr}{ta:TA}{p pos:Pos}{es:List Expr}{tk:Nat}{tpos:Pos}(hg:Gl X "enumerate")(hm:X.mg "enumerate" =none)(ha:PA X [a] ta)(hs:starEach [a] X.env=[(false,eval a X.env)]):
  PI X (.Tuple es tk tpos) (.Call (.Name "enumerate" p) [a] [] pos) (QBW X.K ta):=by
 intro pins s σ H R I h;refine Call_ (Qc9 I hg hm PyProof.Rows.boot_enumerate (ZV (thn (ha pos pins s σ H _ I h) λus s1 ⟨vs,H1,I1,r1,q1⟩=>?_) hs rfl));obtain⟨l,e,⟨xs,hq⟩,q⟩:=q1;subst e;obtain⟨u,rfl,ru⟩:=vals1 r1;cases ru;obtain⟨its,rv,pl,hz⟩:=I1.list hq;refine call_enumerate_list pl.isList λh2 he2 hi2 hz2 hk2=>?_;have I2:Inv X pins σ H1 {s1 with heap:=h2}:=I1.kept (t':=s1.toks) hk2;refine wpAny_pyIter_enum he2 ⟨_,[s1.heap.objs.size+1,s1.heap.objs.size],_,_,H1,rfl,I2,Qtl l _ _ (Nat.succ_ne_self _),⟨_,he2,hi2⟩,λb hb=>?_,q⟩;have hb:b=s1.heap.objs.size+1∨b=s1.heap.objs.size:=by simpa using hb
 have hle:s1.heap.objs.size<=b:=by rcases hb with rfl | rfl<;>omega
 exact I1.Qlk hle (I1.hok.fresh hle)
end
noncomputable def Itz(K:Fgg)(a b:Addr):It:=
 ⟨λi H=>∃xs ys x y,SqL K H a xs/\SqL K H b ys/\xs[i]? =some x/\ys[i]? =some y,λi H v H'=>∃p x y,v= .ref p/\H p=none/\H'=upd H p (.tup [x,y])/\(∀xs,SqL K H a xs->xs[i]? =some x)/\∀ys,SqL K H b ys->ys[i]? =some y,
  λi H=>∃xs ys,SqL K H a xs/\SqL K H b ys/\(xs.length<=i∨ys.length<=i)⟩
structure Qrf (z TI TO i1 i2:Addr):Prop where
 a:TI≠z
 b:TO≠z
 c:i1≠z
 d:i2≠z
 e:TI≠TO
 f:TI≠i1
 g:TI≠i2
 h:TO≠i1
 i:TO≠i2
 j:i1≠i2
theorem QlU{h:Heap}(hz:IsZip h z T1 T2 x)(hA:IsPair h T1 a b)(hB:IsPair h T2 c d)(h1:h.IsListIter i1 l1 k)(h2:h.IsListIter i2 l2 k):∀b∈[z,T1,T2,i1,i2],NL h b:=
 fa1 (.zip hz) (fa1 (.tup hA) (fa1 (.tup hB) (fa1 (.it h1) (fa1 (.it h2) λ_ h=>nomatch h))))
theorem QtS{X:Cx}{s:Shared}(D:Qrf z T1 T2 i1 i2)(I:Inv X pins σ H s)(hf:∀b∈[z,T1,T2,i1,i2],Qei X pins H b)(O:∀b∈[z,T1,T2,i1,i2],NL s.heap b)(hq1:SqL X.K H l1 xs)(hq2:SqL X.K H l2 ys):ZipApart z T1 T2 i1 i2 l1 l2:=by
 have A1:=λb hb=>(O b hb).apart I (hf b hb).1 hq1;have A2:=λb hb=>(O b hb).apart I (hf b hb).1 hq2;exact⟨D.a,D.b,D.c,D.d,D.e,D.f,D.g,D.h,D.i,D.j,A1 z mm0,A1 T2 mm2,A1 i1 mm3,A1 i2 mm4,A2 z mm0,A2 T2 mm2,A2 i1 mm3,A2 i2 mm4⟩
theorem Qwy{P:Program}{w:World}{K:Fgg}{es:List Expr}{tk:Nat}{tpos:Pos}(l1 l2 z TI TO i1 i2:Addr)(D:Qrf z TI TO i1 i2):
  Turn P w K (.Tuple es tk tpos) (Itz K l1 l2) [z,TI,TO,i1,i2] z (λi h=>IsZip h z TI TO .none/\IsPair h TI (.ref i1) (.ref i2)/\(∃a b,IsPair h TO a b)/\h.IsListIter i1 l1 i/\h.IsListIter i2 l2 i) where
 mem:=mm0
 obj:=λi h st b hb=>by
  obtain⟨hz,hTI,⟨p,q,hTO⟩,h1,h2⟩:=st;exact(QlU hz hTI hTO h1 h2 b hb).obj
 keep:=λi h h' st k=>by
  obtain⟨hz,hTI,⟨p,q,hTO⟩,h1,h2⟩:=st;exact⟨k z mm0 _ hz,k TI mm1 _ hTI,⟨p,q,k TO mm2 _ hTO⟩,h1.at (k i1 mm3),h2.at (k i2 mm4)⟩
 item:=by
  intro X hP hw hK hc i pins s σ H E I hf st hg;subst hP hw hK;obtain⟨hz,hTI,⟨a0,b0,hTO⟩,h1,h2⟩:=st;obtain⟨xs,ys,x,y,hq1,hq2,hx,hy⟩:=hg;obtain⟨its,rv,p,hzz⟩:=I.list hq1;obtain⟨its2,rv2,p2,hzz2⟩:=I.list hq2;obtain⟨u,hu,ru⟩:=rv.get hx;obtain⟨u2,hu2,ru2⟩:=rv2.get hy;have O:=QlU hz hTI hTO h1 h2;refine wpAny_pyNext_zip_item (QtS D I hf O hq1 hq2) hz hTI hTO h1 h2 p.isList p2.isList (x:=u) (y:=u2) (by simpa using hu) (by simpa using hu2) λh3 z3 TO3 a3 b3 T3 sz3 k3=>?_;refine⟨.ref s.heap.objs.size,rfl,wpAny_letOwnedTupleGo_zip z3 λh4 z4 hs4=>?_⟩
  replace hs4:Heap.SameBut z h3 h4:=hs4
  have kk:∀b o,b∉[z,TI,TO,i1,i2]->s.heap.get? b=some o->h4.get? b=some o:=λb o hb q=>
   hs4.extBut b o (nmm hb mm0) (k3 b o (nmm hb mm0) (nmm hb mm2) (nmm hb mm3) (nmm hb mm4) q)
  have TI4:IsPair h4 TI (.ref i1) (.ref i2):=hs4.extBut _ _ D.a (k3 _ _ D.a D.e D.f D.g hTI);have TO4:IsPair h4 TO u u2:=hs4.extBut _ _ D.b TO3;have a4:h4.IsListIter i1 l1 (i+1):=a3.extBut hs4.extBut D.c;have b4:h4.IsListIter i2 l2 (i+1):=b3.extBut hs4.extBut D.d
  exact⟨.ref s.heap.objs.size,upd H s.heap.objs.size (.tup [x,y]),I.Qsh (t':=s.toks) hf kk (λb hb=>(QlU z4 TI4 TO4 a4 b4 b hb).ex) (Zh _) ⟨by show 2<=sizeLine;decide,_,.cons ru (.cons ru2 .nil),_,(hs4.2 _ (ZbC (O z mm0).lt)).trans T3,rfl,_,rfl⟩,rfl,
   ⟨_,x,y,rfl,I.hok.fresh (Zh _),rfl,λzs hy'=>by rw[I.Qd1 hy' hq1];exact hx,λzs hy'=>by rw[I.Qd1 hy' hq2];exact hy⟩,⟨z4,TI4,⟨_,_,TO4⟩,a4,b4⟩,λb hb=>by rw[Q0 (Zaa (O b hb).lt)];exact(hf b hb).1⟩
 done:=by
  intro X hP hw hK hc i pins s σ H E I hf st hg;subst hP hw hK;obtain⟨hz,hTI,⟨a0,b0,hTO⟩,h1,h2⟩:=st;obtain⟨xs,ys,hq1,hq2,hx⟩:=hg;obtain⟨its,rv,p,hzz⟩:=I.list hq1;obtain⟨its2,rv2,p2,hzz2⟩:=I.list hq2;have hl:=rv.length;have hl2:=rv2.length;refine wpAny_pyNext_zip_end (I.ok.hd hc) (QtS D I hf (QlU hz hTI hTO h1 h2) hq1 hq2) hz hTI hTO h1 h2 p.isList p2.isList (by rcases hx with hx | hx;(left;simp;omega);(right;simp;omega)) λh3 k3=>⟨rfl,?_⟩;exact I.turns (t':=s.toks) hf λb o hb q=>k3 b o (nmm hb mm0) (nmm hb mm2) (nmm hb mm3) (nmm hb mm4) q
 self:=λ_ _ _ _ _ st h=>wpAny_pyIter_zip st.1 h
section
noncomputable def QCY(K:Fgg)(ta:TA):TI:=λσ H R=>ta σ H λvs H1=>∃a b,vs=[.ref a,.ref b]/\(∃xs,SqL K H1 a xs)/\(∃ys,SqL K H1 b ys)/\R (Itz K a b) H1
theorem QAw{a b:Expr}{ta:TA}{p pos:Pos}{es:List Expr}{tk:Nat}{tpos:Pos}(hg:Gl X "zip")(hm:X.mg "zip" =none)(ha:PA X [a,b] ta)(hs:starEach [a,b] X.env=[(false,eval a X.env),(false,eval b X.env)])(hs2:starEach [b] X.env=[(false,eval b X.env)]):
  PI X (.Tuple es tk tpos) (.Call (.Name "zip" p) [a,b] [] pos) (QCY X.K ta):=by
 intro pins s σ H R I h;refine Call_ (Qc9 I hg hm PyProof.Rows.boot_zip (ZV (thn (ha pos pins s σ H _ I h) λus s1 ⟨vs,H1,I1,r1,q1⟩=>?_) (by rw[hs,hs2]) (by rw[hs2];rfl)));obtain⟨l,l2,e,⟨xs,hq⟩,⟨ys,hq2⟩,q⟩:=q1;subst e;obtain⟨u,u2,rfl,ru,ru2⟩:=vals2 r1;cases ru;cases ru2;obtain⟨its,rv,pl,hz⟩:=I1.list hq;obtain⟨its2,rv2,pl2,hz2⟩:=I1.list hq2;refine call_zip_2 pl.isList pl2.isList λh2 hz hTI hTO h1 h2' hsz hk2=>?_;have I2:Inv X pins σ H1 {s1 with heap:=h2}:=I1.kept (t':=s1.toks) hk2;refine wpAny_pyIter_zip hz ⟨_,[s1.heap.objs.size+4,s1.heap.objs.size+2,s1.heap.objs.size+3,s1.heap.objs.size,s1.heap.objs.size+1],_,_,H1,rfl,I2,Qwy l l2 _ _ _ _ _ ⟨?_,?_,?_,?_,?_,?_,?_,?_,?_,?_⟩,⟨hz,hTI,⟨_,_,hTO⟩,h1,h2'⟩,λb hb=>?_,q⟩
 iterate 10 (exact(by intro e;first | (have e':(s1.heap.objs.size:Nat)+_=_:=e;omega) | (have e':(s1.heap.objs.size:Nat)=_:=e;omega)))
 have hle:s1.heap.objs.size<=b:=by
  simp only[Zo,Zcf,or_false]at hb;rcases hb with rfl | rfl | rfl | rfl | rfl<;>first | exact Zh _ | exact Nat.le_add_right _ _
 exact I1.Qlk hle (I1.hok.fresh hle)
end
end L2
namespace L2
open PySem PySem.Spec
theorem QmF(a b c:Value):checkTypeCall "zip" ⟨[a,b,c],[]⟩=pure ():=by kernel_rfl
theorem Qn5(a b c:Value):checkBuiltinCall "zip.__new__" ⟨[.type "zip",a,b,c],[]⟩=pure ():=by kernel_rfl
theorem QjR(a b c d:Value):argsOk "object.__init__" ⟨[a,b,c,d],[]⟩:=by
 unfold argsOk;rw[signature?_of (n:=['_','_','t','i','n','i','_','_']) (by kernel_rfl) F.owner_object];kernel_rfl
abbrev Qay(h:Heap)(T:Addr)(a b c:Value):Prop:=h.get? T=some {cls:= .type "tuple",data:= .seq #[a,b,c]}
section
variable {prog:Program}{w:World}{A:Around}{E:Value->Shared->Prop}{s:Shared}
theorem QeO(hT:Qay s.heap T a b c)
  (h:∀h',h'.get? T=some {cls:= .type "tuple",data:= .seq ((#[a,b,c]:Array Value).setIfInBounds k x)}->Heap.SameBut T s.heap h'->Q () {s with heap:=h'}):
  wpAny (model prog w) A (updateSeq T (·.setIfInBounds k x)) Q E s:=by
 refine wpAny_updateSeq hT rfl (h _ ?_ (Heap.SameBut.update ..));rw[Heap.get?_update_self _ hT rfl];simp[Obj.mapSeq]
structure Six (z TI TO i1 i2 i3:Addr):Prop where
 TIz:TI≠z
 TOz:TO≠z
 i1z:i1≠z
 i2z:i2≠z
 i3z:i3≠z
 TITO:TI≠TO
 TIi1:TI≠i1
 TIi2:TI≠i2
 TIi3:TI≠i3
 TOi1:TO≠i1
 TOi2:TO≠i2
 TOi3:TO≠i3
 i12:i1≠i2
 i13:i1≠i3
 i23:i2≠i3
def Off(z TO i1 i2 i3 l:Addr):Prop:=l≠z/\l≠TO/\l≠i1/\l≠i2/\l≠i3
theorem QuU{z TI TO i1 i2 i3 l1 l2 l3:Addr}{k:Nat}{xs ys zs:Array Value}{x y u a b c:Value}{Q:Value->Shared->Prop}(D:Six z TI TO i1 i2 i3)(O1:Off z TO i1 i2 i3 l1)(O2:Off z TO i1 i2 i3 l2)(O3:Off z TO i1 i2 i3 l3)
  (hz:IsZip s.heap z TI TO .none) (hTI:Qay s.heap TI (.ref i1) (.ref i2) (.ref i3)) (hTO:Qay s.heap TO a b c)
  (h1:s.heap.IsListIter i1 l1 k) (h2:s.heap.IsListIter i2 l2 k) (h3:s.heap.IsListIter i3 l3 k) (hl1:s.heap.IsList l1 xs) (hl2:s.heap.IsList l2 ys) (hl3:s.heap.IsList l3 zs) (hx:xs[k]? =some x) (hy:ys[k]? =some y) (hu:zs[k]? =some u)
  (hQ:∀h',IsZip h' z TI TO (rawInt s.heap.objs.size)->Qay h' TO x y u->h'.IsListIter i1 l1 (k+1)->h'.IsListIter i2 l2 (k+1)->h'.IsListIter i3 l3 (k+1)->Qay h' s.heap.objs.size x y u->h'.objs.size=s.heap.objs.size+1→
   (∀c o,c≠z->c≠TO->c≠i1->c≠i2->c≠i3->s.heap.get? c=some o->h'.get? c=some o)->Q (.ref s.heap.objs.size) {s with heap:=h'}):
  wpAny (model prog w) A (Builtin.«zip.__next__» ⟨[.ref z],[]⟩) (λfin s'=>∃v,fin= .done (.ret v)/\Q v s') E s:=by
 show wpAny _ _ (field (.ref z) 2 >>= _) _ _ _;refine wpAny_bind (wpAny_field hz rfl rfl ?_);show wpAny _ _ (field (.ref z) 3 >>= _) _ _ _;refine wpAny_bind (wpAny_field hz rfl rfl ?_);refine wpAny_bind (wpAny_seqItems hTI rfl ?_);show wpAny _ _ (Builtin.SmallTypes.ownedTupleIsFree (.ref z) >>= _) _ _ _;refine wpAny_bind ?_;unfold Builtin.SmallTypes.ownedTupleIsFree;refine wpAny_bind (wpAny_field hz rfl rfl (wpAny_pure ?_));simp only[if_true];refine wpAny_bind (wpAny_rule ?_);refine wpAny_bind (wpAny_field hz rfl rfl ?_);refine wpAny_bind (wpAny_setField_rec hz (by simp) λg1 hz1 s1=>?_)
 replace hz1:IsZip g1 z TI TO .ellipsis:=hz1
 refine wpAny_bind ?_;simp only[List.zipIdx_cons,List.zipIdx_nil,Zcs,List.forIn_nil];refine wpAny_bind (wpAny_bind (wpAny_onRaise ?_));show wpAny _ _ (Builtin.SmallTypes.nextOf (.ref i1) >>= _) _ _ _;have k1:∀e o,e≠z->s.heap.get? e=some o->g1.get? e=some o:=λe o a1 q=>s1.extBut _ _ a1 q;refine wpAny_bind (wpAny_nextOf_list_item (h1.at λo e=>k1 _ o D.i1z e) (hl1.at λo e=>k1 _ o O1.1 e) hx λg2 m1 s2=>wpAny_pure ?_);have k2:∀e o,e≠z->e≠i1->s.heap.get? e=some o->g2.get? e=some o:=λe o a1 a3 q=>s2.extBut _ _ a3 (k1 e o a1 q);have t2:Qay g2 TO a b c:=k2 _ _ D.TOz D.TOi1 hTO;refine wpAny_bind (wpAny_seqItems t2 rfl ?_);refine wpAny_bind (QeO t2 λg3 t3 s3=>?_)
 replace t3:Qay g3 TO x b c:=t3
 have k3:∀e o,e≠z->e≠TO->e≠i1->s.heap.get? e=some o->g3.get? e=some o:=λe o a1 a2 a3 q=>s3.extBut _ _ a2 (k2 e o a1 a3 q);refine wpAny_bind (wpAny_letGo (wpAny_pure ?_));refine wpAny_bind (wpAny_bind (wpAny_onRaise ?_));show wpAny _ _ (Builtin.SmallTypes.nextOf (.ref i2) >>= _) _ _ _;refine wpAny_bind (wpAny_nextOf_list_item (h2.at λo e=>k3 _ o D.i2z D.TOi2.symm D.i12.symm e) (hl2.at λo e=>k3 _ o O2.1 O2.2.1 O2.2.2.1 e) hy λg4 m2 s4=>wpAny_pure ?_);have k4:∀e o,e≠z->e≠TO->e≠i1->e≠i2->s.heap.get? e=some o->g4.get? e=some o:=λe o a1 a2 a3 a4 q=>s4.extBut _ _ a4 (k3 e o a1 a2 a3 q);have t4:Qay g4 TO x b c:=s4.extBut _ _ D.TOi2 t3;refine wpAny_bind (wpAny_seqItems t4 rfl ?_);refine wpAny_bind (QeO t4 λg5 t5 s5=>?_)
 replace t5:Qay g5 TO x y c:=t5
 have k5:∀e o,e≠z->e≠TO->e≠i1->e≠i2->s.heap.get? e=some o->g5.get? e=some o:=λe o a1 a2 a3 a4 q=>s5.extBut _ _ a2 (k4 e o a1 a2 a3 a4 q);refine wpAny_bind (wpAny_letGo (wpAny_pure ?_));refine wpAny_bind (wpAny_bind (wpAny_onRaise ?_));show wpAny _ _ (Builtin.SmallTypes.nextOf (.ref i3) >>= _) _ _ _;refine wpAny_bind (wpAny_nextOf_list_item (h3.at λo e=>k5 _ o D.i3z D.TOi3.symm D.i13.symm D.i23.symm e) (hl3.at λo e=>k5 _ o O3.1 O3.2.1 O3.2.2.1 O3.2.2.2.1 e) hu λg6 m3 s6=>wpAny_pure ?_);have k6:∀e o,e≠z->e≠TO->e≠i1->e≠i2->e≠i3->s.heap.get? e=some o->g6.get? e=some o:=λe o a1 a2 a3 a4 a5 q=>s6.extBut _ _ a5 (k5 e o a1 a2 a3 a4 q);have t6:Qay g6 TO x y c:=s6.extBut _ _ D.TOi3 t5;refine wpAny_bind (wpAny_seqItems t6 rfl ?_);refine wpAny_bind (QeO t6 λg7 t7 s7=>?_)
 replace t7:Qay g7 TO x y u:=t7
 have k7:∀e o,e≠z->e≠TO->e≠i1->e≠i2->e≠i3->s.heap.get? e=some o->g7.get? e=some o:=λe o a1 a2 a3 a4 a5 q=>s7.extBut _ _ a2 (k6 e o a1 a2 a3 a4 a5 q);refine wpAny_bind (wpAny_letGo (wpAny_pure (wpAny_pure ?_)));refine wpAny_bind (wpAny_seqItems t7 rfl ?_);refine wpAny_bind (wpAny_newTuple ?_);have hsz:g7.objs.size=s.heap.objs.size:=by rw[s7.1,s6.1,s5.1,s4.1,s3.1,s2.1,s1.1]
 have hz7:IsZip g7 z TI TO .ellipsis:=s7.extBut _ _ D.TOz.symm (s6.extBut _ _ D.i3z.symm (s5.extBut _ _ D.TOz.symm (s4.extBut _ _ D.i2z.symm (s3.extBut _ _ D.TOz.symm (s2.extBut _ _ D.i1z.symm hz1)))));have n1:g7.IsListIter i1 l1 (k+1):=((((m1.extBut s3.extBut D.TOi1.symm).extBut s4.extBut D.i12).extBut s5.extBut D.TOi1.symm).extBut s6.extBut D.i13).extBut s7.extBut D.TOi1.symm;have n2:g7.IsListIter i2 l2 (k+1):=((m2.extBut s5.extBut D.TOi2.symm).extBut s6.extBut D.i23).extBut s7.extBut D.TOi2.symm;have n3:g7.IsListIter i3 l3 (k+1):=m3.extBut s7.extBut D.TOi3.symm;have hzlt:z<g7.objs.size:=Zy hz7;show wpAny _ _ (Builtin.SmallTypes.ownedTupleHandOut (.ref z) (.ref g7.objs.size) >>= _) _ _ _;refine wpAny_bind ?_;unfold Builtin.SmallTypes.ownedTupleHandOut;have hz8:IsZip (g7.push {cls:= .type "tuple",data:= .seq #[x,y,u]}) z TI TO .ellipsis:=Zb _ hz7;refine wpAny_bind (wpAny_setField_rec hz8 (by simp) λg9 hz9 s9=>?_)
 replace hz9:IsZip g9 z TI TO (rawInt g7.objs.size):=hz9
 refine wpAny_setField_rec hz9 (by simp) λg10 hz10 s10=>?_
 replace hz10:IsZip g10 z TI TO (rawInt g7.objs.size):=hz10
 have up:∀c o,c≠z->g7.get? c=some o->g10.get? c=some o:=λc o c1 e=>s10.extBut _ _ c1 (s9.extBut _ _ c1 (Zb _ e));have hT:Qay g10 g7.objs.size x y u:=s10.extBut _ _ (ZbC hzlt) (s9.extBut _ _ (ZbC hzlt) (ZE _ rfl));have hz':g10.objs.size=g7.objs.size+1:=by rw[s10.1,s9.1,Zat]
 rw[hsz]at hz10 hT hz';refine wpAny_pure ⟨_,rfl,?_⟩;show Q (.ref g7.objs.size) _;rw[hsz];exact hQ g10 hz10 (up _ _ D.TOz t7) (n1.at λo e=>up _ o D.i1z e) (n2.at λo e=>up _ o D.i2z e) (n3.at λo e=>up _ o D.i3z e) hT hz' λc o c1 c2 c3 c4 c5 e=>up c o c1 (k7 c o c1 c2 c3 c4 c5 e)
theorem Qvq{z TI TO i1 i2 i3 l1:Addr}{k:Nat}{xs:Array Value}{Q:Fin->Shared->Prop}(hh:A.handled=none)(D:Six z TI TO i1 i2 i3)(O1:l1≠z)
  (hz:IsZip s.heap z TI TO .none) (hTI:Qay s.heap TI (.ref i1) (.ref i2) (.ref i3)) (h1:s.heap.IsListIter i1 l1 k) (hl1:s.heap.IsList l1 xs) (hx:xs[k]? =none)
  (hE:∀h' e,(∀c o,c≠z->c≠i1->s.heap.get? c=some o->h'.get? c=some o)->(∃o,h'.get? e=some o/\o.cls= .type "StopIteration")->E (.ref e) {s with heap:=h'}):
  wpAny (model prog w) A (Builtin.«zip.__next__» ⟨[.ref z],[]⟩) Q E s:=by
 show wpAny _ _ (field (.ref z) 2 >>= _) _ _ _;refine wpAny_bind (wpAny_field hz rfl rfl ?_);show wpAny _ _ (field (.ref z) 3 >>= _) _ _ _;refine wpAny_bind (wpAny_field hz rfl rfl ?_);refine wpAny_bind (wpAny_seqItems hTI rfl ?_);show wpAny _ _ (Builtin.SmallTypes.ownedTupleIsFree (.ref z) >>= _) _ _ _;refine wpAny_bind ?_;unfold Builtin.SmallTypes.ownedTupleIsFree;refine wpAny_bind (wpAny_field hz rfl rfl (wpAny_pure ?_));simp only[if_true];refine wpAny_bind (wpAny_rule ?_);refine wpAny_bind (wpAny_field hz rfl rfl ?_);refine wpAny_bind (wpAny_setField_rec hz (by simp) λg1 hz1 s1=>?_)
 replace hz1:IsZip g1 z TI TO .ellipsis:=hz1
 refine wpAny_bind ?_;simp only[List.zipIdx_cons,List.zipIdx_nil,Zcs,List.forIn_nil];refine wpAny_bind (wpAny_bind (wpAny_onRaise ?_));show wpAny _ _ (Builtin.SmallTypes.nextOf (.ref i1) >>= _) _ _ _;refine wpAny_bind (wpAny_nextOf_list_end hh (h1.extBut s1.extBut D.i1z) (hl1.extBut s1.extBut O1) hx λg2 e s2 he=>?_);obtain⟨oe,hoe,hce⟩:=he;have hz2:IsZip g2 z TI TO .ellipsis:=s2 _ _ D.i1z.symm hz1;have hez:e≠z:=λx=>by subst x;rw[hz2]at hoe;cases hoe;simp at hce
 refine wpAny_setField_rec hz2 (by simp) λg3 _ s3=>hE g3 e (λc o c1 c3 x=>s3.extBut _ _ c1 (s2 _ _ c3 (s1.extBut _ _ c1 x))) ⟨oe,s3.extBut _ _ hez hoe,hce⟩
theorem QqW{z TI TO i1 i2 i3 l1 l2 l3:Addr}{k:Nat}{xs ys zs:Array Value}{x y u a b c:Value}{Q:Option Value->Shared->Prop}(D:Six z TI TO i1 i2 i3)(O1:Off z TO i1 i2 i3 l1)(O2:Off z TO i1 i2 i3 l2)(O3:Off z TO i1 i2 i3 l3)
  (hz:IsZip s.heap z TI TO .none) (hTI:Qay s.heap TI (.ref i1) (.ref i2) (.ref i3)) (hTO:Qay s.heap TO a b c)
  (h1:s.heap.IsListIter i1 l1 k) (h2:s.heap.IsListIter i2 l2 k) (h3:s.heap.IsListIter i3 l3 k) (hl1:s.heap.IsList l1 xs) (hl2:s.heap.IsList l2 ys) (hl3:s.heap.IsList l3 zs) (hx:xs[k]? =some x) (hy:ys[k]? =some y) (hu:zs[k]? =some u)
  (hQ:∀h',IsZip h' z TI TO (rawInt s.heap.objs.size)->Qay h' TO x y u->h'.IsListIter i1 l1 (k+1)->h'.IsListIter i2 l2 (k+1)->h'.IsListIter i3 l3 (k+1)->Qay h' s.heap.objs.size x y u->h'.objs.size=s.heap.objs.size+1→
   (∀c o,c≠z->c≠TO->c≠i1->c≠i2->c≠i3->s.heap.get? c=some o->h'.get? c=some o)->Q (some (.ref s.heap.objs.size)) {s with heap:=h'}):
  wpAny (model prog w) A (pyNext (.ref z)) Q E s:=by
 have hT:s.TypeIs (.ref z) "zip" :=⟨_,hz,rfl⟩;unfold pyNext
 exact wpAny_bind (wpAny_attempt (wpAny_callSpecial?_slot hT ZbQ
  (wpAny_call_entry ZbQ hT F.entry_zip_next
   (QuU D O1 O2 O3 hz hTI hTO h1 h2 h3 hl1 hl2 hl3 hx hy hu λh' a1 a2 a3 a4 a5 a6 a7 a8=>wpAny_pure (hQ h' a1 a2 a3 a4 a5 a6 a7 a8)) (F.args_zip_next_1 _))))
theorem QlZ{z TI TO i1 i2 i3 l1:Addr}{k:Nat}{xs:Array Value}{Q:Option Value->Shared->Prop}(hh:A.handled=none)(D:Six z TI TO i1 i2 i3)(O1:l1≠z)
  (hz:IsZip s.heap z TI TO .none) (hTI:Qay s.heap TI (.ref i1) (.ref i2) (.ref i3)) (h1:s.heap.IsListIter i1 l1 k) (hl1:s.heap.IsList l1 xs) (hx:xs[k]? =none)
  (hQ:∀h',(∀c o,c≠z->c≠i1->s.heap.get? c=some o->h'.get? c=some o)->Q none {s with heap:=h'}):wpAny (model prog w) A (pyNext (.ref z)) Q E s:=by
 have hT:s.TypeIs (.ref z) "zip" :=⟨_,hz,rfl⟩;unfold pyNext
 refine wpAny_bind (wpAny_attempt (wpAny_callSpecial?_slot hT ZbQ
  (wpAny_call_entry ZbQ hT F.entry_zip_next (Qvq hh D O1 hz hTI h1 hl1 hx λh' e hk he=>?_) (F.args_zip_next_1 _))))
 obtain⟨o,ho,hc⟩:=he;refine wpAny_bind (wpAny_isInstance ⟨o,ho,hc⟩ isSubtype_stop ?_);exact wpAny_pure (hQ _ hk)
end
noncomputable abbrev zA(h:Heap)(l1:Addr):Heap:=h.push {cls:= .type "list_iterator",data:= .fields #[.ref l1,.int 0 0]}
noncomputable abbrev zB(h:Heap)(l1 l2:Addr):Heap:=(zA h l1).push {cls:= .type "list_iterator",data:= .fields #[.ref l2,.int 0 0]}
noncomputable abbrev zC(h:Heap)(l1 l2 l3:Addr):Heap:=(zB h l1 l2).push {cls:= .type "list_iterator",data:= .fields #[.ref l3,.int 0 0]}
noncomputable abbrev zD(h:Heap)(l1 l2 l3:Addr):Heap:=(zC h l1 l2 l3).push {cls:= .type "tuple",data:= .seq #[.ref h.objs.size,.ref (zA h l1).objs.size,.ref (zB h l1 l2).objs.size]}
noncomputable abbrev zE(h:Heap)(l1 l2 l3:Addr):Heap:=(zD h l1 l2 l3).push {cls:= .type "tuple",data:= .seq #[.none,.none,.none]}
noncomputable abbrev zF(h:Heap)(l1 l2 l3:Addr):Heap:=(zE h l1 l2 l3).push {cls:= .type "zip",data:= .fields #[.none,.bool false,.bool false,.ref (zC h l1 l2 l3).objs.size,.ref (zD h l1 l2 l3).objs.size]}
theorem Qmx(l1 l2 l3:Addr)(xs ys zs:Array Value):
  Meets (Builtin.«zip.__new__» ⟨[.type "zip",.ref l1,.ref l2,.ref l3],[]⟩) (λ_ R s=>s.heap.IsList l1 xs/\s.heap.IsList l2 ys/\s.heap.IsList l3 zs∧
   R (.ok (.ret (.ref (zE s.heap l1 l2 l3).objs.size))) {s with heap:=zF s.heap l1 l2 l3}):=
 .of_wp λprog w A R s h=>by
  obtain⟨hp,g,d,tk,os⟩:=s;obtain⟨hl1,hl2,hl3,h⟩:=h;have hsub:=sub_zip;have hL1:Heap.IsList (Shared.heap ⟨hp,g,d,tk,os⟩) l1 xs:=hl1;have hL2:Heap.IsList (Shared.heap ⟨hp.push {cls:= .type "list_iterator",data:= .fields #[.ref l1,.int 0 0]},g,d,tk,os⟩) l2 ys:=Zcg hl2 _;have hL3:Heap.IsList (Shared.heap ⟨(hp.push {cls:= .type "list_iterator",data:= .fields #[.ref l1,.int 0 0]}).push {cls:= .type "list_iterator",data:= .fields #[.ref l2,.int 0 0]},g,d,tk,os⟩) l3 zs:=Zcg (Zcg hl3 _) _
  wp_walk using wpAny_pyIter_list hL1,wpAny_pyIter_list hL2,wpAny_pyIter_list hL3
  exact⟨_,rfl,h⟩
section
variable {prog:Program}{w:World}{A:Around}{E:Value->Shared->Prop}{s:Shared}
theorem Qsl(hl1:s.heap.IsList l1 xs)(hl2:s.heap.IsList l2 ys)(hl3:s.heap.IsList l3 zs)
  (h:∀h',IsZip h' (s.heap.objs.size+5) (s.heap.objs.size+3) (s.heap.objs.size+4) .none->Qay h' (s.heap.objs.size+3) (.ref s.heap.objs.size) (.ref (s.heap.objs.size+1)) (.ref (s.heap.objs.size+2))→
   Qay h' (s.heap.objs.size+4) .none .none .none->h'.IsListIter s.heap.objs.size l1 0->h'.IsListIter (s.heap.objs.size+1) l2 0->h'.IsListIter (s.heap.objs.size+2) l3 0→
   (∀c o,s.heap.get? c=some o->h'.get? c=some o)->Q (.ref (s.heap.objs.size+5)) {s with heap:=h'}):
  wpAny (model prog w) A (call (.type "zip") [.ref l1,.ref l2,.ref l3]) Q E s:=by
 refine callType_new F.called_zip (by decide) (QmF _ _ _) (Qn5 _ _ _) (λobj=>QjR obj _ _ _) F.entry_zip_new
  (Qmx l1 l2 l3 xs ys zs) ⟨hl1,hl2,hl3,?_⟩
 have z1:(zA s.heap l1).objs.size=s.heap.objs.size+1:=Zat ..;have z2:(zB s.heap l1 l2).objs.size=s.heap.objs.size+2:=by rw[Zat,z1]
 have z3:(zC s.heap l1 l2 l3).objs.size=s.heap.objs.size+3:=by rw[Zat,z2]
 have z4:(zD s.heap l1 l2 l3).objs.size=s.heap.objs.size+4:=by rw[Zat,z3]
 have z5:(zE s.heap l1 l2 l3).objs.size=s.heap.objs.size+5:=by rw[Zat,z4]
 have g6:(zF s.heap l1 l2 l3).get? (zE s.heap l1 l2 l3).objs.size=some _:=ZE _ rfl;have g5:(zF s.heap l1 l2 l3).get? (zD s.heap l1 l2 l3).objs.size=some _:=Zb _ (ZE _ rfl);have g4:(zF s.heap l1 l2 l3).get? (zC s.heap l1 l2 l3).objs.size=some _:=Zb _ (Zb _ (ZE _ rfl));have g3:(zF s.heap l1 l2 l3).get? (zB s.heap l1 l2).objs.size=some _:=Zb _ (Zb _ (Zb _ (ZE _ rfl)));have g2:(zF s.heap l1 l2 l3).get? (zA s.heap l1).objs.size=some _:=Zb _ (Zb _ (Zb _ (Zb _ (ZE _ rfl))));have g1:(zF s.heap l1 l2 l3).get? s.heap.objs.size=some _:=Zb _ (Zb _ (Zb _ (Zb _ (Zb _ (ZE _ rfl)))));show _/\_;rw[z3,z4,z5]at g6;rw[z1,z2,z3]at g4;rw[z4]at g5;rw[z2]at g3;rw[z1]at g2;rw[z5];exact⟨⟨_,g6,rfl⟩,h _ g6 g4 g5 ⟨_,g1,rfl,rfl⟩ ⟨_,g2,rfl,rfl⟩ ⟨_,g3,rfl,rfl⟩ λc o x=>
  Zb _ (Zb _ (Zb _ (Zb _ (Zb _ (Zb _ x)))))⟩
end
open PyProof.Rows
noncomputable def QvT(K:Fgg)(a b c:Addr):It:=
 ⟨λi H=>∃xs ys zs x y z,SqL K H a xs/\SqL K H b ys/\SqL K H c zs/\xs[i]? =some x/\ys[i]? =some y/\zs[i]? =some z,λi H v H'=>∃p x y z,v= .ref p/\H p=none/\H'=upd H p (.tup [x,y,z])/\(∀xs,SqL K H a xs->xs[i]? =some x)/\(∀ys,SqL K H b ys->ys[i]? =some y)/\∀zs,SqL K H c zs->zs[i]? =some z,
  λi H=>∃xs,SqL K H a xs/\xs.length<=i⟩
theorem mm5{a b c d e f:Addr}{l:LAd}:a∈b::c::d::e::f::a::l:= .tail _ mm4
theorem Qm9{h:Heap}(hz:IsZip h z T1 T2 x)(hA:Qay h T1 a b c)(hB:Qay h T2 d e f)(h1:h.IsListIter i1 l1 k)(h2:h.IsListIter i2 l2 k)(h3:h.IsListIter i3 l3 k):∀b∈[z,T1,T2,i1,i2,i3],NL h b:=
 fa1 (.zip hz) (fa1 (.tup hA) (fa1 (.tup hB) (fa1 (.it h1) (fa1 (.it h2) (fa1 (.it h3) λ_ h=>nomatch h)))))
theorem QtO{P:Program}{w:World}{K:Fgg}{es:List Expr}{tk:Nat}{tpos:Pos}(l1 l2 l3 z TI TO i1 i2 i3:Addr)(D:Six z TI TO i1 i2 i3):
  Turn P w K (.Tuple es tk tpos) (QvT K l1 l2 l3) [z,TI,TO,i1,i2,i3] z (λi h=>IsZip h z TI TO .none/\Qay h TI (.ref i1) (.ref i2) (.ref i3)/\(∃a b c,Qay h TO a b c)/\h.IsListIter i1 l1 i/\h.IsListIter i2 l2 i/\h.IsListIter i3 l3 i) where
 mem:=mm0
 obj:=λi h st b hb=>by
  obtain⟨hz,hTI,⟨p,q,r,hTO⟩,h1,h2,h3⟩:=st;exact(Qm9 hz hTI hTO h1 h2 h3 b hb).obj
 keep:=λi h h' st k=>by
  obtain⟨hz,hTI,⟨p,q,r,hTO⟩,h1,h2,h3⟩:=st;exact⟨k z mm0 _ hz,k TI mm1 _ hTI,⟨p,q,r,k TO mm2 _ hTO⟩,h1.at (k i1 mm3),h2.at (k i2 mm4),h3.at (k i3 mm5)⟩
 item:=by
  intro X hP hw hK hc i pins s σ H E I hf st hg;subst hP hw hK;obtain⟨hz,hTI,⟨a0,b0,c0,hTO⟩,h1,h2,h3⟩:=st;obtain⟨xs,ys,zs,x,y,u,hq1,hq2,hq3,hx,hy,hu⟩:=hg;obtain⟨its,rv,p,hzz⟩:=I.list hq1;obtain⟨its2,rv2,p2,hzz2⟩:=I.list hq2;obtain⟨its3,rv3,p3,hzz3⟩:=I.list hq3;obtain⟨v1,hv1,r1⟩:=rv.get hx;obtain⟨v2,hv2,r2⟩:=rv2.get hy;obtain⟨v3,hv3,r3⟩:=rv3.get hu;have O:=Qm9 hz hTI hTO h1 h2 h3;have A:=λb hb l ys (hq:SqL X.K H l ys)=>(O b hb).apart I (hf b hb).1 hq;have off:∀l ys,SqL X.K H l ys->Off z TO i1 i2 i3 l:=λl ys hq=>⟨A z mm0 l ys hq,A TO mm2 l ys hq,A i1 mm3 l ys hq,A i2 mm4 l ys hq,A i3 mm5 l ys hq⟩;refine QqW D (off l1 xs hq1) (off l2 ys hq2) (off l3 zs hq3) hz hTI hTO h1 h2 h3 p.isList p2.isList p3.isList (by simpa using hv1) (by simpa using hv2) (by simpa using hv3) λg3 z3 TO3 a3 b3 c3 T3 sz3 k3=>?_;refine⟨.ref s.heap.objs.size,rfl,wpAny_letOwnedTupleGo_zip z3 λg4 z4 hs4=>?_⟩
  replace hs4:Heap.SameBut z g3 g4:=hs4
  have kk:∀b o,b∉[z,TI,TO,i1,i2,i3]->s.heap.get? b=some o->g4.get? b=some o:=λb o hb q=>
   hs4.extBut b o (nmm hb mm0) (k3 b o (nmm hb mm0) (nmm hb mm2) (nmm hb mm3) (nmm hb mm4) (nmm hb mm5) q)
  have TI4:Qay g4 TI (.ref i1) (.ref i2) (.ref i3):=hs4.extBut _ _ D.TIz (k3 _ _ D.TIz D.TITO D.TIi1 D.TIi2 D.TIi3 hTI);have TO4:Qay g4 TO v1 v2 v3:=hs4.extBut _ _ D.TOz TO3;have a4:g4.IsListIter i1 l1 (i+1):=a3.extBut hs4.extBut D.i1z;have b4:g4.IsListIter i2 l2 (i+1):=b3.extBut hs4.extBut D.i2z;have c4:g4.IsListIter i3 l3 (i+1):=c3.extBut hs4.extBut D.i3z
  exact⟨.ref s.heap.objs.size,upd H s.heap.objs.size (.tup [x,y,u]),I.Qsh (t':=s.toks) hf kk (λb hb=>(Qm9 z4 TI4 TO4 a4 b4 c4 b hb).ex) (Zh _) ⟨by show 3<=sizeLine;decide,_,.cons r1 (.cons r2 (.cons r3 .nil)),_,(hs4.2 _ (ZbC (O z mm0).lt)).trans T3,rfl,_,rfl⟩,rfl,
   ⟨_,x,y,u,rfl,I.hok.fresh (Zh _),rfl,λws hy'=>by rw[I.Qd1 hy' hq1];exact hx,λws hy'=>by rw[I.Qd1 hy' hq2];exact hy,λws hy'=>by rw[I.Qd1 hy' hq3];exact hu⟩,⟨z4,TI4,⟨_,_,_,TO4⟩,a4,b4,c4⟩,λb hb=>by rw[Q0 (Zaa (O b hb).lt)];exact(hf b hb).1⟩
 done:=by
  intro X hP hw hK hc i pins s σ H E I hf st hg;subst hP hw hK;obtain⟨hz,hTI,⟨a0,b0,c0,hTO⟩,h1,h2,h3⟩:=st;obtain⟨xs,hq1,hx⟩:=hg;obtain⟨its,rv,p,hzz⟩:=I.list hq1;have hl:=rv.length;refine QlZ (I.ok.hd hc) D ((NL.zip hz).apart I (hf z mm0).1 hq1) hz hTI h1 p.isList (by simp;omega) λg3 k3=>⟨rfl,?_⟩;exact I.turns (t':=s.toks) hf λb o hb q=>k3 b o (nmm hb mm0) (nmm hb mm3) q
 self:=λ_ _ _ _ _ st h=>wpAny_pyIter_zip st.1 h
theorem vals3(r:QL [x,y,z] us):∃u v w',us=[u,v,w']/\RelV x u/\RelV y v/\RelV z w':=by
 cases r with
 | cons r1 r2=>
  obtain⟨v,w',rfl,h1,h2⟩:=vals2 r2;exact⟨_,_,_,rfl,r1,h1,h2⟩
section
noncomputable def QBV(K:Fgg)(ta:TA):TI:=λσ H R=>ta σ H λvs H1=>∃a b c,vs=[.ref a,.ref b,.ref c]/\(∃xs,SqL K H1 a xs)/\(∃ys,SqL K H1 b ys)/\(∃zs,SqL K H1 c zs)/\R (QvT K a b c) H1
theorem QxD{a b c:Expr}{ta:TA}{p pos:Pos}{es:List Expr}{tk:Nat}{tpos:Pos}(hg:Gl X "zip")(hm:X.mg "zip" =none)(ha:PA X [a,b,c] ta)(hs:starEach [a,b,c] X.env=(false,eval a X.env)::starEach [b,c] X.env)(hs2:(backTo pos (starEach [b,c] X.env)).any (·.1)=false):
  PI X (.Tuple es tk tpos) (.Call (.Name "zip" p) [a,b,c] [] pos) (QBV X.K ta):=by
 intro pins s σ H R I h;refine Call_ (Qc9 I hg hm PyProof.Rows.boot_zip (ZV (thn (ha pos pins s σ H _ I h) λus s1 ⟨vs,H1,I1,r1,q1⟩=>?_) hs hs2));obtain⟨l,l2,l3,e,⟨xs,hq⟩,⟨ys,hq2⟩,⟨zs,hq3⟩,q⟩:=q1;subst e;obtain⟨u,u2,u3,rfl,ru,ru2,ru3⟩:=vals3 r1;cases ru;cases ru2;cases ru3;obtain⟨its,rv,pl,hz⟩:=I1.list hq;obtain⟨its2,rv2,pl2,hz2⟩:=I1.list hq2;obtain⟨its3,rv3,pl3,hz3⟩:=I1.list hq3;refine Qsl pl.isList pl2.isList pl3.isList λh2 hz hTI hTO h1 h2' h3' hk2=>?_;have I2:Inv X pins σ H1 {s1 with heap:=h2}:=I1.kept (t':=s1.toks) hk2;refine wpAny_pyIter_zip hz ⟨_,[s1.heap.objs.size+5,s1.heap.objs.size+3,s1.heap.objs.size+4,s1.heap.objs.size,s1.heap.objs.size+1,s1.heap.objs.size+2],_,_,H1,rfl,I2,QtO l l2 l3 _ _ _ _ _ _ ⟨?_,?_,?_,?_,?_,?_,?_,?_,?_,?_,?_,?_,?_,?_,?_⟩,⟨hz,hTI,⟨_,_,_,hTO⟩,h1,h2',h3'⟩,λb hb=>?_,q⟩
 iterate 15 (exact(by intro e;first | (have e':(s1.heap.objs.size:Nat)+_=_:=e;omega) | (have e':(s1.heap.objs.size:Nat)=_:=e;omega)))
 have hle:s1.heap.objs.size<=b:=by
  simp only[Zo,Zcf,or_false]at hb;rcases hb with rfl | rfl | rfl | rfl | rfl | rfl<;>first | exact Zh _ | exact Nat.le_add_right _ _
 exact I1.Qlk hle (I1.hok.fresh hle)
end
end L2
namespace HS
open PySem PySem.Spec PyProof.Rows L2
inductive D where
 | non | bl (b:Bool) | int (i:Int) | str (x:Str) | tup (xs:List D) | lst (xs:List D) | exc (x:Str)
mutual
noncomputable def D.flat:D->Bool
 | .lst _=>false
 | .tup xs=>QY xs
 | .non=>true
 | .bl _=>true
 | .int _=>true
 | .str _=>true
 | .exc _=>true
noncomputable def QY:List D->Bool
 | []=>true
 | d::ds=>d.flat && QY ds
end
mutual
noncomputable def D.nl:D->Nat
 | .lst xs=>nls xs+1
 | .tup xs=>nls xs
 | .non=>0
 | .bl _=>0
 | .int _=>0
 | .str _=>0
 | .exc _=>0
noncomputable def nls:List D->Nat
 | []=>0
 | d::ds=>d.nl+nls ds
end
mutual
theorem Qdm:∀(d:D),d.flat=true->d.nl=0
 | .non,_=>rfl
 | .bl _,_=>rfl
 | .int _,_=>rfl
 | .str _,_=>rfl
 | .exc _,_=>rfl
 | .tup xs,h=>by simp only[D.nl];simp only[D.flat]at h;exact QiA xs h
 | .lst xs,h=>by simp[D.flat]at h
theorem QiA:∀(ds:List D),QY ds=true->nls ds=0
 | [],_=>rfl
 | d::ds,h=>by simp only[QY,Zg]at h;simp only[nls,Qdm d h.1,QiA ds h.2]
end
def Fix(K:Fgg)(H:Hp)(a:Addr)(vs:List V):Prop:=
 (∃o,H a=some (.frz o (.lst vs)))∨
  ∃(its:List Value) (n:Nat),K.lookup a=some {cls:= .type "list",data:= .seq its.toArray n}/\vs.length<=sizeLine/\QL vs its
def QC9(a C:Addr)(h:Heap):Prop:=∃o vs,h.get? a=some o/\o.cls= .ref C/\o.data= .fields vs
def ExcAt(K:Fgg)(H:Hp)(a:Addr)(x:Str):Prop:=∃C,PySem.W.nsIn K mainGlobals x=some (some (.ref C))/\H a=some (.ext (QC9 a C))
theorem QsV{K:Fgg}{H H':Hp}{a:Addr}{x:Str}(s:QU H H')(h:ExcAt K H a x):ExcAt K H' a x:=by
 obtain⟨C,h1,h2⟩:=h;exact⟨C,h1,s _ _ h2⟩
theorem Qub{K:Fgg}{H:Hp}{a p:Addr}{x:Str}{zs ys:List V}(hp:H p=some (.lst zs))(h:ExcAt K H a x):ExcAt K (upd H p (.lst ys)) a x:=by
 obtain⟨C,h1,h2⟩:=h;exact⟨C,h1,by rw[Q0 (Qow h2 hp (by intro z;cases z))];exact h2⟩
mutual
noncomputable def Rp(K:Fgg)(H:Hp):D->V->List Addr->Prop
 | .non,v,F=>v= .non/\F=[]
 | .bl b,v,F=>v= .bl b/\F=[]
 | .int i,v,F=>v= .int i/\F=[]
 | .str x,v,F=>v= .str x/\F=[]
 | .exc x,v,F=>(∃a,v= .ref a/\ExcAt K H a x)/\F=[]
 | .tup ds,v,F=>∃a vs,v= .ref a/\SqT K H a vs/\Rps K H ds vs F
 | .lst ds,v,F=>ds.length<=sizeLine/\∃a vs,v= .ref a/\((∃G,F=a::G/\H a=some (.lst vs)/\Rps K H ds vs G)∨(Fix K H a vs/\Rps K H ds vs F))
noncomputable def Rps(K:Fgg)(H:Hp):List D->List V->List Addr->Prop
 | [],vs,F=>vs=[]/\F=[]
 | d::ds,vs,F=>∃v ws F1 F2,vs=v::ws/\F=F1++F2/\Rp K H d v F1/\Rps K H ds ws F2
end
theorem Qo6{K:Fgg}{H H':Hp}{a:Addr}{vs:List V}(s:QU H H')(h:SqT K H a vs):SqT K H' a vs:=by
 rcases h with(h | ⟨o,h⟩) | h
 ·exact .inl (.inl (s _ _ h))
 ·exact .inl (.inr ⟨o,s _ _ h⟩)
 ·exact .inr h
theorem QoD{K:Fgg}{H H':Hp}{a:Addr}{vs:List V}(s:QU H H')(h:Fix K H a vs):Fix K H' a vs:=by
 rcases h with⟨o,h⟩ | h
 ·exact .inl ⟨o,s _ _ h⟩
 ·exact .inr h
theorem Qq2{K:Fgg}{H:Hp}{a p:Addr}{vs zs ys:List V}(hp:H p=some (.lst zs))(h:SqT K H a vs):SqT K (upd H p (.lst ys)) a vs:=by
 rcases h with(h | ⟨o,h⟩) | h
 ·exact .inl (.inl (by rw[Q0 (Qow h hp (by intro z;cases z))];exact h))
 ·exact .inl (.inr ⟨o,by rw[Q0 (Qow h hp (by intro z;cases z))];exact h⟩)
 ·exact .inr h
theorem Qxr{K:Fgg}{H:Hp}{a p:Addr}{vs zs ys:List V}(hp:H p=some (.lst zs))(h:Fix K H a vs):Fix K (upd H p (.lst ys)) a vs:=by
 rcases h with⟨o,h⟩ | h
 ·exact .inl ⟨o,by rw[Q0 (Qow h hp (by intro z;cases z))];exact h⟩
 ·exact .inr h
section
variable {K:Fgg}{H H':Hp}
mutual
theorem Rp.same(s:QU H H'):∀{d:D}{v:V}{F:LAd},Rp K H d v F->Rp K H' d v F
 | .exc _,_,_,h=>by
  simp only[Rp]at h ⊢;obtain⟨⟨a,e,q⟩,z⟩:=h;exact⟨⟨a,e,QsV s q⟩,z⟩
 | .non,_,_,h=>h
 | .bl _,_,_,h=>h
 | .int _,_,_,h=>h
 | .str _,_,_,h=>h
 | .tup ds,_,_,h=>by
  simp only[Rp]at h ⊢;obtain⟨a,vs,e,q,r⟩:=h;exact⟨a,vs,e,Qo6 s q,Rps.same s r⟩
 | .lst ds,_,_,h=>by
  simp only[Rp]at h ⊢;obtain⟨hz,a,vs,e,⟨G,eF,q,r⟩ | ⟨q,r⟩⟩:=h
  ·exact⟨hz,a,vs,e,.inl ⟨G,eF,s _ _ q,Rps.same s r⟩⟩
  ·exact⟨hz,a,vs,e,.inr ⟨QoD s q,Rps.same s r⟩⟩
theorem Rps.same(s:QU H H'):∀{ds:List D}{vs:List V}{F:LAd},Rps K H ds vs F->Rps K H' ds vs F
 | [],_,_,h=>h
 | d::ds,_,_,h=>by
  simp only[Rps]at h ⊢;obtain⟨v,ws,F1,F2,e,eF,r,q⟩:=h;exact⟨v,ws,F1,F2,e,eF,Rp.same s r,Rps.same s q⟩
end
mutual
theorem Rp.upd{p:Addr}{zs ys:List V}(hp:H p=some (.lst zs)):∀{d:D}{v:V}{F:LAd},Rp K H d v F->p∉F->Rp K (upd H p (.lst ys)) d v F
 | .exc _,_,_,h,_=>by
  simp only[Rp]at h ⊢;obtain⟨⟨a,e,q⟩,z⟩:=h;exact⟨⟨a,e,Qub hp q⟩,z⟩
 | .non,_,_,h,_=>h
 | .bl _,_,_,h,_=>h
 | .int _,_,_,h,_=>h
 | .str _,_,_,h,_=>h
 | .tup ds,_,_,h,hn=>by
  simp only[Rp]at h ⊢;obtain⟨a,vs,e,q,r⟩:=h;exact⟨a,vs,e,Qq2 hp q,Rps.upd hp r hn⟩
 | .lst ds,_,_,h,hn=>by
  simp only[Rp]at h ⊢;obtain⟨hz,a,vs,e,⟨G,eF,q,r⟩ | ⟨q,r⟩⟩:=h
  ·subst eF;have h1:a≠p:=λz=>hn (by rw[z];exact Zm);exact⟨hz,a,vs,e,.inl ⟨G,rfl,by rw[Q0 h1];exact q,Rps.upd hp r λz=>hn (Zc _ z)⟩⟩
  ·exact⟨hz,a,vs,e,.inr ⟨Qxr hp q,Rps.upd hp r hn⟩⟩
theorem Rps.upd{p:Addr}{zs ys:List V}(hp:H p=some (.lst zs)):∀{ds:List D}{vs:List V}{F:LAd},Rps K H ds vs F->p∉F->Rps K (upd H p (.lst ys)) ds vs F
 | [],_,_,h,_=>h
 | d::ds,_,_,h,hn=>by
  simp only[Rps]at h ⊢;obtain⟨v,ws,F1,F2,e,eF,r,q⟩:=h;subst eF;exact⟨v,ws,F1,F2,e,rfl,Rp.upd hp r λz=>hn (Zl _ z),Rps.upd hp q λz=>hn (Zf _ z)⟩
end
mutual
theorem Rp.mem:∀{d:D}{v:V}{F:LAd},Rp K H d v F->∀a∈F,∃vs,H a=some (.lst vs)
 | .non,_,_,h,a,ha=>by simp only[Rp]at h;rw[h.2]at ha;simp at ha
 | .bl _,_,_,h,a,ha=>by simp only[Rp]at h;rw[h.2]at ha;simp at ha
 | .int _,_,_,h,a,ha=>by simp only[Rp]at h;rw[h.2]at ha;simp at ha
 | .str _,_,_,h,a,ha=>by simp only[Rp]at h;rw[h.2]at ha;simp at ha
 | .exc _,_,_,h,a,ha=>by simp only[Rp]at h;rw[h.2]at ha;simp at ha
 | .tup ds,_,_,h,a,ha=>by
  simp only[Rp]at h;obtain⟨_,vs,e,q,r⟩:=h;exact Rps.mem r a ha
 | .lst ds,_,_,h,a,ha=>by
  simp only[Rp]at h;obtain⟨_,b,vs,e,⟨G,eF,q,r⟩ | ⟨q,r⟩⟩:=h
  ·subst eF;rcases Zo.mp ha with z | z
   ·exact⟨vs,by rw[z];exact q⟩
   ·exact Rps.mem r a z
  ·exact Rps.mem r a ha
theorem Rps.mem:∀{ds:List D}{vs:List V}{F:LAd},Rps K H ds vs F->∀a∈F,∃vs,H a=some (.lst vs)
 | [],_,_,h,a,ha=>by simp only[Rps]at h;rw[h.2]at ha;simp at ha
 | d::ds,_,_,h,a,ha=>by
  simp only[Rps]at h;obtain⟨v,ws,F1,F2,e,eF,r,q⟩:=h;subst eF;rcases ZH.mp ha with z | z
  ·exact Rp.mem r a z
  ·exact Rps.mem q a z
end
mutual
theorem Rp.QbK:∀{d:D}{v:V}{F:LAd},Rp K H d v F->d.flat=true->F=[]
 | .non,_,_,h,_=>by simp only[Rp]at h;exact h.2
 | .bl _,_,_,h,_=>by simp only[Rp]at h;exact h.2
 | .int _,_,_,h,_=>by simp only[Rp]at h;exact h.2
 | .str _,_,_,h,_=>by simp only[Rp]at h;exact h.2
 | .exc _,_,_,h,_=>by simp only[Rp]at h;exact h.2
 | .tup ds,_,_,h,hf=>by
  simp only[Rp]at h;simp only[D.flat]at hf;obtain⟨_,vs,e,q,r⟩:=h;exact Rps.QbK r hf
 | .lst ds,_,_,h,hf=>by simp[D.flat]at hf
theorem Rps.QbK:∀{ds:List D}{vs:List V}{F:LAd},Rps K H ds vs F->QY ds=true->F=[]
 | [],_,_,h,_=>by simp only[Rps]at h;exact h.2
 | d::ds,_,_,h,hf=>by
  simp only[Rps]at h;simp only[QY,Zg]at hf;obtain⟨v,ws,F1,F2,e,eF,r,q⟩:=h;rw[eF,Rp.QbK r hf.1,Rps.QbK q hf.2];rfl
end
mutual
theorem Rp.QaR:∀{d:D}{v:V}{F:LAd},Rp K H d v F->F.length<=d.nl
 | .non,_,_,h=>by simp only[Rp]at h;rw[h.2];exact Zai _
 | .bl _,_,_,h=>by simp only[Rp]at h;rw[h.2];exact Zai _
 | .int _,_,_,h=>by simp only[Rp]at h;rw[h.2];exact Zai _
 | .str _,_,_,h=>by simp only[Rp]at h;rw[h.2];exact Zai _
 | .exc _,_,_,h=>by simp only[Rp]at h;rw[h.2];exact Zai _
 | .tup ds,_,_,h=>by
  simp only[Rp]at h;obtain⟨_,vs,e,q,r⟩:=h;simp only[D.nl];exact Rps.QaR r
 | .lst ds,_,_,h=>by
  simp only[Rp]at h;simp only[D.nl];obtain⟨_,b,vs,e,⟨G,eF,q,r⟩ | ⟨q,r⟩⟩:=h
  ·rw[eF,ZJ];have:=Rps.QaR r;omega
  ·have:=Rps.QaR r;omega
theorem Rps.QaR:∀{ds:List D}{vs:List V}{F:LAd},Rps K H ds vs F->F.length<=nls ds
 | [],_,_,h=>by simp only[Rps]at h;rw[h.2];exact Zai _
 | d::ds,_,_,h=>by
  simp only[Rps]at h;obtain⟨v,ws,F1,F2,e,eF,r,q⟩:=h;simp only[nls];rw[eF,Zx];have:=Rp.QaR r;have:=Rps.QaR q;omega
end
theorem Rps.length:∀{ds:List D}{vs:List V}{F:LAd},Rps K H ds vs F->ds.length=vs.length
 | [],_,_,h=>by simp only[Rps]at h;rw[h.1];rfl
 | d::ds,_,_,h=>by
  simp only[Rps]at h;obtain⟨v,ws,F1,F2,e,eF,r,q⟩:=h;rw[e,ZJ,ZJ,Rps.length q]
theorem Rps.append:∀{ds es:List D}{vs ws:List V}{F G:LAd},Rps K H ds vs F->Rps K H es ws G->Rps K H (ds++es) (vs++ws) (F++G)
 | [],_,_,_,_,_,h,g=>by simp only[Rps]at h;rw[h.1,h.2];exact g
 | d::ds,_,_,_,_,_,h,g=>by
  simp only[Rps,ZbK]at h ⊢;obtain⟨v,ws,F1,F2,e,eF,r,q⟩:=h;subst e eF;exact⟨v,_,F1,_,rfl,by rw[Zbc],r,Rps.append q g⟩
theorem Rps.get:∀{ds:List D}{vs:List V}{F:LAd}{i:Nat}{d:D},Rps K H ds vs F->ds[i]? =some d->∃v F1 G F2,vs[i]? =some v/\F=F1++(G++F2)/\Rp K H d v G/\(F.length=nls ds->G.length=d.nl)
 | [],_,_,_,_,_,e=>by simp at e
 | d::ds,_,_,0,_,h,e=>by
  simp only[Rps]at h;obtain⟨v,ws,F1,F2,e1,eF,r,q⟩:=h;simp at e;subst e e1 eF;refine⟨v,[],F1,F2,by simp,rfl,r,λhl=>?_⟩;simp only[nls,Zx]at hl;have:=Rp.QaR r;have:=Rps.QaR q;omega
 | d::ds,_,_,i+1,_,h,e=>by
  simp only[Rps]at h;obtain⟨v,ws,F1,F2,e1,eF,r,q⟩:=h;obtain⟨v',G1,G,G2,h1,h2,h3,h4⟩:=Rps.get q (by simpa using e);have l1:=Rp.QaR r;have l2:=Rps.QaR q;subst e1 eF;refine⟨v',F1++G1,G,G2,by simpa using h1,by rw[h2,Zbc],h3,λhl=>h4 ?_⟩;simp only[nls,Zx]at hl;omega
theorem Fix.sq{K:Fgg}{H:Hp}{a:Addr}{vs:List V}(h:Fix K H a vs):SqL K H a vs:=by
 rcases h with⟨o,h⟩ | ⟨its,n,h,hz,r⟩
 ·exact .inl (.inr ⟨o,h⟩)
 ·exact .inr ⟨_,its.toArray,n,h,rfl,rfl,rfl,by rw[Zv,← r.length];exact hz,by simpa using r⟩
theorem _root_.L2.Inv.Qpj(I:Inv X pins σ H s)(h:H a=some (.lst vs)∨Fix X.K H a vs):
  vs.length<=sizeLine/\∃(its:List Value) (n:Nat),QL vs its/\vs.length=its.length/\s.heap.get? a=some {cls:= .type "list",data:= .seq its.toArray n}:=by
 rcases h with h | ⟨o,h⟩ | ⟨its,n,h,hz,r⟩
 ·exact I.QoN h
 ·obtain⟨e,hz,its,n,r,e2⟩:=I.hok a _ h;exact⟨hz,its,n,r,r.length,e2⟩
 ·exact⟨hz,its,n,r,r.length,I.kIn _ _ h⟩
theorem Rp.lst_inv{K:Fgg}{H:Hp}{ds:List D}{v:V}{F:LAd}(h:Rp K H (.lst ds) v F):
  ∃a vs G,v= .ref a/\(H a=some (.lst vs)∨Fix K H a vs)/\Rps K H ds vs G/\ds.length<=sizeLine/\(F=a::G∨F=G):=by
 simp only[Rp]at h;obtain⟨hz,a,vs,e,⟨G,eF,q,r⟩ | ⟨q,r⟩⟩:=h
 ·exact⟨a,vs,G,e,.inl q,r,hz,.inl eF⟩
 ·exact⟨a,vs,F,e,.inr q,r,hz,.inr rfl⟩
theorem Q6{K:Fgg}{H:Hp}{a:Addr}{vs:List V}(h:H a=some (.lst vs)∨Fix K H a vs):SqL K H a vs:=h.elim (λh=>SqL.of h) Fix.sq
theorem Rp.Qbm{K:Fgg}{H:Hp}{ds:List D}{v:V}{F:LAd}(h:Rp K H (.tup ds) v F):∃a vs,v= .ref a/\SqT K H a vs/\Rps K H ds vs F:=by
 simp only[Rp]at h;exact h
theorem Rp.Qep{K:Fgg}{H:Hp}{ds:List D}{a:Addr}{vs:List V}{G:LAd}(h:H a=some (.lst vs))(r:Rps K H ds vs G)(hz:ds.length<=sizeLine):Rp K H (.lst ds) (.ref a) (a::G):=by
 simp only[Rp];exact⟨hz,a,vs,rfl,.inl ⟨G,rfl,h,r⟩⟩
theorem Rp.Qgr{K:Fgg}{H:Hp}{ds:List D}{a:Addr}{vs:List V}{G:LAd}(h:H a=some (.tup vs))(r:Rps K H ds vs G):Rp K H (.tup ds) (.ref a) G:=by
 simp only[Rp];exact⟨a,vs,rfl,SqT.of h,r⟩
theorem Rp.int_inv{K:Fgg}{H:Hp}{i:Int}{v:V}{F:LAd}(h:Rp K H (.int i) v F):v= .int i:=by simp only[Rp]at h;exact h.1
theorem Rp.QdL{K:Fgg}{H:Hp}{i:Bool}{v:V}{F:LAd}(h:Rp K H (.bl i) v F):v= .bl i:=by simp only[Rp]at h;exact h.1
theorem Rp.QfS{K:Fgg}{H:Hp}{v:V}{F:LAd}(h:Rp K H .non v F):v= .non:=by simp only[Rp]at h;exact h.1
theorem Rp.str_inv{K:Fgg}{H:Hp}{i:Str}{v:V}{F:LAd}(h:Rp K H (.str i) v F):v= .str i:=by simp only[Rp]at h;exact h.1
theorem Rp.int_mk{K:Fgg}{H:Hp}{i:Int}:Rp K H (.int i) (.int i) []:=by simp[Rp]
theorem Rp.QcC{K:Fgg}{H:Hp}{i:Bool}:Rp K H (.bl i) (.bl i) []:=by simp[Rp]
theorem Rp.QlM{K:Fgg}{H:Hp}:Rp K H .non .non []:=by simp[Rp]
theorem Rp.str_mk{K:Fgg}{H:Hp}{i:Str}:Rp K H (.str i) (.str i) []:=by simp[Rp]
theorem Qbt(h:H p=none):QU H (L2.upd H p o):=λb u e=>by rw[Q0 (Qcb e h)];exact e
end
end HS
namespace HS
open PySem PySem.Spec L2
noncomputable abbrev En:=List (Option (D×Bool))
noncomputable abbrev slT(d:D):Option (D×Bool):=some (d,true)
noncomputable abbrev slF(d:D):Option (D×Bool):=some (d,false)
noncomputable abbrev slI(i:Int):Option (D×Bool):=some (.int i,true)
theorem nn{α:Type}{x:α}{C:Prop}(h:(none:Option α)=some x):C:=nomatch h
structure R where
 d:D
 fr:Bool
 M:List Nat
noncomputable abbrev reT(d:D):R:=⟨d,true,[]⟩
noncomputable abbrev reF(d:D):R:=⟨d,false,[]⟩
noncomputable abbrev reI(i:Int):R:=⟨.int i,true,[]⟩
structure RA where
 ds:List D
 fr:Bool
 M:List Nat
noncomputable abbrev DE:=En->Option R
noncomputable abbrev DA:=En->Option RA
noncomputable abbrev DT:=En->Option Bool
structure Rel (K:Fgg) (H0:Hp) (A0:LAd) (hs:List (V×D×List Addr)) (ρ:En) (F:Nat->List Addr) (σ:St) (H:Hp):Prop where
 len:ρ.length=σ.length
 val:∀(i:Nat) d b,ρ[i]? =some (some (d,b))->∃v,σ[i]? =some (some v)/\Rp K H d v (F i)
 own:∀(i:Nat) d,ρ[i]? =some (some (d,true))->(F i).length=d.nl/\(F i).Nodup/\(∀a∈F i,H0 a=none)/\(∀(j:Nat) d' b',j≠i->ρ[j]? =some (some (d',b'))->∀a∈F i,a∉F j)/\∀t∈hs,∀a∈F i,a∉t.2.2
 src:∀(i:Nat) d b,ρ[i]? =some (some (d,b))->∀a∈F i,H0 a=none∨a∈A0
 held:∀t∈hs,Rp K H t.2.1 t.1 t.2.2/\∀a∈t.2.2,H0 a=none∨a∈A0
 same:QU H0 H
def Src(ρ:En)(F:Nat->List Addr)(H:Hp)(M:List Nat)(G:LAd):Prop:=
 ∀a∈G,H a=none∨∃(i:Nat) (d:D) (b:Bool),ρ[i]? =some (some (d,b))/\a∈F i/\(b=true->i∈M)
noncomputable def nw(H:Hp)(a:Addr):Nat:=match H a with | none=>1 | some _=>0
def Cnt(F:Nat->List Addr)(H:Hp)(M:List Nat)(G:LAd):Prop:=
 ∀a,G.count a<=nw H a+((M.map F).flatten).count a
def QbI(ρ:En)(M:List Nat):Prop:=∀i∈M,∃d,ρ[i]? =some (some (d,true))
structure Qaj (K:Fgg) (ρ:En) (F:Nat->List Addr) (H H':Hp) (r:R) (v:V) (G:LAd):Prop where
 same:QU H H'
 rp:Rp K H' r.d v G
 src:Src ρ F H r.M G
 cnt:r.fr=true->Cnt F H r.M G/\G.length=r.d.nl
 own:QbI ρ r.M
structure QBx (K:Fgg) (ρ:En) (F:Nat->List Addr) (H H':Hp) (r:RA) (vs:List V) (G:LAd):Prop where
 same:QU H H'
 rp:Rps K H' r.ds vs G
 src:Src ρ F H r.M G
 cnt:r.fr=true->Cnt F H r.M G/\G.length=nls r.ds
 own:QbI ρ r.M
noncomputable def tV(K:Fgg)(H0:Hp)(A0:LAd)(f:DE):TE:=λσ H Q=>∃ρ hs F r,Rel K H0 A0 hs ρ F σ H/\f ρ=some r/\∀v H' G,Qaj K ρ F H H' r v G->Q v H'
noncomputable def tVA(K:Fgg)(H0:Hp)(A0:LAd)(f:DA):TA:=λσ H Q=>∃ρ hs F r,Rel K H0 A0 hs ρ F σ H/\f ρ=some r/\∀v H' G,QBx K ρ F H H' r v G->Q v H'
noncomputable def tVT(K:Fgg)(H0:Hp)(A0:LAd)(f:DT):TT:=λσ H Q=>∃ρ hs F b,Rel K H0 A0 hs ρ F σ H/\f ρ=some b/\∀H',QU H H'->Q b H'
def SE(X:Cx)(e:Expr)(f:DE):Prop:=∀H0 A0,PE X e (tV X.K H0 A0 f)
def SA(X:Cx)(es:List Expr)(f:DA):Prop:=∀H0 A0,PA X es (tVA X.K H0 A0 f)
def ST(X:Cx)(e:Expr)(f:DT):Prop:=∀H0 A0,PT X e (tVT X.K H0 A0 f)
theorem _root_.L2.PE.mono(h:PE X e t)(m:∀σ H Q,t' σ H Q->t σ H Q):PE X e t':=λpins s σ H Q I q=>h pins s σ H Q I (m σ H Q q)
theorem _root_.L2.PT.mono(h:PT X e t)(m:∀σ H Q,t' σ H Q->t σ H Q):PT X e t':=λpins s σ H Q I q=>h pins s σ H Q I (m σ H Q q)
theorem _root_.L2.PA.mono(h:PA X e t)(m:∀σ H Q,t' σ H Q->t σ H Q):PA X e t':=λpos pins s σ H Q I q=>h pos pins s σ H Q I (m σ H Q q)
section
theorem Rel.ext(r:Rel K H0 A0 hs ρ F σ H)(s:QU H H'):Rel K H0 A0 hs ρ F σ H' where
 len:=r.len
 val:=λi d b e=>let ⟨v,h1,h2⟩:=r.val i d b e;⟨v,h1,h2.same s⟩
 own:=r.own
 src:=r.src
 held:=λt ht=>⟨(r.held t ht).1.same s,(r.held t ht).2⟩
 same:=r.same.trans s
theorem Rel.mem(r:Rel K H0 A0 hs ρ F σ H)(e:ρ[i]? =some (some (d,b)))(h:a∈F i):∃vs,H a=some (.lst vs):=
 let ⟨_,_,h2⟩:=r.val i d b e;h2.mem a h
theorem Qdt(h:H a=some o):nw H a=0:=by simp[nw,h]
theorem QbP(h:H a=none):nw H a=1:=by simp[nw,h]
theorem Rel.fl0(r:Rel K H0 A0 hs ρ F σ H)(ow:QbI ρ M)(h:H a=none):((M.map F).flatten).count a=0:=by
 rw[ZW];intro hm;obtain⟨l,hl,ha⟩:=ZbL.mp hm;obtain⟨i,hi,rfl⟩:=ZN.mp hl;obtain⟨d,e⟩:=ow i hi;obtain⟨vs,q⟩:=r.mem e ha;rw[h]at q;cases q
theorem Cnt.append(r:Rel K H0 A0 hs ρ F σ H)(c1:Cnt F H M1 G1)(c2:Cnt F H1 M2 G2)(s:QU H H1)(m1:∀a∈G1,∃vs,H1 a=some (.lst vs)):Cnt F H (M1++M2) (G1++G2):=λa=>by
 rw[Zaz,ZaO,List.flatten_append,Zaz];have h1:=c1 a;have h2:=c2 a;cases q:H1 a with
 | some o=>rw[Qdt q]at h2;omega
 | none=>
  rw[QbP q]at h2;have h3:H a=none:=s.free q;rw[QbP h3]at h1 ⊢;have h4:G1.count a=0:=ZW.mpr λhm=>by obtain⟨vs,z⟩:=m1 a hm;rw[q]at z;cases z
  omega
theorem Src.append(c1:Src ρ F H M1 G1)(c2:Src ρ F H1 M2 G2)(s:QU H H1):Src ρ F H (M1++M2) (G1++G2):=λa ha=>by
 rcases ZH.mp ha with h | h
 ·rcases c1 a h with z | ⟨i,d,b,e,m,w⟩
  ·exact .inl z
  ·exact .inr ⟨i,d,b,e,m,λhb=>Zl _ (w hb)⟩
 ·rcases c2 a h with z | ⟨i,d,b,e,m,w⟩
  ·exact .inl (s.free z)
  ·exact .inr ⟨i,d,b,e,m,λhb=>Zf _ (w hb)⟩
theorem QbI.append(h1:QbI ρ M1)(h2:QbI ρ M2):QbI ρ (M1++M2):=λi hi=>(ZH.mp hi).elim (h1 i) (h2 i)
theorem QbI.nil:QbI ρ []:=λi hi=>by simp at hi
theorem Src.nil:Src ρ F H M []:=λa ha=>by simp at ha
theorem Cnt.nil:Cnt F H M []:=λa=>by simp
theorem Qaj.flat(s:QU H H')(r:Rp K H' d v [])(hf:d.flat=true:=by rfl):Qaj K ρ F H H' ⟨d,true,[]⟩ v []:=⟨s,r,Src.nil,λ_=>⟨Cnt.nil,(Qdm d hf).symm⟩,QbI.nil⟩
theorem Qaj.sub(p:Qaj K ρ F H H1 r v G)(rp:Rp K H1 d u G')(hs:∀a,G'.count a<=G.count a)(hn:G.length=r.d.nl->G'.length=d.nl):Qaj K ρ F H H1 ⟨d,r.fr,r.M⟩ u G' where
 same:=p.same
 rp:=rp
 src:=λa ha=>p.src a (by
  have:=hs a;have h1:0<G'.count a:=Zap.mpr ha;exact Zap.mp ⋯)
 cnt:=λh=>⟨λa=>Zp (hs a) ((p.cnt h).1 a),hn (p.cnt h).2⟩
 own:=p.own
noncomputable def R.norm(r:R):R:=if r.d.flat then⟨r.d,true,[]⟩else r
theorem R.QcN(r:R):r.norm.d=r.d:=by unfold R.norm;split<;>rfl
theorem Qaj.norm(p:Qaj K ρ F H H' r v G):Qaj K ρ F H H' r.norm v G:=by
 unfold R.norm;split
 ·rename_i h;have:=p.rp.QbK h;subst this;exact .flat p.same p.rp h
 ·exact p
end
noncomputable def Qh(i:Nat):DE:=λρ=>match ρ[i]? with
 | some (some (d,b))=>if d.flat then some ⟨d,true,[]⟩else if b then some ⟨d,true,[i]⟩else some ⟨d,false,[]⟩
 | _=>none
noncomputable def dC(d:D):DE:=λ_=>some ⟨d,true,[]⟩
noncomputable abbrev vv0:DE:=Qh 0
noncomputable abbrev vv1:DE:=Qh 1
noncomputable abbrev vv2:DE:=Qh 2
noncomputable abbrev vv3:DE:=Qh 3
noncomputable abbrev vv4:DE:=Qh 4
noncomputable abbrev vv5:DE:=Qh 5
noncomputable abbrev vv6:DE:=Qh 6
noncomputable abbrev vv7:DE:=Qh 7
noncomputable abbrev vv8:DE:=Qh 8
noncomputable abbrev vv9:DE:=Qh 9
noncomputable abbrev Qjs:DE:=Qh 10
noncomputable abbrev QpQ:DE:=Qh 11
noncomputable abbrev QA8:DE:=Qh 12
noncomputable abbrev kk0:DE:=dC (.int 0)
noncomputable abbrev kk1:DE:=dC (.int 1)
noncomputable abbrev kk2:DE:=dC (.int 2)
noncomputable abbrev kk3:DE:=dC (.int 3)
noncomputable abbrev kk4:DE:=dC (.int 4)
noncomputable abbrev kk5:DE:=dC (.int 5)
noncomputable abbrev kk6:DE:=dC (.int 6)
noncomputable abbrev kk9:DE:=dC (.int 9)
noncomputable abbrev QzF:DE:=dC (.int 10)
noncomputable abbrev Qwe:DE:=dC (.int 11)
noncomputable abbrev QDf:DE:=dC (.int 15)
noncomputable abbrev QCJ:DE:=dC (.int 17)
noncomputable abbrev QDc:DE:=dC (.int 23)
noncomputable abbrev QDb:DE:=dC (.int 24)
noncomputable abbrev QC6:DE:=dC (.int 25)
noncomputable abbrev QCF:DE:=dC (.int 31)
noncomputable abbrev QCA:DE:=dC (.int 40)
noncomputable abbrev QBz:DE:=dC (.int 300)
noncomputable abbrev QtN:DE:=dC (.int 7919)
noncomputable abbrev Qxs:DE:=dC (.int 48271)
noncomputable abbrev QxV:DE:=dC (.int 69621)
noncomputable abbrev Qva:DE:=dC (.int 104729)
noncomputable abbrev QpT:DE:=dC (.int 2147483587)
noncomputable abbrev QoS:DE:=dC (.int 2147483629)
noncomputable abbrev QoK:DE:=dC (.int 2147483647)
noncomputable abbrev QeG:DE:=dC (.int 618970019642690137449562111)
section
theorem Qet(h:PE X (.Name x pos) (Qhb i)):SE X (.Name x pos) (Qh i):=λH0 A0=>h.mono λσ H Q=>exK λρ hs F r rel e q=>by
 unfold Qh at e;split at e
 ·rename_i d b q1;obtain⟨v,h1,h2⟩:=rel.val i d b q1;refine⟨v,h1,q v H (F i) ?_⟩;split at e
  ·rename_i hf;cases e;have:=h2.QbK hf;rw[this]at h2 ⊢;exact .flat (QU.refl _) h2 hf
  ·split at e
   ·rename_i hb;cases e;subst hb;exact⟨QU.refl _,h2,λa ha=> .inr ⟨i,d,true,q1,ha,λ_=>by simp⟩,λ_=>⟨λa=>(by simp),(rel.own i d q1).1⟩,λj hj=>by simp at hj;subst hj;exact⟨d,q1⟩⟩
   ·rename_i hb;cases e;simp at hb;subst hb;exact⟨QU.refl _,h2,λa ha=> .inr ⟨i,d,false,q1,ha,λz=>by cases z⟩,λz=>(by cases z),QbI.nil⟩
 ·cases e
theorem Qp0(h:PE X e (tC v))(r:∀K H,Rp K H d v [])(hf:d.flat=true):SE X e (dC d):=λH0 A0=>h.mono λσ H Q=>exK λρ hs F r' rel e q=>by
 cases e;exact q v H [] (.flat (QU.refl _) (r _ _) hf)
theorem two{K:Fgg}{H0:Hp}{A0:LAd}{fa fb:DE}{σ:St}{H:Hp}{hs:List (V×D×List Addr)}{ρ:En}{F:Nat->List Addr}{ra rb:R}{Rr:V->V->Hp->Prop}(rel:Rel K H0 A0 hs ρ F σ H)(ea:fa ρ=some ra)(eb:fb ρ=some rb)
  (k:∀x y H1 H2 G1 G2,Qaj K ρ F H H1 ra x G1->Qaj K ρ F H1 H2 rb y G2->Rr x y H2):tV K H0 A0 fa σ H λx H1=>tV K H0 A0 fb σ H1 λy H2=>Rr x y H2:=
 ⟨ρ,hs,F,ra,rel,ea,λx H1 G1 p1=>⟨ρ,hs,F,rb,rel.ext p1.same,eb,λy H2 G2 p2=>k x y H1 H2 G1 G2 p1 p2⟩⟩
noncomputable def dOp(g:D->D->Option D)(fa fb:DE):DE:=λρ=>(fa ρ).bind λra=>(fb ρ).bind λrb=>(g ra.d rb.d).map λd=>⟨d,true,[]⟩
theorem Qm0(e:dOp g fa fb ρ=some r):∃ra rb d,fa ρ=some ra/\fb ρ=some rb/\g ra.d rb.d=some d/\r=⟨d,true,[]⟩:=by
 unfold dOp at e;cases h1:fa ρ with
 | none=>rw[h1]at e;cases e
 | some ra=>
  cases h2:fb ρ with
  | none=>rw[h1,h2]at e;cases e
  | some rb=>
   rw[h1,h2]at e;cases h3:g ra.d rb.d with
   | none=>simp[h3]at e
   | some d=>simp[h3]at e;exact⟨ra,rb,d,rfl,rfl,h3,e.symm⟩
def Qce(K:Fgg)(g:D->D->Option D)(r:R2):Prop:=∀a b d,g a b=some d->d.flat=true/\∀H x y F G (Q:VK),Rp K H a x F->Rp K H b y G->(∀v,(∀H',Rp K H' d v [])->Q v H)->r x y H Q
theorem QlV(ho:OpR X (binaryOp op) r)(hg:Qce X.K g r)(ha:SE X a fa)(hb:SE X b fb):SE X (.BinOp a op b pos) (dOp g fa fb):=λH0 A0=>
 (Qsp ho (ha H0 A0) (hb H0 A0)).mono λσ H Q=>exK λρ hs F r' rel e q=>by
  obtain⟨ra,rb,d,ea,eb,eg,rfl⟩:=Qm0 e;refine two rel ea eb λx y H1 H2 G1 G2 p1 p2=>(hg _ _ _ eg).2 H2 x y G1 G2 Q (p1.rp.same p2.same) p2.rp λv hv=>?_;exact q v H2 [] (.flat (p1.same.trans p2.same) (hv H2) (hg _ _ _ eg).1)
theorem QzA(ho:OpR X (compareOp op) r)(hg:Qce X.K g r)(ha:SE X a fa)(hb:SE X b fb)(hm:behindInMarks op b=false):SE X (.Compare a [op] [b] pos) (dOp g fa fb):=λH0 A0=>
 (Qyv ho (ha H0 A0) (hb H0 A0) hm).mono λσ H Q=>exK λρ hs F r' rel e q=>by
  obtain⟨ra,rb,d,ea,eb,eg,rfl⟩:=Qm0 e;refine two rel ea eb λx y H1 H2 G1 G2 p1 p2=>(hg _ _ _ eg).2 H2 x y G1 G2 Q (p1.rp.same p2.same) p2.rp λv hv=>?_;exact q v H2 [] (.flat (p1.same.trans p2.same) (hv H2) (hg _ _ _ eg).1)
end
noncomputable def Qdb(i j:Int):Int:=if 0<=j then i / j else i.fdiv j
noncomputable def Qc3(i j:Int):Int:=if 0<=j then i % j else i.fmod j
theorem Qkg(i j:Int):Qdb i j=i.fdiv j:=by
 unfold Qdb;split
 ·rw[ZbW _ (by assumption)]
 ·rfl
theorem Qj5(i j:Int):Qc3 i j=i.fmod j:=by
 unfold Qc3;split
 ·rw[Int.fmod_eq_emod_of_nonneg _ (by assumption)]
 ·rfl
noncomputable def QdN(i j:Int):Bool:=decide (i.natAbs<2^64) || decide (j.natAbs<2^64) || (decide (Builtin.Int.intBits i<=2^20) && decide (Builtin.Int.intBits j<=2^20))
noncomputable def QbH(j:Int):Bool:=decide (j≠0) && decide (j.natAbs<2^8000)
noncomputable def gI(f:Int->Int->Option D)(a b:D):Option D:=match a,b with
 | .int i,.int j=>f i j
 | _,_=>none
noncomputable def QaG:=gI λi j=>some (.int (i-j))
noncomputable def Qco:=gI λi j=>if QbH j then some (.int (Qdb i j))else none
noncomputable def Qa0:=gI λi j=>if j≠0 then some (.int (Qc3 i j))else none
noncomputable def Qjh:=gI λi j=>if 0<=j/\j<=1000/\i.natAbs<2^200 then some (.int (i^j.toNat))else none
noncomputable def QoP:=gI λi j=>if 0<=j then some (.int (i / 2^j.toNat))else none
noncomputable def gLt:=gI λi j=>some (.bl (decide (i<j)))
noncomputable def gLe:=gI λi j=>some (.bl (decide (i<=j)))
noncomputable def gGt:=gI λi j=>some (.bl (decide (j<i)))
noncomputable def gGe:=gI λi j=>some (.bl (decide (j<=i)))
theorem Qty(h:gI f a b=some d):∃i j,a= .int i/\b= .int j/\f i j=some d:=by
 unfold gI at h;split at h
 ·exact⟨_,_,rfl,rfl,h⟩
 ·cases h
section
theorem Qhd(hf:∀i j d,f i j=some d->d.flat=true)(h:∀i j d,f i j=some d->∀H (Q:VK),(∀v,(∀H',Rp K H' d v [])->Q v H)->r (.int i) (.int j) H Q):Qce K (gI f) r:=λa b d e=>by
 obtain⟨i,j,rfl,rfl,ef⟩:=Qty e;refine⟨hf i j d ef,λH x y F G Q ha hb q=>?_⟩;rw[ha.int_inv,hb.int_inv];exact h i j d ef H Q q
theorem Qtj:Qce K QaG (rI0 λi j=> .int (i-j)):=Qhd (λi j d e=>by cases e;rfl) λi j d e H Q q=>by cases e;exact⟨i,j,rfl,rfl,q _ λ_=> .int_mk⟩
theorem Qwb(h:QdN i j=true):IntMulOk i j:=by
 have small:∀k:Int,k.natAbs<2^64->Builtin.Int.intBits k<=64:=λk hk=>by
  unfold Builtin.Int.intBits;split
  ·omega
  ·rename_i h0;have h0':k.natAbs≠0:=λz=>by simp_all
   have:=(Zcu h0').mpr hk;omega
 unfold QdN at h;simp only[Zct,Zg,decide_eq_true_eq]at h;rcases h with(h | h) | ⟨h1,h2⟩
 ·exact .of_left (small i h)
 ·exact .of_right (small j h)
 ·exact .of_bits h1 h2
theorem Qys:OpR X (binaryOp .Mult) (rI (λi j=>QdN i j=true) λi j=> .int (i*j)):=opI λ_ _ _ _ _ _ _ hc q=>PyProof.Rows.mul_int q (Qwb hc)
theorem QxS:OpR X (binaryOp .FloorDiv) (rI (λi j=>QbH j=true) λi j=> .int (Qdb i j)):=opI λi j _ _ _ _ _ hc q=>by
 unfold QbH at hc;simp only[Zg,decide_eq_true_eq]at hc;rw[Qkg]at q;refine PyProof.Rows.floordiv_int hc.1 q (.inl (Zbv ?_));have h0:j.natAbs≠0:= ⋯
 exact Zcm ((Zcu h0).mpr hc.2) (by decide)
theorem QyM:OpR X (binaryOp .Mod) (rI (λi j=>j≠0) λi j=> .int (Qc3 i j)):=opI λi j _ _ _ _ _ hc q=>by
 rw[Qj5]at q;exact PyProof.Rows.mod_int' hc q
theorem QA3:Qce K Qco (rI (λi j=>QbH j=true) λi j=> .int (Qdb i j)):=Qhd (λi j d e=>by split at e<;>cases e;rfl) λi j d e H Q q=>by
 split at e
 ·cases e;exact⟨i,j,rfl,rfl,by assumption,q _ λ_=> .int_mk⟩
 ·cases e
theorem QAX:Qce K Qa0 (rI (λi j=>j≠0) λi j=> .int (Qc3 i j)):=Qhd (λi j d e=>by split at e<;>cases e;rfl) λi j d e H Q q=>by
 split at e
 ·cases e;exact⟨i,j,rfl,rfl,by assumption,q _ λ_=> .int_mk⟩
 ·cases e
theorem Qyo:OpR X (binaryOp .Pow) (rI (λi j=>0<=j/\j<=1000/\i.natAbs<2^200) λi j=> .int (i^j.toNat)):=opI λi j _ _ _ _ _ hc q=>by
 refine PyProof.Rows.pow_int hc.1 ?_ q;have hb:Builtin.Int.intBits i<=200:=by
  unfold Builtin.Int.intBits;split
  ·omega
  ·rename_i h0;have h0':i.natAbs≠0:=λz=>by simp_all
   have:=(Zcu h0').mpr hc.2.2;omega
 have h1:((Builtin.Int.intBits i:Nat):Int)*j<=200*1000:=Int.mul_le_mul ⋯ hc.2.1 hc.1 (by decide);omega
theorem QAF:Qce K Qjh (rI (λi j=>0<=j/\j<=1000/\i.natAbs<2^200) λi j=> .int (i^j.toNat)):=Qhd (λi j d e=>by split at e<;>cases e;rfl) λi j d e H Q q=>by
 split at e
 ·rename_i h;cases e;exact⟨i,j,rfl,rfl,h,q _ λ_=> .int_mk⟩
 ·cases e
theorem Qz1:Qce K QoP (rI (λ_ j=>0<=j) λi j=> .int (i / 2^j.toNat)):=Qhd (λi j d e=>by split at e<;>cases e;rfl) λi j d e H Q q=>by
 split at e
 ·cases e;exact⟨i,j,rfl,rfl,by assumption,q _ λ_=> .int_mk⟩
 ·cases e
theorem QB4:Qce K gLt (rI0 λi j=> .bl (decide (i<j))):=Qhd (λi j d e=>by cases e;rfl) λi j d e H Q q=>by cases e;exact⟨i,j,rfl,rfl,q _ λ_=> .QcC⟩
theorem QBQ:Qce K gLe (rI0 λi j=> .bl (decide (i<=j))):=Qhd (λi j d e=>by cases e;rfl) λi j d e H Q q=>by cases e;exact⟨i,j,rfl,rfl,q _ λ_=> .QcC⟩
theorem QBw:Qce K gGt (rI0 λi j=> .bl (decide (j<i))):=Qhd (λi j d e=>by cases e;rfl) λi j d e H Q q=>by cases e;exact⟨i,j,rfl,rfl,q _ λ_=> .QcC⟩
theorem QB8:Qce K gGe (rI0 λi j=> .bl (decide (j<=i))):=Qhd (λi j d e=>by cases e;rfl) λi j d e H Q q=>by cases e;exact⟨i,j,rfl,rfl,q _ λ_=> .QcC⟩
end
theorem Qdi:∀(xs ys:List D),QY (xs++ys)=(QY xs && QY ys)
 | [],ys=>by simp[QY]
 | x::xs,ys=>by simp[QY,Qdi xs ys,Bool.and_assoc]
noncomputable def Qbq(ds:List D)(M:List Nat):R:=if QY ds then⟨.lst ds,true,[]⟩else⟨.lst ds,false,M⟩
section
variable {K:Fgg}{H0 H H':Hp}{A0:LAd}{hs:List (V×D×List Addr)}{ρ:En}{F:Nat->List Addr}{σ:L2.St}
theorem Qaj.Qbq(s:QU H H1)(hp:H1 p=none)(r:Rps K H1 ds vs G)(hz:ds.length<=sizeLine)(src:Src ρ F H M G)(ow:QbI ρ M):
  Qaj K ρ F H (upd H1 p (.lst vs)) (Qbq ds M) (.ref p) (p::G):=by
 have s2:QU H1 (upd H1 p (.lst vs)):=Qbt hp;have rp:Rp K (upd H1 p (.lst vs)) (.lst ds) (.ref p) (p::G):=Rp.Qep Qau (r.same s2) hz;have hH:H p=none:=s.free hp;unfold HS.Qbq;split
 ·rename_i hf;have:=r.QbK hf;subst this;refine⟨s.trans s2,rp,λa ha=>?_,λ_=>⟨λa=>?_,by simp only[D.nl,QiA ds hf];rfl⟩,QbI.nil⟩
  ·have:a=p:=by simpa using ha
   subst this;exact .inl hH
  ·rw[List.count_singleton];split
   ·rename_i e;have e':p=a:=by simpa using e
    subst e';rw[QbP hH];omega
   ·omega
 ·refine⟨s.trans s2,rp,λa ha=>?_,λz=>(by cases z),ow⟩;rcases Zo.mp ha with rfl | h
  ·exact .inl hH
  ·exact src a h
end
noncomputable def QS(fa fb:DE):DE:=λρ=>(fa ρ).bind λra=>(fb ρ).bind λrb=>match ra.d,rb.d with
 | .int i,.int j=>some ⟨.int (i+j),true,[]⟩
 | .lst xs,.lst ys=>if xs.length+ys.length<=sizeLine then some (Qbq (xs++ys) (ra.M++rb.M))else none
 | _,_=>none
noncomputable def Q7(fa fb:DE):DE:=λρ=>(fa ρ).bind λra=>(fb ρ).bind λrb=>match ra.d,rb.d with
 | .int i,.int j=>if QdN i j then some ⟨.int (i*j),true,[]⟩else none
 | .lst xs,.int j=>if xs.length*j.toNat<=sizeLine/\ -(2^63)<=j/\j<2^63/\QY xs=true then some ⟨.lst (List.replicate j.toNat xs).flatten,true,[]⟩else none
 | _,_=>none
theorem QsW{fa fb:DE}{ρ:En}{k:R->R->Option R}{r:R}(e:((fa ρ).bind λra=>(fb ρ).bind λrb=>k ra rb)=some r):∃ra rb,fa ρ=some ra/\fb ρ=some rb/\k ra rb=some r:=by
 cases h1:fa ρ with
 | none=>rw[h1]at e;cases e
 | some ra=>
  cases h2:fb ρ with
  | none=>rw[h1,h2]at e;cases e
  | some rb=>rw[h1,h2]at e;exact⟨ra,rb,rfl,rfl,e⟩
theorem bind1{α β:Type}{x:Option α}{k:α->Option β}{r:β}(e:x.bind k=some r):∃a,x=some a/\k a=some r:=by
 cases x with
 | none=>cases e
 | some a=>exact⟨a,rfl,e⟩
section
noncomputable def QBX(K:Fgg):R2:=λx y H Q=>∃l c xs zs,x= .ref l/\y= .ref c/\(H l=some (.lst xs)∨Fix K H l xs)/\(H c=some (.lst zs)∨Fix K H c zs)/\xs.length+zs.length<=sizeLine/\∀p,H p=none->Q (.ref p) (upd H p (.lst (xs++zs)))
theorem mapR{α γ:Type}{x:Option α}{f:α->γ}{r:γ}{M:γ->Prop}(e:x.map f=some r)(g:∀a,x=some a->M (f a)):M r:=by
 obtain⟨a,h,rfl⟩:=Zk.mp e;exact g a h
theorem Qj{α β:Type}{x:Option α}{k:α->Option β}{r:β}{G:Prop}(e:x.bind k=some r)(g:∀a,x=some a->k a=some r->G):G:=let ⟨a,h1,h2⟩:=bind1 e;g a h1 h2
theorem Qzm:OpR X (binaryOp .Add) (QBX X.K):=by
 intro pins s σ H x y v u Q I rx ry h;obtain⟨l,c,xs,zs,rfl,rfl,hH,hB,hz,q⟩:=h;cases rx;cases ry;obtain⟨z,its,n,r,hl,e⟩:=I.Qpj hH;obtain⟨z2,its2,n2,r2,hl2,e2⟩:=I.Qpj hB;refine PySem.P.add_list e e2 ?_ (by rw[Zv,Zv];omega);have ea:its.toArray++its2.toArray=(its++its2).toArray:=by simp
 rw[ea];exact⟨.ref _,_,I.QAQ (t':=s.toks) (r.append r2) (by rw[Zx];omega),rfl,q _ I.fresh⟩
theorem QBg(ha:SE X a fa)(hb:SE X b fb):SE X (.BinOp a .Add b pos) (QS fa fb):=λH0 A0=>
 (Qsp (QAq.or Qzm) (ha H0 A0) (hb H0 A0)).mono λσ H Q=>exK λρ hs F r' rel e q=>by
  obtain⟨ra,rb,ea,eb,ek⟩:=QsW e;refine two rel ea eb λx y H1 H2 G1 G2 p1 p2=>?_;have p1':=p1.rp.same p2.same;have p2':=p2.rp;have c1:=p1.src.append p2.src p1.same;have o1:=p1.own.append p2.own;revert ek;revert p1' p2';cases ra.d<;>cases rb.d<;>intro p1' p2' ek<;>first | (cases ek;done) | skip
  ·cases ek;rw[p1'.int_inv,p2'.int_inv];exact .inl ⟨_,_,rfl,rfl,q _ H2 [] (.flat (p1.same.trans p2.same) .int_mk)⟩
  ·rename_i xs ys;dsimp only at ek;split at ek
   ·rename_i hz;cases ek;obtain⟨l,vs,L1,rfl,hl,rl,zl,el⟩:=p1'.lst_inv;obtain⟨c,ws,L2',rfl,hc,rc,zc,ec⟩:=p2'.lst_inv;have n1:=rl.length;have n2:=rc.length;refine .inr ⟨l,c,vs,ws,rfl,rfl,hl,hc,⋯,λp hp=>?_⟩;refine q _ _ (p::(L1++L2')) (Qaj.Qbq (p1.same.trans p2.same) hp (rl.append rc) (by rw[Zx];exact hz) (λa ha=>c1 a ?_) o1);rcases ZH.mp ha with h | h
    ·refine Zl _ ?_;rcases el with rfl | rfl
     ·exact Zc _ h
     ·exact h
    ·refine Zf _ ?_;rcases ec with rfl | rfl
     ·exact Zc _ h
     ·exact h
   ·cases ek
noncomputable def QBG(K:Fgg):R2:=λx y H Q=>∃l k xs,x= .ref l/\y= .int k/\(H l=some (.lst xs)∨Fix K H l xs)/\ -(2^63)<=k/\k<2^63/\xs.length*k.toNat<=sizeLine∧
 ∀p,H p=none->Q (.ref p) (upd H p (.lst (List.replicate k.toNat xs).flatten))
theorem Qza:OpR X (binaryOp .Mult) (QBG X.K):=by
 intro pins s σ H x y v u Q I rx ry h;obtain⟨l,k,xs,rfl,rfl,hH,h1,h2,hz,q⟩:=h;cases rx;obtain⟨t,rfl⟩:=ry;obtain⟨z,its,n,r,hl,e⟩:=I.Qpj hH;have hlen:its.toArray.size*k.toNat<=sizeLine:=by rw[Zv,← hl];exact hz
 have hcap:¬its.toArray.size*k.toNat>(2^63-1) / 8:=by
  have:(sizeLine:Nat)<=(2^63-1) / 8:=by decide
  omega
 have hfit:¬(!Builtin.List.listFitsIndex k)=true:=by
  rw[fitsIndex_both h1 h2];exact ZaI
 have hlong:¬Builtin.List.listTooLong (its.toArray.size*k.toNat)=true:=by
  rw[QwP hlen];exact ZaI
 have hnew:List.foldl (λx1 x2=>x1++x2) #[] (List.replicate (if its.toArray.isEmpty=true then 0 else k.toNat) its.toArray)=(List.replicate k.toNat its).flatten.toArray:=by
  have f0:∀m:Nat,List.foldl (λx1 x2=>x1++x2) #[] (List.replicate m its.toArray)=(List.replicate m its).flatten.toArray:=λm=>by
   have:=foldl_rep its m [];rw[Zbk]at this;exact this
  rw[f0];cases its with
  | nil=>simp
  | cons a r'=>rw[if_neg (by simp)]
 open PyProof.Rows in
 refine wpAny_binaryOp_repeat_ref (by decide) ⟨_,e,rfl⟩ (λs'=>typeIs_int s' k t) noFill_list_mul F.fills_int_mul F.slot_int_rmul repeat_list F.slot_int_index.lookup
  (call_meets F.slot_int_rmul (typeIs_int s k t) F.entry_int_rmul (F.args_int_rmul_2 _ _) (int___rmul___int_list k t l its.toArray n)
   ⟨e,rfl,⟨_,e,rfl⟩,call_meets F.slot_list_mul ⟨_,e,rfl⟩ F.entry_list_mul (F.args_list_mul_2 _ _) (AutoListH.list___mul___list_int_3 l its.toArray n k t hfit hcap hlong) ⟨e,?_⟩⟩)
 rw[hnew];exact⟨.ref _,_,I.QAQ (t':=s.toks) (r.rep k.toNat) (by rw[len_rep,Zbe];exact hz),rfl,q _ I.fresh⟩
theorem QnS(h:QY xs=true):∀n:Nat,QY (List.replicate n xs).flatten=true
 | 0=>by simp[QY]
 | n+1=>by rw[Zas,Zay,Qdi,h,QnS h n];rfl
theorem Rps.rep(h:Rps K H ds vs []):∀n:Nat,Rps K H (List.replicate n ds).flatten (List.replicate n vs).flatten []
 | 0=>by simp[Rps]
 | n+1=>by rw[Zas,Zay,Zas,Zay];exact h.append (Rps.rep h n)
theorem QBc(ha:SE X a fa)(hb:SE X b fb):SE X (.BinOp a .Mult b pos) (Q7 fa fb):=λH0 A0=>
 (Qsp (Qys.or Qza) (ha H0 A0) (hb H0 A0)).mono λσ H Q=>exK λρ hs F r' rel e q=>by
  obtain⟨ra,rb,ea,eb,ek⟩:=QsW e;refine two rel ea eb λx y H1 H2 G1 G2 p1 p2=>?_;have p1':=p1.rp.same p2.same;have p2':=p2.rp;revert ek;revert p1' p2';cases ra.d<;>cases rb.d<;>intro p1' p2' ek<;>first | (cases ek;done) | skip
  ·dsimp only at ek;split at ek
   ·rename_i hm;cases ek;rw[p1'.int_inv,p2'.int_inv];exact .inl ⟨_,_,rfl,rfl,hm,q _ H2 [] (.flat (p1.same.trans p2.same) .int_mk)⟩
   ·cases ek
  ·rename_i xs j;dsimp only at ek;split at ek
   ·rename_i hz;cases ek;obtain⟨hz1,hz2,hz3,hf⟩:=hz;obtain⟨l,vs,L1,rfl,hl,rl,zl,el⟩:=p1'.lst_inv;have n1:=rl.length;have e0:=rl.QbK hf;subst e0;rw[p2'.int_inv];refine .inr ⟨l,j,vs,rfl,rfl,hl,hz2,hz3,by rw[← n1];exact hz1,λp hp=>?_⟩;have w:HS.Qbq (List.replicate j.toNat xs).flatten []=⟨.lst (List.replicate j.toNat xs).flatten,true,[]⟩:=by
     unfold HS.Qbq;rw[if_pos (QnS hf _)]
    rw[← w]at q;exact q _ _ (p::[]) (Qaj.Qbq (p1.same.trans p2.same) hp (rl.rep _) (by rw[len_rep,Zbe];exact hz1) Src.nil QbI.nil)
   ·cases ek
end
end HS
namespace HS
open PySem PySem.Spec L2
noncomputable def Qe:DA:=λ_=>some ⟨[],true,[]⟩
noncomputable def Qa(fa:DE)(fr:DA):DA:=λρ=>(fa ρ).bind λr=>(fr ρ).bind λrs=>some ⟨r.d::rs.ds,r.fr && rs.fr,r.M++rs.M⟩
noncomputable def QaP(fa:DA):DE:=λρ=>(fa ρ).bind λr=>if r.ds.length<=64 then some ⟨.tup r.ds,r.fr,r.M⟩else none
noncomputable def Qao(fa:DA):DE:=λρ=>(fa ρ).bind λr=>if r.ds.length<=64 then some ⟨.lst r.ds,r.fr,r.M⟩else none
section
variable {X:Cx}{a b e:Expr}{es:List Expr}{fa fb:DE}{fs:DA}{pos:Pos}
theorem QlC:SA X [] Qe:=λH0 A0=>Qb8.mono λσ H Q=>exK λρ hs F r' rel e q=>by
 cases e;exact q [] H [] ⟨QU.refl _,by simp[Rps],Src.nil,λ_=>⟨Cnt.nil,rfl⟩,QbI.nil⟩
theorem QhU(ha:SE X e fa)(hr:SA X es fs)(hs:starEach (e::es) X.env=(false,eval e X.env)::starEach es X.env):SA X (e::es) (Qa fa fs):=λH0 A0=>
 (Qag (ha H0 A0) (hr H0 A0) hs).mono λσ H Q=>exK λρ hs F r' rel e q=>by
  refine Qj e λr e1 e=>?_;refine Qj e λrs e2 e=>?_;cases e;refine⟨ρ,hs,F,r,rel,e1,λx H1 G1 p1=>⟨ρ,hs,F,rs,rel.ext p1.same,e2,λxs H2 G2 p2=>?_⟩⟩;refine q _ H2 (G1++G2) ⟨p1.same.trans p2.same,?_,p1.src.append p2.src p1.same,λh=>?_,p1.own.append p2.own⟩
  ·simp only[Rps];exact⟨x,xs,G1,G2,rfl,rfl,p1.rp.same p2.same,p2.rp⟩
  ·simp only[Zg]at h;exact⟨(p1.cnt h.1).1.append rel (p2.cnt h.2).1 p1.same p1.rp.mem,by simp only[nls,Zx,(p1.cnt h.1).2,(p2.cnt h.2).2]⟩
theorem QfC{n:Nat}(h:n<=64):n<=sizeLine:=Zp h (by decide)
theorem Qz9{k:Nat}(ha:SA X es fs):SE X (.Tuple es k pos) (QaP fs):=λH0 A0=>
 (QtF (ha H0 A0)).mono λσ H Q=>exK λρ hs F r' rel e q=>by
  refine Qj e λr e1 e=>?_;split at e
  ·rename_i hz;cases e;refine⟨ρ,hs,F,r,rel,e1,λxs H1 G p=>⟨by rw[← p.rp.length];exact QfC hz,λc hc=>q _ _ G ⟨p.same.trans (Qbt hc),Rp.Qgr Qau (p.rp.same (Qbt hc)),p.src,λh=>⟨(p.cnt h).1,by simp only[D.nl];exact(p.cnt h).2⟩,p.own⟩⟩⟩
  ·cases e
theorem QzG(ha:SA X es fs):SE X (.List es pos) (Qao fs):=λH0 A0=>
 (QAr (ha H0 A0)).mono λσ H Q=>exK λρ hs F r' rel e q=>by
  refine Qj e λr e1 e=>?_;split at e
  ·rename_i hz;cases e;refine⟨ρ,hs,F,r,rel,e1,λxs H1 G p=>⟨by rw[← p.rp.length];exact QfC hz,λc hc=>?_⟩⟩;have hH:H c=none:=p.same.free hc;refine q _ _ (c::G) ⟨p.same.trans (Qbt hc),Rp.Qep Qau (p.rp.same (Qbt hc)) (QfC hz),λz hz'=>?_,λh=>⟨λz=>?_,by simp only[D.nl,ZJ,(p.cnt h).2]⟩,p.own⟩
   ·rcases Zo.mp hz' with rfl | h
    ·exact .inl hH
    ·exact p.src z h
   ·rw[ZaZ];have:=(p.cnt h).1 z;split
    ·rename_i e';have e':c=z:=by simpa using e'
     subst e';have h0:G.count c=0:=ZW.mpr λhm=>by obtain⟨vs,w⟩:=p.rp.mem c hm;rw[hc]at w;cases w
     rw[QbP hH];omega
    ·exact this
  ·cases e
noncomputable def D.items:D->Option (List D)
 | .lst xs=>some xs
 | .tup xs=>some xs
 | _=>none
noncomputable def Qn(fa fb:DE):DE:=λρ=>(fa ρ).bind λra=>(fb ρ).bind λrb=>match rb.d with
 | .int i=>(ra.d.items).bind λxs=>(atI xs i).map λd=>(R.norm ⟨d,ra.fr,ra.M⟩)
 | _=>none
theorem Qy0{α β:Type}{xs:List α}{i:Int}{d:α}(h:atI xs i=some d):∃j:Nat,xs[j]? =some d/\∀(ys:List β),ys.length=xs.length->∀y,ys[j]? =some y->atI ys i=some y:=by
 unfold atI at h;cases e:ixN xs.length i with
 | none=>rw[e]at h;cases h
 | some j=>
  rw[e]at h;refine⟨j,h,λys hl y hy=>?_⟩;unfold atI;rw[hl,e];exact hy
theorem QAm(ha:SE X a fa)(hb:SE X b fb)(hs:Qj9 b):SE X (.Subscript a b pos) (Qn fa fb):=λH0 A0=>
 (Qxm (Qq1.or Qte) (ha H0 A0) (hb H0 A0) hs).mono λσ H Q=>exK λρ hs F r' rel e q=>by
  obtain⟨ra,rb,ea,eb,ek⟩:=QsW e;refine two rel ea eb λx y H1 H2 G1 G2 p1 p2=>?_;have p1':=p1.rp.same p2.same;have p2':=p2.rp;have pp:Qaj X.K ρ F H H2 ra x G1:=⟨p1.same.trans p2.same,p1',p1.src,p1.cnt,p1.own⟩;cases hb':rb.d with
  | int i=>
   rw[hb']at ek p2';rw[p2'.int_inv];refine Qj ek λxs ex ek=>?_;obtain⟨d,ed,ek⟩:=Zk.mp ek;subst ek;obtain⟨j,hj,hm⟩:=Qy0 ed;have fin:∀(L:LAd) (vs:List V),Rps X.K H2 xs vs L->(∀z,L.count z<=G1.count z)->(G1.length=ra.d.nl->L.length=nls xs)->∃v,atI vs i=some v/\Q v H2:=λL vs rl hc hn=>by
    obtain⟨v,F1,G,F2,hv,eF,rv,hx⟩:=rl.get hj;refine⟨v,hm vs rl.length.symm v hv,q v H2 G (Qaj.norm (Qaj.sub pp rv (λz=>Zp ?_ (hc z)) λz=>hx (hn z)))⟩;rw[eF,Zaz,Zaz];omega
   cases hra:ra.d with
   | lst ys=>
    rw[hra]at ex p1';cases ex;obtain⟨l,vs,L,rfl,hl,rl,zl,el⟩:=p1'.lst_inv;have hn:G1.length=ra.d.nl->L.length=nls xs:=λhz=>by
     have:=rl.QaR;simp only[hra,D.nl]at hz;rcases el with rfl | rfl
     ·rw[ZJ]at hz;omega
     ·omega
    have hc:∀z,L.count z<=G1.count z:=λz=>by
     rcases el with rfl | rfl
     ·rw[ZaZ];omega
     ·exact Zh _
    obtain⟨v,h1,h2⟩:=fin L vs rl hc hn;exact .inl ⟨l,vs,i,v,rfl,rfl,Q6 hl,h1,h2⟩
   | tup ys=>
    rw[hra]at ex p1';cases ex;obtain⟨l,vs,rfl,hl,rl⟩:=p1'.Qbm;obtain⟨v,h1,h2⟩:=fin G1 vs rl (λz=>Zh _) λz=>(by simpa only[hra,D.nl]using z);exact .inr ⟨l,vs,i,v,rfl,rfl,hl,h1,h2⟩
   | _=>rw[hra]at ex;cases ex
  | _=>rw[hb']at ek;cases ek
noncomputable abbrev DO:=En->Option (Option Int)
noncomputable def QbV:DO:=λ_=>some none
noncomputable def QaI(f:DE):DO:=λρ=>(f ρ).bind λr=>match r.d with
 | .int i=>some (some i)
 | _=>none
noncomputable def tVO(K:Fgg)(H0:Hp)(A0:LAd)(f:DO):TO:=λσ H Q=>∃ρ hs F o,Rel K H0 A0 hs ρ F σ H/\f ρ=some o/\∀H',QU H H'->Q o H'
def SO(X:Cx)(e:Option Expr)(f:DO):Prop:=∀H0 A0,PO X e (tVO X.K H0 A0 f)
theorem _root_.L2.PO.mono{X:Cx}{e:Option Expr}{t t':TO}(h:PO X e t)(m:∀σ H Q,t' σ H Q->t σ H Q):PO X e t':=by
 intro pins s σ H Q I q;exact h pins s σ H Q I (m σ H Q q)
theorem Qxw:SO X none QbV:=λH0 A0=>QyP.mono λσ H Q=>exK λρ hs F o rel e q=>by
 cases e;exact q H (QU.refl _)
theorem QyH(h:SE X a fa):SO X (some a) (QaI fa):=λH0 A0=>(Qyd (h H0 A0)).mono λσ H Q=>exK λρ hs F o rel e q=>by
 refine Qj e λr e1 e=>?_;refine⟨ρ,hs,F,r,rel,e1,λv H1 G p=>?_⟩;have rp:=p.rp;cases hr:r.d with
 | int i=>
  rw[hr]at e rp;cases e;exact⟨i,rp.int_inv,q H1 p.same⟩
 | _=>rw[hr]at e;cases e
noncomputable def cutD(xs:List D)(lo hi:Option Int):List D:=(xs.drop (HT.sIx xs.length 0 lo)).take (HT.sIx xs.length xs.length hi-HT.sIx xs.length 0 lo)
noncomputable def QbJ(fa:DE)(lo hi:DO):DE:=λρ=>(fa ρ).bind λra=>(lo ρ).bind λl=>(hi ρ).bind λh=>match ra.d with
 | .lst xs=>some (Qbq (cutD xs l h) ra.M)
 | _=>none
theorem Rps.drop:∀{ds:List D}{vs:List V}{F:LAd}{K:Fgg}{H:Hp}(n:Nat),Rps K H ds vs F->∃G,Rps K H (ds.drop n) (vs.drop n) G/\∀a∈G,a∈F
 | [],vs,F,K,H,n,h=>by simp only[Rps]at h;rw[h.1,h.2];exact⟨[],by simp[Rps],λ_ h=>h⟩
 | d::ds,vs,F,K,H,0,h=>⟨F,by simpa using h,λ_ h=>h⟩
 | d::ds,vs,F,K,H,n+1,h=>by
  simp only[Rps]at h;obtain⟨v,ws,F1,F2,e,eF,r,q⟩:=h;subst e eF;obtain⟨G,h1,h2⟩:=Rps.drop n q;exact⟨G,by simpa using h1,λa ha=>Zf _ (h2 a ha)⟩
theorem Rps.take:∀{ds:List D}{vs:List V}{F:LAd}{K:Fgg}{H:Hp}(n:Nat),Rps K H ds vs F->∃G,Rps K H (ds.take n) (vs.take n) G/\∀a∈G,a∈F
 | [],vs,F,K,H,n,h=>by simp only[Rps]at h;rw[h.1,h.2];exact⟨[],by simp[Rps],λ_ h=>h⟩
 | d::ds,vs,F,K,H,0,h=>⟨[],by simp[Rps],λ_ h=>by simp at h⟩
 | d::ds,vs,F,K,H,n+1,h=>by
  simp only[Rps]at h;obtain⟨v,ws,F1,F2,e,eF,r,q⟩:=h;subst e eF;obtain⟨G,h1,h2⟩:=Rps.take n q;refine⟨F1++G,?_,λa ha=>?_⟩
  ·simp only[ZbS,Rps];exact⟨v,_,F1,G,rfl,rfl,r,h1⟩
  ·rcases ZH.mp ha with h | h
   ·exact Zl _ h
   ·exact Zf _ (h2 a h)
theorem Qz7{lo hi:Option Expr}{fl fh:DO}{p2:Pos}(ha:SE X a fa)(hl:SO X lo fl)(hh:SO X hi fh):SE X (.Subscript a (.Slice lo hi none p2) pos) (QbJ fa fl fh):=λH0 A0=>
 (QwF QyZ (ha H0 A0) (hl H0 A0) (hh H0 A0)).mono λσ H Q=>exK λρ hs F r' rel e q=>by
  refine Qj e λra e1 e=>?_;refine Qj e λl e2 e=>?_;refine Qj e λh e3 e=>?_;refine⟨ρ,hs,F,ra,rel,e1,λx H1 G1 p1=>⟨ρ,hs,F,l,rel.ext p1.same,e2,λH2 s2=>⟨ρ,hs,F,h,(rel.ext p1.same).ext s2,e3,λH3 s3=>?_⟩⟩⟩;have rp:=p1.rp.same (s2.trans s3);cases hra:ra.d with
  | lst xs=>
   rw[hra]at e rp;cases e;obtain⟨c,vs,L,rfl,hc,rl,zl,el⟩:=rp.lst_inv;refine⟨c,vs,rfl,Q6 hc,λp hp=>?_⟩;obtain⟨G2,h2,m2⟩:=rl.drop (HT.sIx xs.length 0 l);obtain⟨G3,h3,m3⟩:=h2.take (HT.sIx xs.length xs.length h-HT.sIx xs.length 0 l);have n1:=rl.length;rw[show Qm1 vs l h=(vs.drop (HT.sIx xs.length 0 l)).take (HT.sIx xs.length xs.length h-HT.sIx xs.length 0 l) by unfold Qm1;rw[n1]];refine q _ _ (p::G3) (Qaj.Qbq (p1.same.trans (s2.trans s3)) hp h3 ?_ (λz hz=>p1.src z ?_) p1.own)
   ·unfold cutD;rw[ZaJ,ZaR];omega
   ·have:=m2 z (m3 z hz);rcases el with rfl | rfl
    ·exact Zc _ this
    ·exact this
  | _=>rw[hra]at e;cases e
noncomputable def dBf(g:List D->Option D)(fs:DA):DE:=λρ=>(fs ρ).bind λr=>(g r.ds).map λd=>⟨d,true,[]⟩
def Qfg(K:Fgg)(g:List D->Option D)(r:List V->Hp->VK->Prop):Prop:=∀ds d,g ds=some d->d.flat=true/\∀H vs F (Q:VK),Rps K H ds vs F->(∀v,(∀H',Rp K H' d v [])->Q v H)->r vs H Q
theorem QiC{x:Str}{id:String}{g:List D->Option D}{r:List V->Hp->VK->Prop}{p:Pos}(hc:Qc7 X (.builtin id) r)(hk:Qfg X.K g r)(hg:Gl X x)(hm:X.mg x=none)(hv:bootBuiltins x=some (.builtin id))(ha:SA X (e::es) fs)(hn:x≠ "__name__")(hdb:(x == ("__debug__" :Str))=false)
  (he:starEach (e::es) X.env=(false,eval e X.env)::starEach es X.env) (hpl:(backTo pos (starEach es X.env)).any (·.1)=false):SE X (.Call (.Name x p) (e::es) [] pos) (dBf g fs):=λH0 A0=>
 (Qk4 hc hg hm hv (ha H0 A0) hn hdb he hpl).mono λσ H Q=>exK λρ hs F r' rel e q=>by
  refine Qj e λra e1 e=>?_;obtain⟨d,ed,e⟩:=Zk.mp e;subst e;exact⟨ρ,hs,F,ra,rel,e1,λvs H1 G p1=>(hk _ _ ed).2 H1 vs G Q p1.rp λv hv=>q v H1 [] (.flat p1.same (hv _) (hk _ _ ed).1)⟩
theorem Rps.one{K:Fgg}{H:Hp}{d:D}{vs:List V}{F:LAd}(h:Rps K H [d] vs F):∃v,vs=[v]/\Rp K H d v F:=by
 simp only[Rps]at h;obtain⟨v,ws,F1,F2,rfl,rfl,r,rfl,rfl⟩:=h;exact⟨v,rfl,by simpa using r⟩
theorem Rps.two{K:Fgg}{H:Hp}{d e:D}{vs:List V}{F:LAd}(h:Rps K H [d,e] vs F):∃v w F1 F2,vs=[v,w]/\Rp K H d v F1/\Rp K H e w F2:=by
 simp only[Rps]at h;obtain⟨v,ws,F1,F2,rfl,rfl,r,w,ws',F3,F4,rfl,rfl,r2,rfl,rfl⟩:=h;exact⟨v,w,F1,F3,rfl,r,r2⟩
noncomputable def Qaa:List D->Option D
 | [.lst xs]=>some (.int xs.length)
 | [.tup xs]=>some (.int xs.length)
 | _=>none
theorem Qzw{K:Fgg}:Qfg K Qaa (λxs H Q=>∃p ys,xs=[.ref p]/\(SqL K H p ys∨SqT K H p ys)/\Q (.int ys.length) H):=λds d e=>by
 unfold Qaa at e;split at e
 ·cases e;refine⟨rfl,λH vs F Q r q=>?_⟩;obtain⟨v,rfl,rp⟩:=r.one;obtain⟨l,ws,L,rfl,hl,rl,zl,el⟩:=rp.lst_inv;exact⟨l,ws,rfl,.inl (Q6 hl),by rw[← rl.length];exact q _ λ_=> .int_mk⟩
 ·cases e;refine⟨rfl,λH vs F Q r q=>?_⟩;obtain⟨v,rfl,rp⟩:=r.one;obtain⟨l,ws,rfl,hl,rl⟩:=rp.Qbm;exact⟨l,ws,rfl,.inr hl,by rw[← rl.length];exact q _ λ_=> .int_mk⟩
 ·cases e
noncomputable def QlN:List D->Option D
 | [.int i,.int j]=>some (.int (if j<i then j else i))
 | _=>none
noncomputable def Qmi:List D->Option D
 | [.int i,.int j]=>some (.int (if j>i then j else i))
 | _=>none
noncomputable def QpL:List D->Option D
 | [.int i]=>some (.int (if i<0 then-i else i))
 | _=>none
theorem QyU{K:Fgg}:Qfg K QlN (λxs H Q=>∃i j,xs=[.int i,.int j]/\Q (.int (if j<i then j else i)) H):=λds d e=>by
 unfold QlN at e;split at e
 ·cases e;refine⟨rfl,λH vs F Q r q=>?_⟩;obtain⟨v,w,F1,F2,rfl,r1,r2⟩:=r.two;exact⟨_,_,by rw[r1.int_inv,r2.int_inv],q _ λ_=> .int_mk⟩
 ·cases e
theorem Qx5{K:Fgg}:Qfg K Qmi (λxs H Q=>∃i j,xs=[.int i,.int j]/\Q (.int (if j>i then j else i)) H):=λds d e=>by
 unfold Qmi at e;split at e
 ·cases e;refine⟨rfl,λH vs F Q r q=>?_⟩;obtain⟨v,w,F1,F2,rfl,r1,r2⟩:=r.two;exact⟨_,_,by rw[r1.int_inv,r2.int_inv],q _ λ_=> .int_mk⟩
 ·cases e
theorem QAy{K:Fgg}:Qfg K QpL (λxs H Q=>∃i,xs=[.int i]/\Q (.int (if i<0 then-i else i)) H):=λds d e=>by
 unfold QpL at e;split at e
 ·cases e;refine⟨rfl,λH vs F Q r q=>?_⟩;obtain⟨v,rfl,r1⟩:=r.one;exact⟨_,by rw[r1.int_inv],q _ λ_=> .int_mk⟩
 ·cases e
noncomputable def dList(fs:DA):DE:=λρ=>(fs ρ).bind λr=>match r.ds with
 | [.lst xs]=>some (Qbq xs r.M)
 | [.tup xs]=>if xs.length<=sizeLine then some (Qbq xs r.M)else none
 | _=>none
theorem Qyx{p:Pos}(hg:Gl X "list")(hm:X.mg "list" =none)(ha:SA X (e::es) fs)(he:starEach (e::es) X.env=(false,eval e X.env)::starEach es X.env)(hpl:(backTo pos (starEach es X.env)).any (·.1)=false):
  SE X (.Call (.Name "list" p) (e::es) [] pos) (dList fs):=λH0 A0=>
 (QjJ Qi9 hg hm ZbD (ha H0 A0) (by decide) (by decide) he hpl).mono λσ H Q=>exK λρ hs F r' rel e q=>by
  refine Qj e λra e1 e=>?_;refine⟨ρ,hs,F,ra,rel,e1,λvs H1 G p1=>?_⟩;have rp:=p1.rp;have src:=p1.src;split at e
  ·rename_i xs hds;cases e;rw[hds]at rp;obtain⟨v,rfl,rq⟩:=rp.one;obtain⟨l,ws,L,rfl,hl,rl,zl,el⟩:=rq.lst_inv;refine⟨l,ws,rfl,.inl (Q6 hl),λc hc=>q _ _ (c::L) (Qaj.Qbq p1.same hc rl zl (λz hz=>src z ?_) p1.own)⟩;rcases el with rfl | rfl
   ·exact Zc _ hz
   ·exact hz
  ·rename_i xs hds;split at e
   ·rename_i hz;cases e;rw[hds]at rp;obtain⟨v,rfl,rq⟩:=rp.one;obtain⟨l,ws,rfl,hl,rl⟩:=rq.Qbm;exact⟨l,ws,rfl,.inr hl,λc hc=>q _ _ (c::G) (Qaj.Qbq p1.same hc rl hz src p1.own)⟩
   ·cases e
  ·cases e
end
end HS
namespace HS
open PySem PySem.Spec L2
mutual
noncomputable def D.py:D->PyData
 | .non=> .none
 | .bl b=> .bool b
 | .int i=> .int i
 | .str x=> .str x
 | .tup xs=> .tuple (pys xs)
 | .lst xs=> .list (pys xs)
 | .exc _=> .none
noncomputable def pys:List D->List PyData
 | []=>[]
 | d::ds=>d.py::pys ds
end
theorem QrH:∀ds:List D,pys ds=ds.map D.py
 | []=>rfl
 | d::ds=>by simp[pys,QrH ds]
noncomputable def D.sim:Nat->D->Bool
 | _,.non=>true
 | _,.bl _=>true
 | _,.int _=>true
 | _,.str x=>PyData.canLay0 (.str x)
 | 0,.tup xs=>xs.isEmpty
 | 0,.lst xs=>xs.isEmpty
 | n+1,.tup xs=>xs.all (D.sim n)
 | n+1,.lst xs=>xs.all (D.sim n)
 | _,.exc _=>false
theorem Qgj:∀{ds:List D},(∀d∈ds,d.py.canLay0=true)->PyData.canLayAll0 (pys ds)=true
 | [],_=>rfl
 | d::ds,h=>by
  simp only[pys,PyData.canLayAll0,Zg];exact⟨h d Zm,Qgj λe he=>h e (Zc _ he)⟩
theorem Qhc:∀{ds:List D},(∀d∈ds,d.py.depth<=n)->PyData.depthAll (pys ds)<=n
 | [],_=>Zai _
 | d::ds,h=>by
  simp only[pys,PyData.depthAll];exact Nat.max_le.mpr ⟨h d Zm,Qhc λe he=>h e (Zc _ he)⟩
theorem Qcm:∀(n:Nat) (d:D),d.sim n=true->d.py.canLay0=true/\d.py.depth<=n+1
 | n,.exc _,h=>by cases n<;>cases h
 | n,.non,_=>by simp[D.py,PyData.canLay0,PyData.depth]
 | n,.bl _,_=>by simp[D.py,PyData.canLay0,PyData.depth]
 | n,.int _,_=>by simp[D.py,PyData.canLay0,PyData.depth]
 | n,.str x,h=>by
  simp only[D.py,PyData.depth];refine⟨?_,Zai _⟩;cases n<;>exact h
 | 0,.tup xs,h=>by
  have:xs=[]:=by simpa[D.sim]using h
  subst this;simp[D.py,pys,PyData.canLay0,PyData.canLayAll0,PyData.depth,PyData.depthAll]
 | 0,.lst xs,h=>by
  have:xs=[]:=by simpa[D.sim]using h
  subst this;simp[D.py,pys,PyData.canLay0,PyData.canLayAll0,PyData.depth,PyData.depthAll]
 | n+1,.tup xs,h=>by
  simp only[D.sim,ZaK]at h;simp only[D.py,PyData.canLay0,PyData.depth];exact⟨Qgj λd hd=>(Qcm n d (h d hd)).1,ZbO (Qhc λd hd=>(Qcm n d (h d hd)).2) 1⟩
 | n+1,.lst xs,h=>by
  simp only[D.sim,ZaK]at h;simp only[D.py,PyData.canLay0,PyData.depth];exact⟨Qgj λd hd=>(Qcm n d (h d hd)).1,ZbO (Qhc λd hd=>(Qcm n d (h d hd)).2) 1⟩
noncomputable def deq(a b:D):Bool:=PyData.eqv a.py b.py
theorem Qqs(h:d.sim n=true):deq d d=true:=SeqAt.eqv_refl _ (Qcm n d h).1
mutual
noncomputable def D.noX:D->Bool
 | .exc _=>false
 | .tup xs=>QkR xs
 | .lst xs=>QkR xs
 | .non=>true
 | .bl _=>true
 | .int _=>true
 | .str _=>true
noncomputable def QkR:List D->Bool
 | []=>true
 | d::ds=>d.noX && QkR ds
end
theorem QmP:∀{ds:List D},(∀d∈ds,d.noX=true)->QkR ds=true
 | [],_=>rfl
 | d::ds,h=>by
  simp only[QkR,Zg];exact⟨h d Zm,QmP λe he=>h e (Zc _ he)⟩
theorem QcX:∀(n:Nat) (d:D),d.sim n=true->d.noX=true
 | n,.exc _,h=>by cases n<;>cases h
 | n,.non,_=>rfl
 | n,.bl _,_=>rfl
 | n,.int _,_=>rfl
 | n,.str x,_=>rfl
 | 0,.tup xs,h=>by
  have:xs=[]:=by simpa[D.sim]using h
  subst this;rfl
 | 0,.lst xs,h=>by
  have:xs=[]:=by simpa[D.sim]using h
  subst this;rfl
 | n+1,.tup xs,h=>by
  simp only[D.sim,ZaK]at h;simp only[D.noX];exact QmP λd hd=>QcX n d (h d hd)
 | n+1,.lst xs,h=>by
  simp only[D.sim,ZaK]at h;simp only[D.noX];exact QmP λd hd=>QcX n d (h d hd)
section
variable {X:Cx}{pins:List (Addr×Obj)}{σ:L2.St}{H:Hp}{s:Shared}
mutual
theorem Rp.reads(I:Inv X pins σ H s):∀{d:D}{v:V}{F:LAd}{u:Value},d.noX=true->Rp X.K H d v F->RelV v u->∃as,Reads s.heap u d.py as
 | .exc _,v,_,u,hx,h,r=>by cases hx
 | .non,v,_,u,hx,h,r=>by
  rw[h.QfS]at r;cases(show u=Value.none from r);exact⟨_,.none⟩
 | .bl b,v,_,u,hx,h,r=>by
  rw[h.QdL]at r;cases(show u=Value.bool b from r);exact⟨_,.bool b⟩
 | .int i,v,_,u,hx,h,r=>by
  rw[h.int_inv]at r;obtain⟨t,rfl⟩:=(show ∃t,u=Value.int i t from r);exact⟨_,.int i t⟩
 | .str i,v,_,u,hx,h,r=>by
  rw[h.str_inv]at r;obtain⟨t,rfl⟩:=(show ∃t,u=Value.str i t from r);exact⟨_,.str i t⟩
 | .tup ds,v,_,u,hx,h,r=>by
  obtain⟨a,vs,rfl,hq,rs⟩:=h.Qbm;cases(show u=Value.ref a from r);obtain⟨its,rv,⟨o,h1,h2,n,h3⟩,_⟩:=I.tuple hq;obtain⟨as,ra⟩:=Rps.reads I (by simpa only[D.noX]using hx) rs rv;exact⟨_,.tuple h1 h2 h3 (by simpa using ra)⟩
 | .lst ds,v,_,u,hx,h,r=>by
  simp only[Rp]at h;obtain⟨hz,a,vs,rfl,h⟩:=h;have key:∃G,(H a=some (.lst vs)∨Fix X.K H a vs)/\Rps X.K H ds vs G:=by
   rcases h with⟨G,_,q,rs⟩ | ⟨q,rs⟩
   ·exact⟨G,.inl q,rs⟩
   ·exact⟨_,.inr q,rs⟩
  obtain⟨G,hq,rs⟩:=key;cases(show u=Value.ref a from r);obtain⟨_,its,n,rv,_,e⟩:=I.Qpj hq;obtain⟨as,ra⟩:=Rps.reads I (by simpa only[D.noX]using hx) rs rv;exact⟨_,.list e rfl rfl (by simpa using ra)⟩
theorem Rps.reads(I:Inv X pins σ H s):∀{ds:List D}{vs:List V}{F:LAd}{us:List Value},QkR ds=true->Rps X.K H ds vs F->QL vs us->∃as,ReadsAll s.heap us (pys ds) as
 | [],vs,_,us,_,h,r=>by
  simp only[Rps]at h;rw[h.1]at r;cases r;exact⟨_,.nil⟩
 | d::ds,vs,_,us,hx,h,r=>by
  simp only[QkR,Zg]at hx;simp only[Rps]at h;obtain⟨v,ws,F1,F2,rfl,rfl,h1,h2⟩:=h;cases r with
  | cons r rr=>
   obtain⟨as,ra⟩:=Rp.reads I hx.1 h1 r;obtain⟨bs,rb⟩:=Rps.reads I hx.2 h2 rr;exact⟨_,.cons ra rb⟩
end
end
noncomputable def gEq(a b:D):Option D:=if a.sim 8 && b.sim 8 then some (.bl (deq a b))else none
noncomputable def gNe(a b:D):Option D:=if a.sim 8 && b.sim 8 then some (.bl (!deq a b))else none
noncomputable def gIn(neg:Bool)(a b:D):Option D:=match b with
 | .lst xs=>if a.sim 8 && b.sim 8 then some (.bl (if neg then !(xs.any λy=>deq y a)else xs.any λy=>deq y a))else none
 | .tup xs=>if a.sim 8 && b.sim 8 then some (.bl (if neg then !(xs.any λy=>deq y a)else xs.any λy=>deq y a))else none
 | _=>none
noncomputable def QzQ(K:Fgg):R2:=λx y H Q=>∃a b F G,Rp K H a x F/\Rp K H b y G/\a.sim 8=true/\b.sim 8=true/\Q (.bl (deq a b)) H
noncomputable def QBh(K:Fgg):R2:=λx y H Q=>∃a b F G,Rp K H a x F/\Rp K H b y G/\a.sim 8=true/\b.sim 8=true/\Q (.bl (!deq a b)) H
section
variable {X:Cx}
theorem Qz3(hu:X.A.units+64<cLine):OpR X (compareOp .Eq) (QzQ X.K):=by
 intro pins s σ H x y v u Q I rx ry h;obtain⟨a,b,F,G,ha,hb,sa,sb,q⟩:=h;obtain⟨as,ra⟩:=Rp.reads I (QcX 8 _ sa) ha rx;obtain⟨bs,rb⟩:=Rp.reads I (QcX 8 _ sb) hb ry;have h1:=Qcm 8 a sa;have h2:=Qcm 8 b sb;exact SeqAt.compareEq_reads ra rb h1.1 h2.1 (by have:=Nat.min_le_left a.py.depth b.py.depth;omega) ⟨.bl _,H,I,rfl,q⟩
theorem QAf(hu:X.A.units+64<cLine):OpR X (compareOp .NotEq) (QBh X.K):=by
 intro pins s σ H x y v u Q I rx ry h;obtain⟨a,b,F,G,ha,hb,sa,sb,q⟩:=h;obtain⟨as,ra⟩:=Rp.reads I (QcX 8 _ sa) ha rx;obtain⟨bs,rb⟩:=Rp.reads I (QcX 8 _ sb) hb ry;have h1:=Qcm 8 a sa;have h2:=Qcm 8 b sb;exact SeqAt.compareNe_reads ra rb h1.1 h2.1 (by have:=Nat.min_le_left a.py.depth b.py.depth;omega) ⟨.bl _,H,I,rfl,q⟩
theorem QB1:Qce K gEq (QzQ K):=λa b d e=>by
 unfold gEq at e;split at e
 ·rename_i h;simp only[Zg]at h;cases e;exact⟨rfl,λH x y F G Q ha hb q=>⟨a,b,F,G,ha,hb,h.1,h.2,q _ λ_=> .QcC⟩⟩
 ·cases e
theorem QBB:Qce K gNe (QBh K):=λa b d e=>by
 unfold gNe at e;split at e
 ·rename_i h;simp only[Zg]at h;cases e;exact⟨rfl,λH x y F G Q ha hb q=>⟨a,b,F,G,ha,hb,h.1,h.2,q _ λ_=> .QcC⟩⟩
 ·cases e
noncomputable def Qv4(K:Fgg)(neg:Bool):R2:=λx y H Q=>∃a b F G xs,Rp K H a x F/\Rp K H b y G/\a.sim 8=true/\b.sim 8=true/\(b= .lst xs∨b= .tup xs)/\Q (.bl (if neg then !(xs.any λy=>deq y a)else xs.any λy=>deq y a)) H
theorem QtU(xs:List D)(a:D):((pys xs).any λy=>PyData.eqv y a.py)=xs.any λy=>deq y a:=by
 rw[QrH,List.any_map];rfl
theorem QA7(hu:X.A.units+64<cLine):OpR X (compareOp .In) (Qv4 X.K false):=by
 intro pins s σ H x y v u Q I rx ry h;obtain⟨a,b,F,G,xs,ha,hb,sa,sb,hk,q⟩:=h;obtain⟨as,ra⟩:=Rp.reads I (QcX 8 _ sa) ha rx;obtain⟨bs,rb⟩:=Rp.reads I (QcX 8 _ sb) hb ry;have h1:=Qcm 8 a sa;have h2:=Qcm 8 b sb;have q':Q (.bl ((pys xs).any λy=>PyData.eqv y a.py)) H:=by rw[QtU];exact q
 rcases hk with rfl | rfl
 ·exact SeqAt.in_list_reads rb ra h2.1 h1.1 (by have:=ZbM (PyData.depthAll (pys xs)) a.py.depth;omega) ⟨.bl _,H,I,rfl,q'⟩
 ·exact SeqAt.in_tuple_reads rb ra h2.1 h1.1 (by have:=ZbM (PyData.depthAll (pys xs)) a.py.depth;omega) ⟨.bl _,H,I,rfl,q'⟩
theorem QuP(hu:X.A.units+64<cLine):OpR X (compareOp .NotIn) (Qv4 X.K true):=by
 intro pins s σ H x y v u Q I rx ry h;obtain⟨a,b,F,G,xs,ha,hb,sa,sb,hk,q⟩:=h;obtain⟨as,ra⟩:=Rp.reads I (QcX 8 _ sa) ha rx;obtain⟨bs,rb⟩:=Rp.reads I (QcX 8 _ sb) hb ry;have h1:=Qcm 8 a sa;have h2:=Qcm 8 b sb;have q':Q (.bl (!(pys xs).any λy=>PyData.eqv y a.py)) H:=by rw[QtU];exact q
 rcases hk with rfl | rfl
 ·exact SeqAt.notIn_list_reads rb ra h2.1 h1.1 (by have:=ZbM (PyData.depthAll (pys xs)) a.py.depth;omega) ⟨.bl _,H,I,rfl,q'⟩
 ·exact SeqAt.notIn_tuple_reads rb ra h2.1 h1.1 (by have:=ZbM (PyData.depthAll (pys xs)) a.py.depth;omega) ⟨.bl _,H,I,rfl,q'⟩
theorem Qxo:Qce K (gIn neg) (Qv4 K neg):=λa b d e=>by
 unfold gIn at e;split at e
 ·split at e
  ·rename_i h;simp only[Zg]at h;cases e;exact⟨rfl,λH x y F G Q ha hb q=>⟨a,_,F,G,_,ha,hb,h.1,h.2,.inl rfl,q _ λ_=> .QcC⟩⟩
  ·cases e
 ·split at e
  ·rename_i h;simp only[Zg]at h;cases e;exact⟨rfl,λH x y F G Q ha hb q=>⟨a,_,F,G,_,ha,hb,h.1,h.2,.inr rfl,q _ λ_=> .QcC⟩⟩
  ·cases e
 ·cases e
noncomputable def D.QsA:D->Bool
 | .non=>true
 | _=>false
theorem Qq3(h:Rp K H d v F):decide (v= .non)=d.QsA:=by
 cases d with
 | non=>rw[h.QfS];rfl
 | bl b=>rw[h.QdL];rfl
 | int b=>rw[h.int_inv];rfl
 | str b=>rw[h.str_inv];rfl
 | tup b=>obtain⟨a,vs,rfl,_⟩:=h.Qbm;rfl
 | lst b=>obtain⟨a,vs,G,rfl,_⟩:=h.lst_inv;rfl
 | exc b=>simp only[Rp]at h;obtain⟨⟨a,rfl,_⟩,_⟩:=h;rfl
noncomputable def D.tyN:D->String
 | .non=> "NoneType" | .bl _=> "bool" | .int _=> "int" | .str _=> "str" | .tup _=> "tuple" | .lst _=> "list" | .exc _=> "?"
noncomputable def D.isE:D->Bool
 | .exc _=>true
 | _=>false
noncomputable def D.isa(T:String)(d:D):Option Bool:=if(T == "int" || T == "bool" || T == "list" || T == "tuple" || T == "str") && !d.isE then some (d.tyN == T || (d.tyN == "bool" && T == "int"))else none
theorem QzJ(I:Inv X pins σ H s)(rp:Rp X.K H d v F)(rx:RelV v u)(e:d.isa T=some b)(h:∀tk,Q (.bool b) {s with toks:=tk}):
  wpAny (model X.prog X.w) A (call (.builtin "isinstance") [u,.type T]) Q E s:=by
 have kit:PySem.W.kitOne X.K (.type d.tyN) (.type T)=some b:=by
  unfold D.isa at e;split at e
  ·rename_i hT;cases e;simp only[Zg,Zct,beq_iff_eq]at hT;obtain⟨hT,hE⟩:=hT;rcases hT with(((rfl | rfl) | rfl) | rfl) | rfl<;>cases d<;>first | rfl | (cases hE)
  ·cases e
 cases d with
 | exc x=>unfold D.isa at e;split at e;(rename_i hT;exfalso;simp only[Zg]at hT;exact nomatch hT.2);cases e
 | non=>rw[rp.QfS]at rx;cases(show u=Value.none from rx);exact Zbl PySem.W.kitx_none I.kIn True.intro kit (λz=>nomatch z) h
 | bl y=>rw[rp.QdL]at rx;cases(show u=Value.bool y from rx);exact Zbl PySem.W.kitx_bool I.kIn True.intro kit (λz=>nomatch z) h
 | int i=>rw[rp.int_inv]at rx;obtain⟨t,q⟩:=(show ∃t,u=Value.int i t from rx);cases q;exact Zbl PySem.W.kitx_int I.kIn True.intro kit (λz=>nomatch z) h
 | str y=>rw[rp.str_inv]at rx;obtain⟨t,q⟩:=(show ∃t,u=Value.str y t from rx);cases q;exact Zbl PySem.W.kitx_str I.kIn True.intro kit (λz=>nomatch z) h
 | tup ds=>
  obtain⟨a,vs,rfl,hq,_⟩:=rp.Qbm;cases(show u=Value.ref a from rx);obtain⟨its,rv,⟨o,h1,h2,n,h3⟩,_⟩:=I.tuple hq;exact Zbl PySem.W.kitx_tuple I.kIn ⟨o,h1,h2⟩ kit (λz=>nomatch z) h
 | lst ds=>
  obtain⟨a,vs,G,rfl,hq,_⟩:=rp.lst_inv;cases(show u=Value.ref a from rx);obtain⟨_,its,n,rv,_,e1⟩:=I.Qpj hq;exact Zbl PySem.W.kitx_list I.kIn ⟨_,e1,rfl⟩ kit (λz=>nomatch z) h
noncomputable def QC4(K:Fgg):List V->Hp->VK->Prop:=λxs H Q=>∃x T d F b,xs=[x,.ty T]/\Rp K H d x F/\d.isa T=some b/\Q (.bl b) H
theorem Qwp:Qc7 X (.builtin "isinstance") (QC4 X.K):=by
 intro pins s σ H xs us Q I r h;obtain⟨x,T,d,F,b,rfl,rp,e,q⟩:=h;obtain⟨u,w,rfl,ru,rw'⟩:=vals2 r;cases(show w=Value.type T from rw');exact QzJ I rp ru e λtk=>⟨.bl b,H,I.tok _,rfl,q⟩
noncomputable def Qhf(T:String)(fa:DE):DE:=λρ=>(fa ρ).bind λr=>(r.d.isa T).map λb=>⟨.bl b,true,[]⟩
theorem Qzr(hg:Gl X "isinstance")(hm:X.mg "isinstance" =none)(ha:SE X a fa)(hT:PE X (.Name x p2) (tC (.ty T)))
  (he:starEach [a,.Name x p2] X.env=(false,eval a X.env)::starEach [.Name x p2] X.env):SE X (.Call (.Name "isinstance" p) [a,.Name x p2] [] pos) (Qhf T fa):=λH0 A0=>
 (Qk4 Qwp hg hm PyProof.Rows.boot_isinstance (Qag (ha H0 A0) (Qag hT Qb8) he) (by decide) (by decide) he (by rfl)).mono λσ H Q=>exK λρ hs F r' rel e q=>by
  refine Qj e λr e1 e=>?_;obtain⟨b,eb,e⟩:=Zk.mp e;subst e;exact⟨ρ,hs,F,r,rel,e1,λv H1 G p=>⟨v,T,r.d,G,b,rfl,p.rp,eb,q _ H1 [] (.flat p.same .QcC)⟩⟩
noncomputable def D.tru:D->Option Bool
 | .non=>some false
 | .bl b=>some b
 | .int i=>some (i != 0)
 | .lst xs=>some (!xs.isEmpty)
 | .tup xs=>some (!xs.isEmpty)
 | .str _=>none
 | .exc _=>none
theorem Qon(h:Rp K H d v F)(e:d.tru=some b):QvA K v H b:=by
 have emp:∀{ds:List D}{vs:List V}{G:LAd},Rps K H ds vs G->(!ds.isEmpty)= !vs.isEmpty:=λ{ds vs G} r=>by
  have:=r.length;cases ds<;>cases vs<;>simp_all
 cases d with
 | non=>rw[h.QfS];cases e;exact rfl
 | bl c=>rw[h.QdL];cases e;exact rfl
 | int i=>rw[h.int_inv];cases e;exact rfl
 | str i=>cases e
 | exc i=>cases e
 | tup ds=>cases e;obtain⟨a,vs,rfl,hq,r⟩:=h.Qbm;exact .inr (.inl ⟨vs,hq,emp r⟩)
 | lst ds=>cases e;obtain⟨a,vs,G,rfl,hq,r,_⟩:=h.lst_inv;exact .inl ⟨vs,Q6 hq,emp r⟩
noncomputable def QD(fa:DE):DT:=λρ=>(fa ρ).bind λr=>r.d.tru
noncomputable def Qiy(f g:DT):DT:=λρ=>(f ρ).bind λb=>if b=true then g ρ else some false
noncomputable def bOr(f g:DT):DT:=λρ=>(f ρ).bind λb=>if b=true then some true else g ρ
noncomputable def QbG(f:DT):DT:=λρ=>(f ρ).bind λb=>some (!b)
def SW(X:Cx)(e:Expr)(f:DT):Prop:=∀H0 A0,PW X e (tVT X.K H0 A0 f)
theorem _root_.L2.PW.mono(h:PW X e t)(m:∀σ H Q,t' σ H Q->t σ H Q):PW X e t':=λwh pins s σ H Q I q=>h wh pins s σ H Q I (m σ H Q q)
variable {a b e:Expr}{fa fb:DE}{ga gb gc:DT}{pos:Pos}{rest:List Expr}
theorem QBm(ha:SE X a fa)(he:∀whole,isTrue a X.env whole=(do let v ← whole;standAt a.pos;holding [v] (truthy v))):ST X a (QD fa):=λH0 A0=>
 (QwL (ha H0 A0) he).mono λσ H Q=>exK λρ hs F b rel e q=>by
  refine Qj e λr e1 e=>?_;exact⟨ρ,hs,F,r,rel,e1,λv H1 G p=>⟨b,Qon p.rp e,q H1 p.same⟩⟩
theorem QAP(ho:OpR X (compareOp op) r)(hg:Qce X.K g r)(hbl:∀a b d,g a b=some d->∃k,d= .bl k)(ha:SE X a fa)(hb:SE X b fb)(hm:behindInMarks op b=false):ST X (.Compare a [op] [b] pos) (QD (dOp g fa fb)):=λH0 A0=>
 (QxC ho (ha H0 A0) (hb H0 A0) hm).mono λσ H Q=>exK λρ hs F k rel e q=>by
  refine Qj e λr' e0 e=>?_;obtain⟨ra,rb,d,ea,eb,eg,rfl⟩:=Qm0 e0;obtain⟨k',rfl⟩:=hbl _ _ _ eg;cases e;refine two rel ea eb λx y H1 H2 G1 G2 p1 p2=>(hg _ _ _ eg).2 H2 x y G1 G2 _ (p1.rp.same p2.same) p2.rp λv hv=>?_;exact⟨_,(hv H2).QdL,q H2 (p1.same.trans p2.same)⟩
theorem QAM(ha:ST X a ga):ST X (.UnaryOp .Not a pos) (QbG ga):=λH0 A0=>
 (Qzv (ha H0 A0)).mono λσ H Q=>exK λρ hs F b rel e q=>by
  refine Qj e λc e1 e=>?_;cases e;exact⟨ρ,hs,F,c,rel,e1,λH1 s1=>q H1 s1⟩
theorem Qx6(ha:ST X a ga):SW X (.BoolOp .And [a] pos) ga:=λH0 A0=>QyD (ha H0 A0)
theorem Qzq(ha:ST X a ga):SW X (.BoolOp .Or [a] pos) ga:=λH0 A0=>QBn (ha H0 A0)
theorem QBe(ha:ST X a ga)(hb:SW X (.BoolOp .And (b::rest) pos) gb):SW X (.BoolOp .And (a::b::rest) pos) (Qiy ga gb):=λH0 A0=>
 (QA5 (ha H0 A0) (hb H0 A0)).mono λσ H Q=>exK λρ hs F c rel e q=>by
  refine Qj e λd e1 e=>?_;refine⟨ρ,hs,F,d,rel,e1,λH1 s1=>?_⟩;cases d with
  | true=>exact⟨ρ,hs,F,c,rel.ext s1,e,λH2 s2=>q H2 (s1.trans s2)⟩
  | false=>cases e;exact q H1 s1
theorem QBv(ha:ST X a ga)(hb:SW X (.BoolOp .Or (b::rest) pos) gb):SW X (.BoolOp .Or (a::b::rest) pos) (bOr ga gb):=λH0 A0=>
 (QCg (ha H0 A0) (hb H0 A0)).mono λσ H Q=>exK λρ hs F c rel e q=>by
  refine Qj e λd e1 e=>?_;refine⟨ρ,hs,F,d,rel,e1,λH1 s1=>?_⟩;cases d with
  | true=>cases e;exact q H1 s1
  | false=>exact⟨ρ,hs,F,c,rel.ext s1,e,λH2 s2=>q H2 (s1.trans s2)⟩
theorem SW.st(h:SW X e ga):ST X e ga:=λH0 A0=>(h H0 A0).pt
noncomputable def Qgz(fa fb:DE):DE:=λρ=>(fa ρ).bind λra=>(ra.d.tru).bind λb=>if b=true then fb ρ else some ra
noncomputable def dOr(fa fb:DE):DE:=λρ=>(fa ρ).bind λra=>(ra.d.tru).bind λb=>if b=true then some ra else fb ρ
noncomputable def Qw7(fa:DE):DE:=λρ=>(fa ρ).bind λra=>(ra.d.tru).bind λb=>some ⟨.bl (!b),true,[]⟩
noncomputable def dIf(g:DT)(fa fb:DE):DE:=λρ=>(g ρ).bind λb=>if b=true then fa ρ else fb ρ
theorem Quy{op}(h:SE X a fa):SE X (.BoolOp op [a] pos) fa:=λH0 A0=>QBo (h H0 A0)
theorem Qaj.ext(s:QU H H1)(p:Qaj K ρ F H1 H2 r v G)(rel:Rel K H0 A0 hs ρ F σ H):Qaj K ρ F H H2 r v G where
 same:=s.trans p.same
 rp:=p.rp
 src:=λa ha=>(p.src a ha).elim (λz=> .inl (s.free z)) .inr
 cnt:=λh=>⟨λa=>Zp ((p.cnt h).1 a) (ZbO (by
  cases q:H1 a with
  | none=>rw[QbP q,QbP (s.free q)];exact Zh _
  | some o=>rw[Qdt q];exact Zai _) _),(p.cnt h).2⟩
 own:=p.own
theorem QAR(ha:SE X a fa)(hb:SE X (.BoolOp .And (b::rest) pos) fb):SE X (.BoolOp .And (a::b::rest) pos) (Qgz fa fb):=λH0 A0=>by
 intro pins s σ H Q I ⟨ρ,hs,F,r,rel,e,q⟩;refine Qj e λra e1 e=>?_;refine Qj e λc e2 e=>?_;refine PyProof.Rows.BoolOp_and (thn (ha H0 A0 pins s σ H _ I ⟨ρ,hs,F,ra,rel,e1,λv H' G p=>(⟨G,p⟩:∃G,Qaj X.K ρ F H H' ra v G)⟩) λv s1 Z=>?_);obtain⟨x,H1,I1,r1,G,p⟩:=Z;refine thn (Qmd pins s1 σ H1 x v (λk H2=>k=c/\H2=H1) I1 r1 ⟨c,Qon p.rp e2,rfl,rfl⟩) λk s2 Z=>?_;obtain⟨H2,I2,e3,e4⟩:=Z;subst e3 e4;cases k with
 | true=>exact hb H0 A0 pins s2 σ _ Q I2 ⟨ρ,hs,F,r,rel.ext p.same,e,λw H3 G3 p3=>q w H3 G3 (p3.ext p.same rel)⟩
 | false=>cases e;exact⟨x,_,I2,r1,q x _ G p⟩
theorem QCq(ha:SE X a fa)(hb:SE X (.BoolOp .Or (b::rest) pos) fb):SE X (.BoolOp .Or (a::b::rest) pos) (dOr fa fb):=λH0 A0=>by
 intro pins s σ H Q I ⟨ρ,hs,F,r,rel,e,q⟩;refine Qj e λra e1 e=>?_;refine Qj e λc e2 e=>?_;refine PyProof.Rows.BoolOp_or (thn (ha H0 A0 pins s σ H _ I ⟨ρ,hs,F,ra,rel,e1,λv H' G p=>(⟨G,p⟩:∃G,Qaj X.K ρ F H H' ra v G)⟩) λv s1 Z=>?_);obtain⟨x,H1,I1,r1,G,p⟩:=Z;refine thn (Qmd pins s1 σ H1 x v (λk H2=>k=c/\H2=H1) I1 r1 ⟨c,Qon p.rp e2,rfl,rfl⟩) λk s2 Z=>?_;obtain⟨H2,I2,e3,e4⟩:=Z;subst e3 e4;cases k with
 | false=>exact hb H0 A0 pins s2 σ _ Q I2 ⟨ρ,hs,F,r,rel.ext p.same,e,λw H3 G3 p3=>q w H3 G3 (p3.ext p.same rel)⟩
 | true=>cases e;exact⟨x,_,I2,r1,q x _ G p⟩
theorem QAo(ha:SE X a fa):SE X (.UnaryOp .Not a pos) (Qw7 fa):=λH0 A0=>by
 intro pins s σ H Q I ⟨ρ,hs,F,r,rel,e,q⟩;refine Qj e λra e1 e=>?_;refine Qj e λc e2 e=>?_;cases e;refine PyProof.Rows.UnaryOp_ (thn (ha H0 A0 pins s σ H _ I ⟨ρ,hs,F,ra,rel,e1,λv H' G p=>(⟨G,p⟩:∃G,Qaj X.K ρ F H H' ra v G)⟩) λv s1 Z=>?_);obtain⟨x,H1,I1,r1,G,p⟩:=Z;refine PyProof.Rows.not_of (thn (Qmd pins s1 σ H1 x v (λk H2=>k=c/\H2=H1) I1 r1 ⟨c,Qon p.rp e2,rfl,rfl⟩) λk s2 Z=>?_);obtain⟨H2,I2,e3,e4⟩:=Z;subst e3 e4;exact⟨.bl (!k),_,I2,rfl,q _ _ [] (.flat p.same .QcC)⟩
theorem QCf(hc:ST X c gc)(ha:SE X a fa)(hb:SE X b fb):SE X (.IfExp c a b pos) (dIf gc fa fb):=λH0 A0=>
 (QvD (hc H0 A0) (ha H0 A0) (hb H0 A0)).mono λσ H Q=>exK λρ hs F r rel e q=>by
  refine Qj e λc e1 e=>?_;refine⟨ρ,hs,F,c,rel,e1,λH1 s1=>?_⟩;cases c with
  | true=>exact⟨ρ,hs,F,r,rel.ext s1,e,λv H2 G p=>q v H2 G (p.ext s1 rel)⟩
  | false=>exact⟨ρ,hs,F,r,rel.ext s1,e,λv H2 G p=>q v H2 G (p.ext s1 rel)⟩
noncomputable def Qnb(fa:DE):DE:=λρ=>(fa ρ).bind λra=>match ra.d with
 | .int i=>some ⟨.int (-i),true,[]⟩
 | _=>none
theorem QzT(ha:SE X a fa):SE X (.UnaryOp .USub a pos) (Qnb fa):=λH0 A0=>
 (QB9 QBp (ha H0 A0)).mono λσ H Q=>exK λρ hs F r rel e q=>by
  refine Qj e λra e1 e=>?_;refine⟨ρ,hs,F,ra,rel,e1,λv H1 G p=>?_⟩;have rp:=p.rp;cases hr:ra.d with
  | int i=>
   rw[hr]at e rp;cases e;exact⟨i,rp.int_inv,q _ H1 [] (.flat p.same .int_mk)⟩
  | _=>rw[hr]at e;cases e
end
end HS
namespace HS
open PySem PySem.Spec L2
section
def QcM(ρ ρ':En):Prop:=ρ'.length=ρ.length/\∀(i:Nat) d b,ρ'[i]? =some (some (d,b))->∃b',ρ[i]? =some (some (d,b'))/\(b=true->b'=true)
theorem QcM.refl:QcM ρ ρ:=⟨rfl,λi d b h=>⟨b,h,id⟩⟩
theorem QcM.trans(a:QcM ρ ρ')(b:QcM ρ' ρ''):QcM ρ ρ'':=⟨b.1.trans a.1,λi d c h=>by
 obtain⟨c',h1,h2⟩:=b.2 i d c h;obtain⟨c'',h3,h4⟩:=a.2 i d c' h1;exact⟨c'',h3,λz=>h4 (h2 z)⟩⟩
theorem Rel.weak(r:Rel K H0 A0 hs ρ F σ H)(w:QcM ρ ρ'):Rel K H0 A0 hs ρ' F σ H where
 len:=w.1.trans r.len
 val:=λi d b e=>let ⟨b',h,_⟩:=w.2 i d b e;r.val i d b' h
 own:=λi d e=>by
  obtain⟨b',h,hb⟩:=w.2 i d true e;have:b'=true:=hb rfl;subst this;obtain⟨h1,h2,h3,h4,h5⟩:=r.own i d h;exact⟨h1,h2,h3,λj d' b' hj e'=>let ⟨b'',h',_⟩:=w.2 j d' b' e';h4 j d' b'' hj h',h5⟩
 src:=λi d b e=>let ⟨b',h,_⟩:=w.2 i d b e;r.src i d b' h
 held:=r.held
 same:=r.same
noncomputable def kill:List Nat->En->En
 | [],ρ=>ρ
 | i::M,ρ=>kill M (ρ.set i none)
noncomputable def Qbr:List Nat->En->En
 | [],ρ=>ρ
 | i::M,ρ=>Qbr M (match ρ[i]? with
  | some (some (d,_))=>ρ.set i (some (d,false))
  | _=>ρ)
theorem Qd8(i:Nat):QcM ρ (ρ.set i none):=⟨by simp,λj d b h=>by
 by_cases hj:i=j
 ·subst hj;by_cases hl:i<ρ.length
  ·rw[Zs hl]at h;cases h
  ·rw[Zu (by simp;omega)]at h;cases h
 ·rw[Zd hj]at h;exact⟨b,h,id⟩⟩
theorem Qdc:∀(M:List Nat) (ρ:En),QcM ρ (kill M ρ)
 | [],ρ=> .refl
 | i::M,ρ=>(Qd8 i).trans (Qdc M _)
theorem QjK:∀(M:List Nat) (ρ:En) (i:Nat) (d:D) (b:Bool),i∈M->(kill M ρ)[i]? =some (some (d,b))->False
 | [],ρ,i,d,b,h,_=>by simp at h
 | j::M,ρ,i,d,b,h,e=>by
  rcases Zo.mp h with rfl | h
  ·obtain⟨b',e',_⟩:=(Qdc M (ρ.set i none)).2 i d b e;by_cases hl:i<ρ.length
   ·rw[Zs hl]at e';cases e'
   ·rw[Zu (by simp;omega)]at e';cases e'
  ·exact QjK M _ i d b h e
theorem QuZ(i:Nat):QcM ρ (match ρ[i]? with
  | some (some (d,_))=>ρ.set i (some (d,false))
  | _=>ρ):=by
 split
 ·rename_i d b e;refine⟨by simp,λj d' b' h=>?_⟩;by_cases hj:i=j
  ·subst hj;have hl:i<ρ.length:=(Zi.mp e).1;rw[Zs hl]at h;cases h;exact⟨b,e,λz=>by cases z⟩
  ·rw[Zd hj]at h;exact⟨b',h,id⟩
 ·exact .refl
theorem Qby:∀(M:List Nat) (ρ:En),QcM ρ (Qbr M ρ)
 | [],ρ=> .refl
 | i::M,ρ=>(QuZ i).trans (Qby M _)
theorem Qme:∀(M:List Nat) (ρ:En) (i:Nat) (d:D),i∈M->(Qbr M ρ)[i]? =some (some (d,true))->False
 | [],ρ,i,d,h,_=>by simp at h
 | j::M,ρ,i,d,h,e=>by
  rcases Zo.mp h with rfl | h
  ·obtain⟨b',e',hb⟩:=(Qby M _).2 i d true e;have:b'=true:=hb rfl;subst this;split at e'
   ·rename_i d' b e1;have hl:i<ρ.length:=(Zi.mp e1).1;rw[Zs hl]at e';cases e'
   ·rename_i h1;exact h1 d true e'
  ·exact Qme M _ i d h e
def Shr(H0:Hp)(A0:LAd)(ρ:En)(F:Nat->List Addr)(G:LAd):Prop:=
 ∀a∈G,(H0 a=none∨a∈A0)/\∀(i:Nat) d,ρ[i]? =some (some (d,true))->a∉F i
theorem Shr.of(r:Rel K H0 A0 hs ρ F σ H)(s:Src ρ F H M G):Shr H0 A0 (Qbr M ρ) F G:=λa ha=>by
 have w:=Qby M ρ;rcases s a ha with h | ⟨i,d,b,e,m,hm⟩
 ·refine⟨.inl (r.same.free h),λj d' e' hj=>?_⟩;obtain⟨b',e2,_⟩:=w.2 j d' true e';obtain⟨vs,q⟩:=r.mem e2 hj;rw[h]at q;cases q
 ·refine⟨r.src i d b e a m,λj d' e' hj=>?_⟩;obtain⟨b',e2,hb⟩:=w.2 j d' true e';have:b'=true:=hb rfl;subst this;by_cases hij:i=j
  ·subst hij;rw[e]at e2;cases e2;exact Qme M ρ i _ (hm rfl) e'
  ·exact(r.own j d' e2).2.2.2.1 i d b hij e a hj m
theorem Rel.Qp7(r:Rel K H0 A0 hs ρ F σ H)(rp:Rp K H d v G)(sh:Shr H0 A0 ρ F G):
  Rel K H0 A0 hs (ρ.set i (some (d,d.flat))) (λj=>if j=i then G else F j) (σ.set i (some v)) H where
 len:=by simp[r.len]
 val:=λj d' b e=>by
  by_cases hj:j=i
  ·subst hj;have hl:j<ρ.length:=by
    by_cases hl:j<ρ.length
    ·exact hl
    ·rw[Zu (by simp;omega)]at e;cases e
   rw[Zs hl]at e;cases e;exact⟨v,by rw[Zs (by rw[← r.len];exact hl)],by rw[if_pos rfl];exact rp⟩
  ·rw[Zd (Ne.symm hj)]at e;obtain⟨w,h1,h2⟩:=r.val j d' b e;exact⟨w,by rw[Zd (Ne.symm hj)];exact h1,by rw[if_neg hj];exact h2⟩
 own:=λj d' e=>by
  by_cases hj:j=i
  ·subst hj;have hl:j<ρ.length:=by
    by_cases hl:j<ρ.length
    ·exact hl
    ·rw[Zu (by simp;omega)]at e;cases e
   rw[Zs hl]at e;have e1:=Option.some.inj (Option.some.inj e);have ed:d=d':=congrArg Prod.fst e1;have ef:d.flat=true:=congrArg Prod.snd e1;subst ed;have:=rp.QbK ef;subst this;rw[if_pos rfl];exact⟨(Qdm d ef).symm,ZaA,λa ha=>by simp at ha,λ_ _ _ _ _ a ha=>by simp at ha,λ_ _ a ha=>by simp at ha⟩
  ·rw[Zd (Ne.symm hj)]at e;obtain⟨h1,h2,h3,h4,h5⟩:=r.own j d' e;rw[if_neg hj];refine⟨h1,h2,h3,λk d'' b hk ek a ha=>?_,h5⟩;by_cases hki:k=i
   ·subst hki;rw[if_pos rfl];exact λhG=>(sh a hG).2 j d' e ha
   ·rw[Zd (Ne.symm hki)]at ek;rw[if_neg hki];exact h4 k d'' b hk ek a ha
 src:=λj d' b e a ha=>by
  by_cases hj:j=i
  ·subst hj;rw[if_pos rfl]at ha;exact(sh a ha).1
  ·rw[Zd (Ne.symm hj)]at e;rw[if_neg hj]at ha;exact r.src j d' b e a ha
 held:=r.held
 same:=r.same
theorem QB0(r:Rel K H0 A0 hs ρ F σ H)(ow:QbI ρ M)(nd:M.Nodup)(a:Addr):((M.map F).flatten).count a<=1:=by
 induction M with
 | nil=>simp
 | cons i M ih=>
  rw[ZM,Zay,Zaz];obtain⟨h1,h2⟩:=ZaF.mp nd;have ih':=ih (λj hj=>ow j (Zc _ hj)) h2;obtain⟨d,e⟩:=ow i Zm;obtain⟨_,nd1,_,apart,_⟩:=r.own i d e;by_cases ha:a∈F i
  ·have c1:(F i).count a<=1:=Zau.mp nd1 a;have c2:((M.map F).flatten).count a=0:=ZW.mpr λhm=>by
    obtain⟨l,hl,hal⟩:=ZbL.mp hm;obtain⟨j,hj,rfl⟩:=ZN.mp hl;obtain⟨d',e'⟩:=ow j (Zc _ hj);exact apart j d' true (λz=>h1 (z▸hj)) e' a ha hal
   omega
  ·have:(F i).count a=0:=ZW.mpr ha;omega
theorem Qaj.fresh(r:Rel K H0 A0 hs ρ F σ H)(p:Qaj K ρ F H H' rr v G)(hf:rr.fr=true)(nd:rr.M.Nodup):
  G.Nodup/\∀a∈G,H0 a=none/\(H a=none∨∃i d,i∈rr.M/\ρ[i]? =some (some (d,true))/\a∈F i):=by
 obtain⟨c,_⟩:=p.cnt hf;refine⟨Zau.mpr λa=>?_,λa ha=>?_⟩
 ·have h1:=c a;have h2:=QB0 r p.own nd a;cases q:H a with
  | none=>rw[QbP q,r.fl0 p.own q]at h1;omega
  | some o=>rw[Qdt q]at h1;omega
 ·cases q:H a with
  | none=>exact⟨r.same.free q,.inl rfl⟩
  | some o=>
   have h1:=c a;rw[Qdt q]at h1;have h2:0<G.count a:=Zap.mpr ha;obtain⟨l,hl,hal⟩:=ZbL.mp (Zap.mp (by omega:0<((rr.M.map F).flatten).count a));obtain⟨i,hi,rfl⟩:=ZN.mp hl;obtain⟨d,e⟩:=p.own i hi;exact⟨(r.own i d e).2.2.1 a hal,.inr ⟨i,d,hi,e,hal⟩⟩
theorem Rel.QCO(r:Rel K H0 A0 hs ρ F σ H)(p:Qaj K ρ F H H' rr v G)(hf:rr.fr=true)(nd:rr.M.Nodup):
  Rel K H0 A0 hs ((kill rr.M ρ).set i (some (rr.d,true))) (λj=>if j=i then G else F j) (σ.set i (some v)) H':=by
 have r1:=(r.ext p.same).weak (Qdc rr.M ρ);obtain⟨gn,gs⟩:=p.fresh r hf nd;have gl:=(p.cnt hf).2;have apart:∀(j:Nat) d b,(kill rr.M ρ)[j]? =some (some (d,b))->∀a∈G,a∉F j:=λj d b e a ha hj=>by
  obtain⟨b',e',_⟩:=(Qdc rr.M ρ).2 j d b e;rcases(gs a ha).2 with q | ⟨k,d',hk,ek,hak⟩
  ·obtain⟨vs,w⟩:=r.mem e' hj;rw[q]at w;cases w
  ·have hjk:j≠k:=λz=>by subst z;exact QjK rr.M ρ j d b hk e
   exact(r.own k d' ek).2.2.2.1 j d b' hjk e' a hak hj
 have apartH:∀t∈hs,∀a∈G,a∉t.2.2:=λt ht a ha hj=>by
  rcases(gs a ha).2 with q | ⟨k,d',hk,ek,hak⟩
  ·obtain⟨vs,w⟩:=(r.held t ht).1.mem a hj;rw[q]at w;cases w
  ·exact(r.own k d' ek).2.2.2.2 t ht a hak hj
 have lt:∀{j:Nat}{x:Option (D×Bool)}{y:D×Bool},((kill rr.M ρ).set j x)[j]? =some (some y)->j<(kill rr.M ρ).length:=λ{j x y} e=>by
  by_cases hl:j<(kill rr.M ρ).length
  ·exact hl
  ·rw[Zu (by simp;omega)]at e;cases e
 refine⟨by simp[r1.len],λj d b e=>?_,λj d e=>?_,λj d b e a ha=>?_,r1.held,r1.same⟩
 ·by_cases hj:j=i
  ·subst hj;have hl:=lt e;rw[Zs hl]at e;cases e;exact⟨v,by rw[Zs (by rw[← r1.len];exact hl)],by rw[if_pos rfl];exact p.rp⟩
  ·rw[Zd (Ne.symm hj)]at e;obtain⟨w,h1,h2⟩:=r1.val j d b e;exact⟨w,by rw[Zd (Ne.symm hj)];exact h1,by rw[if_neg hj];exact h2⟩
 ·by_cases hj:j=i
  ·subst hj;have hl:=lt e;rw[Zs hl]at e;cases e;rw[if_pos rfl];refine⟨gl,gn,λa ha=>(gs a ha).1,λk d' b hk ek a ha=>?_,apartH⟩;rw[Zd (Ne.symm hk)]at ek;rw[if_neg hk];exact apart k d' b ek a ha
  ·rw[Zd (Ne.symm hj)]at e;obtain⟨h1,h2,h3,h4,h5⟩:=r1.own j d e;rw[if_neg hj];refine⟨h1,h2,h3,λk d' b hk ek a ha=>?_,h5⟩;by_cases hki:k=i
   ·subst hki;rw[if_pos rfl];exact λhG=>apart j d true e a hG ha
   ·rw[Zd (Ne.symm hki)]at ek;rw[if_neg hki];exact h4 k d' b hk ek a ha
 ·by_cases hj:j=i
  ·subst hj;rw[if_pos rfl]at ha;exact .inl (gs a ha).1
  ·rw[Zd (Ne.symm hj)]at e;rw[if_neg hj]at ha;exact r1.src j d b e a ha
noncomputable def asg(i:Nat)(r:R)(ρ:En):En:=
 if r.norm.fr && decide r.norm.M.Nodup then(kill r.norm.M ρ).set i (some (r.d,true))else(Qbr r.norm.M ρ).set i (some (r.d,r.d.flat))
theorem Rel.asg(r:Rel K H0 A0 hs ρ F σ H)(p:Qaj K ρ F H H' rr v G):∃F',Rel K H0 A0 hs (asg i rr ρ) F' (σ.set i (some v)) H':=by
 have p':=p.norm;unfold HS.asg;split
 ·rename_i h;simp only[Zg,decide_eq_true_eq]at h;have:=r.QCO (i:=i) p' h.1 h.2;rw[rr.QcN]at this;exact⟨_,this⟩
 ·have r1:=(r.ext p'.same).weak (Qby rr.norm.M ρ);have rp:=p'.rp;rw[rr.QcN]at rp;have sh:=Shr.of r p'.src;exact⟨_,r1.Qp7 rp sh⟩
theorem Rel.hold(r:Rel K H0 A0 hs ρ F σ H)(h:∀t∈ts,Rp K H t.2.1 t.1 t.2.2/\Shr H0 A0 ρ F t.2.2):Rel K H0 A0 (ts++hs) ρ F σ H where
 len:=r.len
 val:=r.val
 own:=λi d e=>by
  obtain⟨h1,h2,h3,h4,h5⟩:=r.own i d e;refine⟨h1,h2,h3,h4,λt ht a ha hm=>?_⟩;rcases ZH.mp ht with z | z
  ·exact((h t z).2 a hm).2 i d e ha
  ·exact h5 t z a ha hm
 src:=r.src
 held:=λt ht=>by
  rcases ZH.mp ht with z | z
  ·exact⟨(h t z).1,λa ha=>((h t z).2 a ha).1⟩
  ·exact r.held t z
 same:=r.same
theorem Rel.Qt3(r:Rel K H0 A0 (ts++hs) ρ F σ H):Rel K H0 A0 hs ρ F σ H where
 len:=r.len
 val:=r.val
 own:=λi d e=>let ⟨h1,h2,h3,h4,h5⟩:=r.own i d e;⟨h1,h2,h3,h4,λt ht=>h5 t (Zf _ ht)⟩
 src:=r.src
 held:=λt ht=>r.held t (Zf _ ht)
 same:=r.same
end
structure Ret (K:Fgg) (H0:Hp) (A0:LAd) (d:D) (fr:Bool) (v:V) (H':Hp) (G:LAd):Prop where
 same:QU H0 H'
 rp:Rp K H' d v G
 src:∀a∈G,H0 a=none∨a∈A0
 cnt:fr=true->G.Nodup/\G.length=d.nl/\∀a∈G,H0 a=none
noncomputable abbrev Den:=List D->Option (D×Bool)
noncomputable def spV(K:Fgg)(n:Nat)(den:Den):Sp:=λvs H Q _=>∃ds F d fr,Rps K H ds vs F/\ds.length=n/\den ds=some (d,fr)/\∀v H' G,Ret K H F d fr v H' G->Q v H'
theorem QyS{K:Fgg}{n:Nat}{den:Den}{ps:List Str}(hn:ps.length=n):∀vs H Q E,spV K n den vs H Q E->vs.length=ps.length:=λvs H Q E ⟨ds,F,d,fr,r,hl,_⟩=>by rw[hn,← hl,r.length]
noncomputable def Qm(n:Nat)(den:Den)(dfl:List D)(fs:DA):DE:=λρ=>(fs ρ).bind λr=>if r.ds.length+dfl.length=n then(den (r.ds++dfl)).map λq=>if q.2=true then⟨q.1,true,[]⟩else R.norm ⟨q.1,false,r.M⟩else none
section
variable {X:Cx}{e:Expr}{es:List Expr}{fs:DA}{pos p:Pos}{x:Str}{n k:Nat}{f:Addr}{fd:FuncData}{ps:List Str}{den:Den}{dfl:List D}{dvs:List V}{ds:List Value}
theorem Qnr{σ:L2.St}{H H0:Hp}{A0:LAd}{Q:VK}(hdf:∀H,Rps X.K H dfl dvs []):tV X.K H0 A0 (Qm n den dfl fs) σ H Q->Qr7 (spV X.K n den) dvs E0 (tVA X.K H0 A0 fs) σ H Q:=exK λρ hs F r rel e q=>by
 refine Qj e λra e1 e=>?_;split at e
 ·rename_i hl;obtain⟨⟨d,fr⟩,e2,e⟩:=Zk.mp e;refine⟨ρ,hs,F,ra,rel,e1,λvs H1 G p1=>⟨ra.ds++dfl,G++[],d,fr,p1.rp.append (hdf H1),by rw[Zx];exact hl,e2,λv H2 G2 rt=>?_⟩⟩;subst e;have src:Src ρ F H ra.M G2:=λa ha=>by
   rcases rt.src a ha with z | z
   ·exact .inl (p1.same.free z)
   ·rw[Zbj]at z;exact p1.src a z
  split at q
  ·rename_i hf;have hf:fr=true:=hf;obtain⟨nd,hn,fresh⟩:=rt.cnt hf;have hH:∀a∈G2,H a=none:=λa ha=>p1.same.free (fresh a ha);refine q v H2 G2 ⟨p1.same.trans rt.same,rt.rp,λa ha=> .inl (hH a ha),λ_=>⟨λa=>?_,hn⟩,QbI.nil⟩;by_cases ha:a∈G2
   ·rw[QbP (hH a ha)];have:=Zau.mp nd a;omega
   ·rw[ZW.mpr ha];exact Zai _
  ·refine q v H2 G2 (Qaj.norm ⟨p1.same.trans rt.same,rt.rp,src,λz=>(by cases z),p1.own⟩)
 ·cases e
theorem QxQ(Fk:QdK X.prog X.w X.K X.mg X.base CX0 k f fd ps (spV X.K n den))(hr:QbS k X.A)(hg:Gl X x)(hm:X.mg x=some (.ref f))(hk:PySem.W.keepIn X.K (.ref f)=true)(hb:Binds X.K fd ps ds)(hd:QL dvs ds)(hdf:∀H,Rps X.K H dfl dvs [])
  (ha:SA X (e::es) fs) (hdb:(x == ("__debug__" :Str))=false) (he:starEach (e::es) X.env=(false,eval e X.env)::starEach es X.env) (hpl:(backTo pos (starEach es X.env)).any (·.1)=false):
  SE X (.Call (.Name x p) (e::es) [] pos) (Qm n den dfl fs):=λH0 A0=>
 (Qzk Fk hr hg hm hk hb hd Qxl (ha H0 A0) hdb he hpl).mono λσ H Q h=>Qnr hdf h
theorem Qu2(Fk:QdK X.prog X.w X.K X.mg X.base CX0 k f fd ps (spV X.K n den))(hr:QbS k X.A)(hg:Gl X x)(hm:X.mg x=some (.ref f))(hk:PySem.W.keepIn X.K (.ref f)=true)(hb:Binds X.K fd ps ds)(hd:QL dvs ds)(hdf:∀H,Rps X.K H dfl dvs [])
  (hdb:(x == ("__debug__" :Str))=false):SE X (.Call (.Name x p) [] [] pos) (Qm n den dfl Qe):=λH0 A0=>
 (Qwj Fk hr hg hm hk hb hd Qxl hdb).mono λσ H Q h=>by
  have h':=Qnr hdf h;obtain⟨ρ,hs,F,r,rel,e,q⟩:=h';cases e;exact q [] H [] ⟨QU.refl _,by simp[Rps],Src.nil,λ_=>⟨Cnt.nil,rfl⟩,QbI.nil⟩
end
structure IR where
 items:List D
 M:List Nat
noncomputable abbrev DI:=En->Option IR
def Qm7(K:Fgg)(H:Hp)(ts:List (V×D×List Addr)):Prop:=∀t∈ts,Rp K H t.2.1 t.1 t.2.2
structure Walk (K:Fgg) (J:It) (ts:List (V×D×List Addr)) (ds:List D):Prop where
 stop:∀H,Qm7 K H ts->J.stop ds.length H
 go:∀i H,i<ds.length->Qm7 K H ts->J.go i H
 yld:∀(i:Nat) d H x H',ds[i]? =some d->Qm7 K H ts->J.yld i H x H'->QU H H'/\∃G,Rp K H' d x G/\∀a∈G,∃t∈ts,a∈t.2.2
noncomputable def tI(K:Fgg)(H0:Hp)(A0:LAd)(f:DI):TI:=λσ H Rr=>∃ρ hs F ir,Rel K H0 A0 hs ρ F σ H/\f ρ=some ir∧
 ∀J H1 ts,QU H H1->Walk K J ts ir.items->(∀t∈ts,Rp K H1 t.2.1 t.1 t.2.2/\Src ρ F H ir.M t.2.2)->QbI ρ ir.M->ir.items.length<=sizeLine->Rr J H1
def SI(X:Cx)(tg e:Expr)(f:DI):Prop:=∀H0 A0,PI X tg e (tI X.K H0 A0 f)
theorem _root_.L2.PI.mono(h:PI X tg e t)(m:∀σ H Q,t' σ H Q->t σ H Q):PI X tg e t':=λpins s σ H Q I q=>h pins s σ H Q I (m σ H Q q)
section
variable {X:Cx}{tg a b:Expr}{fa fb:DE}{fs:DA}{pos p:Pos}
theorem Rps.nth{K:Fgg}{H:Hp}{ds:List D}{vs:List V}{F:LAd}{i:Nat}{d:D}(h:Rps K H ds vs F)(e:ds[i]? =some d):∃v G,vs[i]? =some v/\Rp K H d v G/\∀a∈G,a∈F:=by
 obtain⟨v,F1,G,F2,h1,h2,h3,_⟩:=h.get e;exact⟨v,G,h1,h3,λa ha=>by rw[h2];exact Zf _ (Zl _ ha)⟩
noncomputable def QCU(K:Fgg)(tl:TE):TI:=λσ H Rr=>tl σ H λx H1=>(∃a,x= .ref a/\(∃xs,SqL K H1 a xs)/\Rr (Itl K a) H1)∨(∃a,x= .ref a/\(∃xs,SqT K H1 a xs)/\Rr (Itt K a) H1)
theorem QAc(hl:PE X l tl):PI X tg l (QCU X.K tl):=by
 intro pins s σ H Rr I h;refine thn (hl pins s σ H _ I h) λv s1=>exJ λx H1 I1 r1 q1=>?_;rcases q1 with⟨a,e,⟨xs,hq⟩,q⟩ | ⟨a,e,⟨xs,hq⟩,q⟩
 ·subst e;cases r1;obtain⟨its,rv,pl,hz⟩:=I1.list hq;refine wpAny_pyIter_list pl.isList ⟨s1.heap.objs.size,[s1.heap.objs.size],_,_,H1,rfl,I1.kept (t':=s1.toks) λb o e=>Zb _ e,Qtq a _,⟨_,ZE _ rfl,rfl,rfl⟩,λb hb=>?_,q⟩;have e:b=s1.heap.objs.size:=by simpa using hb
  subst e;exact I1.Qlk (Zh _) (I1.hok.fresh (Zh _))
 ·subst e;cases r1;obtain⟨its,rv,pl,hz⟩:=I1.tuple hq;refine wpAny_pyIter_tuple (show s1.heap.IsTuple a its.toArray from pl) ⟨s1.heap.objs.size,[s1.heap.objs.size],_,_,H1,rfl,I1.kept (t':=s1.toks) λb o e=>Zb _ e,Qsv a _,⟨_,ZE _ rfl,rfl,rfl⟩,λb hb=>?_,q⟩;have e:b=s1.heap.objs.size:=by simpa using hb
  subst e;exact I1.Qlk (Zh _) (I1.hok.fresh (Zh _))
noncomputable def Q2(fa:DE):DI:=λρ=>(fa ρ).bind λr=>match r.d with
 | .lst xs=>some ⟨xs,r.M⟩
 | .tup xs=>if xs.length<=sizeLine then some ⟨xs,r.M⟩else none
 | _=>none
theorem Qs2{K:Fgg}{c:Addr}{ds:List D}{G:LAd}:Walk K (Itl K c) [(.ref c,.lst ds,G)] ds where
 stop:=λH h=>by
  obtain⟨l,vs,L,e,hl,rl,zl,el⟩:=(h _ (ZD.mpr rfl)).lst_inv;cases e;exact⟨vs,Q6 hl,by rw[rl.length];exact Zh _⟩
 go:=λi H hi h=>by
  obtain⟨l,vs,L,e,hl,rl,zl,el⟩:=(h _ (ZD.mpr rfl)).lst_inv;cases e;have:i<vs.length:=by rw[← rl.length];exact hi
  exact⟨vs,vs[i],Q6 hl,by simp[this]⟩
 yld:=λi d H x H' e h y=>by
  obtain⟨l,vs,L,e1,hl,rl,zl,el⟩:=(h _ (ZD.mpr rfl)).lst_inv;cases e1;obtain⟨rfl,y⟩:=y;obtain⟨v,G',h1,h2,h3⟩:=rl.nth e;have:=y vs (Q6 hl);rw[h1]at this;cases this;refine⟨QU.refl _,G',h2,λz hz=>⟨_,ZD.mpr rfl,?_⟩⟩;have:=h3 z hz;rcases el with rfl | rfl
  ·exact Zc _ this
  ·exact this
theorem Qwq{K:Fgg}{c:Addr}{ds:List D}{G:LAd}:Walk K (Itt K c) [(.ref c,.tup ds,G)] ds where
 stop:=λH h=>by
  obtain⟨l,vs,e,hl,rl⟩:=(h _ (ZD.mpr rfl)).Qbm;cases e;exact⟨vs,hl,by rw[rl.length];exact Zh _⟩
 go:=λi H hi h=>by
  obtain⟨l,vs,e,hl,rl⟩:=(h _ (ZD.mpr rfl)).Qbm;cases e;have:i<vs.length:=by rw[← rl.length];exact hi
  exact⟨vs,vs[i],hl,by simp[this]⟩
 yld:=λi d H x H' e h y=>by
  obtain⟨l,vs,e1,hl,rl⟩:=(h _ (ZD.mpr rfl)).Qbm;cases e1;obtain⟨rfl,y⟩:=y;obtain⟨v,G',h1,h2,h3⟩:=rl.nth e;have:=y vs hl;rw[h1]at this;cases this;exact⟨QU.refl _,G',h2,λz hz=>⟨_,ZD.mpr rfl,h3 z hz⟩⟩
theorem QzW(ha:SE X a fa):SI X tg a (Q2 fa):=λH0 A0=>(QAc (ha H0 A0)).mono λσ H Rr=>exK λρ hs F ir rel e q=>by
 refine Qj e λr e1 e=>?_;refine⟨ρ,hs,F,r,rel,e1,λv H1 G p=>?_⟩;have rp:=p.rp;cases hr:r.d with
 | lst xs=>
  rw[hr]at e rp;cases e;obtain⟨c,vs,L,rfl,hl,rl,zl,el⟩:=rp.lst_inv;refine .inl ⟨c,rfl,⟨vs,Q6 hl⟩,q _ H1 [(.ref c,.lst xs,G)] p.same Qs2 (λt ht=>?_) p.own zl⟩;rw[ZD.mp ht];exact⟨rp,p.src⟩
 | tup xs=>
  rw[hr]at e rp;dsimp only at e;split at e
  ·rename_i hz;cases e;obtain⟨c,vs,rfl,hl,rl⟩:=rp.Qbm;refine .inr ⟨c,rfl,⟨vs,hl⟩,q _ H1 [(.ref c,.tup xs,G)] p.same Qwq (λt ht=>?_) p.own hz⟩;rw[ZD.mp ht];exact⟨rp,p.src⟩
  ·cases e
 | _=>rw[hr]at e;cases e
noncomputable def Qi5(lo:Int)(n:Nat):List D:=(List.range n).map λ(k:Nat)=> .int (lo+(k:Int))
theorem Qh4:(Qi5 lo n).length=n:=by simp[Qi5]
theorem Qwl(h:(Qi5 lo n)[i]? =some d):i<n/\d= .int (lo+i):=by
 unfold Qi5 at h;rw[Zr]at h;cases q:(List.range n)[i]? with
 | none=>rw[q]at h;cases h
 | some k=>
  rw[q]at h;obtain⟨h1,h2⟩:=Zi.mp q;simp at h1 h2;subst h2;exact⟨h1,(Option.some.inj h).symm⟩
theorem QlB:Walk K (Itr lo n) [] (Qi5 lo n) where
 stop:=λH _=>by rw[Qh4];exact Zh _
 go:=λi H hi _=>by rw[Qh4]at hi;exact hi
 yld:=λi d H x H' e _ y=>by
  obtain⟨h1,rfl⟩:=Qwl e;obtain⟨rfl,rfl⟩:=y;exact⟨QU.refl _,[],.int_mk,λz hz=>by simp at hz⟩
noncomputable def QaY(fa:DE):DI:=λρ=>(fa ρ).bind λr=>match r.d with
 | .int j=>if j<=16777216/\ -(2^62)<=j then some ⟨Qi5 0 j.toNat,[]⟩else none
 | _=>none
noncomputable def QeU(fa fb:DE):DI:=λρ=>(fa ρ).bind λr=>(fb ρ).bind λr'=>match r.d,r'.d with
 | .int i,.int j=>if j-i<=16777216/\ -(2^62)<=i/\i<2^62/\ -(2^62)<=j/\j<2^62 then some ⟨Qi5 i (j-i).toNat,[]⟩else none
 | _,_=>none
theorem QhO:(sizeLine:Nat)=16777216:=sizeLine_eq
theorem Qtu(hg:Gl X "range")(hm:X.mg "range" =none)(ha:SE X a fa)(hs:starEach [a] X.env=[(false,eval a X.env)]):SI X tg (.Call (.Name "range" p) [a] [] pos) (QaY fa):=λH0 A0=>
 (Quk hg hm (Qag (ha H0 A0) Qb8 hs) hs).mono λσ H Rr=>exK λρ hs F ir rel e q=>by
  refine Qj e λr e1 e=>?_;refine⟨ρ,hs,F,r,rel,e1,λv H1 G pp=>?_⟩;have rp:=pp.rp;cases hr:r.d with
  | int j=>
   rw[hr]at e rp;dsimp only at e;split at e
   ·rename_i hz;cases e;rw[rp.int_inv];refine⟨j,rfl,hz.2,⋯,q _ H1 [] pp.same QlB (λt ht=>by simp at ht) QbI.nil ?_⟩;rw[Qh4,QhO];omega
   ·cases e
  | _=>rw[hr]at e;cases e
theorem Qt0(hg:Gl X "range")(hm:X.mg "range" =none)(ha:SE X a fa)(hb:SE X b fb)(hs:starEach [a,b] X.env=[(false,eval a X.env),(false,eval b X.env)])(hs2:starEach [b] X.env=[(false,eval b X.env)]):
  SI X tg (.Call (.Name "range" p) [a,b] [] pos) (QeU fa fb):=λH0 A0=>
 (QuE hg hm (Qag (ha H0 A0) (Qag (hb H0 A0) Qb8 hs2) (by rw[hs,hs2])) hs hs2).mono λσ H Rr=>exK λρ hs F ir rel e q=>by
  refine Qj e λr e1 e=>?_;refine Qj e λr' e2 e=>?_;refine⟨ρ,hs,F,r,rel,e1,λv H1 G pp=>⟨ρ,hs,F,r',rel.ext pp.same,e2,λv' H2 G' pp'=>?_⟩⟩;have rp:=pp.rp.same pp'.same;have rp':=pp'.rp;cases hr:r.d with
  | int i=>
   cases hr':r'.d with
   | int j=>
    rw[hr,hr']at e;rw[hr]at rp;rw[hr']at rp';dsimp only at e;split at e
    ·rename_i hz;cases e;rw[rp.int_inv,rp'.int_inv];refine⟨i,j,rfl,hz.2,q _ H2 [] (pp.same.trans pp'.same) QlB (λt ht=>by simp at ht) QbI.nil ?_⟩;rw[Qh4,QhO];omega
    ·cases e
   | _=>rw[hr,hr']at e;cases e
  | _=>rw[hr]at e;cases e
noncomputable def QdA(ds:List D):List D:=ds.zipIdx.map λq=> .tup [.int q.2,q.1]
theorem Qjx:(QdA ds).length=ds.length:=by simp[QdA]
theorem QsZ{ds:List D}{i:Nat}{d:D}(h:(QdA ds)[i]? =some d):∃e,ds[i]? =some e/\d= .tup [.int i,e]:=by
 unfold QdA at h;rw[Zr,List.getElem?_zipIdx]at h;cases q:ds[i]? with
 | none=>rw[q]at h;cases h
 | some e=>rw[q]at h;simp at h;exact⟨e,rfl,h.symm⟩
theorem QuL{K:Fgg}{c:Addr}{ds:List D}{G:LAd}:Walk K (Ite K c) [(.ref c,.lst ds,G)] (QdA ds) where
 stop:=λH h=>by
  obtain⟨l,vs,L,e,hl,rl,zl,el⟩:=(h _ (ZD.mpr rfl)).lst_inv;cases e;exact⟨vs,Q6 hl,by rw[Qjx,rl.length];exact Zh _⟩
 go:=λi H hi h=>by
  obtain⟨l,vs,L,e,hl,rl,zl,el⟩:=(h _ (ZD.mpr rfl)).lst_inv;cases e;rw[Qjx]at hi;have:i<vs.length:=by rw[← rl.length];exact hi
  exact⟨vs,vs[i],Q6 hl,by simp[this]⟩
 yld:=λi d H x H' e h y=>by
  obtain⟨l,vs,L,e1,hl,rl,zl,el⟩:=(h _ (ZD.mpr rfl)).lst_inv;cases e1;obtain⟨d',e',rfl⟩:=QsZ e;obtain⟨pp,u,rfl,hp,rfl,y⟩:=y;obtain⟨v,G',h1,h2,h3⟩:=rl.nth e';have:=y vs (Q6 hl);rw[h1]at this;cases this;have s:=Qbt (o:= .tup [.int i,u]) hp;refine⟨s,G',Rp.Qgr Qau ?_,λz hz=>⟨_,ZD.mpr rfl,?_⟩⟩
  ·simp only[Rps];exact⟨.int i,[u],[],G',rfl,rfl,.int_mk,u,[],G',[],rfl,by simp,h2.same s,rfl,rfl⟩
  ·have:=h3 z hz;rcases el with rfl | rfl
   ·exact Zc _ this
   ·exact this
noncomputable def Qct(fa:DE):DI:=λρ=>(fa ρ).bind λr=>match r.d with
 | .lst xs=>some ⟨QdA xs,r.M⟩
 | _=>none
theorem Qxv(hg:Gl X "enumerate")(hm:X.mg "enumerate" =none)(ha:SE X a fa)(hs:starEach [a] X.env=[(false,eval a X.env)]):SI X (.Tuple es tk tpos) (.Call (.Name "enumerate" p) [a] [] pos) (Qct fa):=λH0 A0=>
 (QxJ hg hm (Qag (ha H0 A0) Qb8 hs) hs).mono λσ H Rr=>exK λρ hs F ir rel e q=>by
  refine Qj e λr e1 e=>?_;refine⟨ρ,hs,F,r,rel,e1,λv H1 G pp=>?_⟩;have rp:=pp.rp;cases hr:r.d with
  | lst xs=>
   rw[hr]at e rp;cases e;obtain⟨c,vs,L,rfl,hl,rl,zl,el⟩:=rp.lst_inv;refine⟨c,rfl,⟨vs,Q6 hl⟩,q _ H1 [(.ref c,.lst xs,G)] pp.same QuL (λt ht=>?_) pp.own (by rw[Qjx];exact zl)⟩;rw[ZD.mp ht];exact⟨rp,pp.src⟩
  | _=>rw[hr]at e;cases e
noncomputable def QiZ(xs ys:List D):List D:=(xs.zip ys).map λq=> .tup [q.1,q.2]
theorem QkY:(QiZ xs ys).length=min xs.length ys.length:=by simp[QiZ]
theorem QwN{xs ys:List D}{i:Nat}{d:D}(h:(QiZ xs ys)[i]? =some d):∃e f,xs[i]? =some e/\ys[i]? =some f/\d= .tup [e,f]:=by
 unfold QiZ at h;rw[Zr]at h;cases q:(xs.zip ys)[i]? with
 | none=>rw[q]at h;cases h
 | some e=>
  rw[q]at h;obtain⟨h1,h2⟩:=ZaG.mp q;exact⟨e.1,e.2,h1,h2,(Option.some.inj h).symm⟩
theorem Qwm{K:Fgg}{c c':Addr}{xs ys:List D}{G G':LAd}:Walk K (Itz K c c') [(.ref c,.lst xs,G),(.ref c',.lst ys,G')] (QiZ xs ys) where
 stop:=λH h=>by
  obtain⟨l,vs,L,e,hl,rl,zl,el⟩:=(h _ (Zm)).lst_inv;obtain⟨l',vs',L',e',hl',rl',zl',el'⟩:=(h _ (Zc _ Zm)).lst_inv;cases e;cases e';refine⟨vs,vs',Q6 hl,Q6 hl',?_⟩;rw[QkY,← rl.length,← rl'.length];omega
 go:=λi H hi h=>by
  obtain⟨l,vs,L,e,hl,rl,zl,el⟩:=(h _ (Zm)).lst_inv;obtain⟨l',vs',L',e',hl',rl',zl',el'⟩:=(h _ (Zc _ Zm)).lst_inv;cases e;cases e';rw[QkY]at hi;have h1:i<vs.length:=by rw[← rl.length];omega
  have h2:i<vs'.length:=by rw[← rl'.length];omega
  exact⟨vs,vs',vs[i],vs'[i],Q6 hl,Q6 hl',by simp[h1],by simp[h2]⟩
 yld:=λi d H x H' e h y=>by
  obtain⟨l,vs,L,e1,hl,rl,zl,el⟩:=(h _ (Zm)).lst_inv;obtain⟨l',vs',L',e1',hl',rl',zl',el'⟩:=(h _ (Zc _ Zm)).lst_inv;cases e1;cases e1';obtain⟨d1,d2,ea,eb,rfl⟩:=QwN e;obtain⟨pp,u,u',rfl,hp,rfl,y,y'⟩:=y;obtain⟨v,G1,h1,h2,h3⟩:=rl.nth ea;obtain⟨v',G2,h1',h2',h3'⟩:=rl'.nth eb;have:=y vs (Q6 hl);rw[h1]at this;cases this;have:=y' vs' (Q6 hl');rw[h1']at this;cases this;have s:=Qbt (o:= .tup [u,u']) hp;refine⟨s,G1++G2,Rp.Qgr Qau ?_,λz hz=>?_⟩
  ·simp only[Rps];exact⟨u,[u'],G1,G2,rfl,rfl,h2.same s,u',[],G2,[],rfl,by simp,h2'.same s,rfl,rfl⟩
  ·rcases ZH.mp hz with hz | hz
   ·refine⟨_,Zm,?_⟩;have:=h3 z hz;rcases el with rfl | rfl
    ·exact Zc _ this
    ·exact this
   ·refine⟨_,Zc _ Zm,?_⟩;have:=h3' z hz;rcases el' with rfl | rfl
    ·exact Zc _ this
    ·exact this
noncomputable def Qak(fa fb:DE):DI:=λρ=>(fa ρ).bind λr=>(fb ρ).bind λr'=>match r.d,r'.d with
 | .lst xs,.lst ys=>some ⟨QiZ xs ys,r.M++r'.M⟩
 | _,_=>none
theorem QzN(hg:Gl X "zip")(hm:X.mg "zip" =none)(ha:SE X a fa)(hb:SE X b fb)(hs:starEach [a,b] X.env=[(false,eval a X.env),(false,eval b X.env)])(hs2:starEach [b] X.env=[(false,eval b X.env)]):
  SI X (.Tuple es tk tpos) (.Call (.Name "zip" p) [a,b] [] pos) (Qak fa fb):=λH0 A0=>
 (QAw hg hm (Qag (ha H0 A0) (Qag (hb H0 A0) Qb8 hs2) (by rw[hs,hs2])) hs hs2).mono λσ H Rr=>exK λρ hs F ir rel e q=>by
  refine Qj e λr e1 e=>?_;refine Qj e λr' e2 e=>?_;refine⟨ρ,hs,F,r,rel,e1,λv H1 G pp=>⟨ρ,hs,F,r',rel.ext pp.same,e2,λv' H2 G' pp'=>?_⟩⟩;have rp:=pp.rp.same pp'.same;have rp':=pp'.rp;cases hr:r.d with
  | lst xs=>
   cases hr':r'.d with
   | lst ys=>
    rw[hr,hr']at e;rw[hr]at rp;rw[hr']at rp';cases e;obtain⟨c,vs,L,rfl,hl,rl,zl,el⟩:=rp.lst_inv;obtain⟨c',vs',L',rfl,hl',rl',zl',el'⟩:=rp'.lst_inv;refine⟨c,c',rfl,⟨vs,Q6 hl⟩,⟨vs',Q6 hl'⟩,q _ H2 [(.ref c,.lst xs,G),(.ref c',.lst ys,G')] (pp.same.trans pp'.same) Qwm (λt ht=>?_) (pp.own.append pp'.own) (by rw[QkY];omega)⟩;have sa:=pp.src.append pp'.src pp.same;rcases Zo.mp ht with rfl | ht
    ·exact⟨rp,λz hz=>sa z (Zl _ hz)⟩
    ·rw[ZD.mp ht];exact⟨rp',λz hz=>sa z (Zf _ hz)⟩
   | _=>rw[hr,hr']at e;cases e
  | _=>rw[hr]at e;cases e
end
end HS
namespace HS
open PySem L2
noncomputable def Qg2(xs ys zs:List D):List D:=(xs.zip (ys.zip zs)).map λq=> .tup [q.1,q.2.1,q.2.2]
theorem Qts{xs ys zs:List D}{i:Nat}{d:D}(h:(Qg2 xs ys zs)[i]? =some d):∃e f g,xs[i]? =some e/\ys[i]? =some f/\zs[i]? =some g/\d= .tup [e,f,g]:=by
 unfold Qg2 at h;rw[Zr]at h;cases q:(xs.zip (ys.zip zs))[i]? with
 | none=>rw[q]at h;cases h
 | some e=>
  rw[q]at h;obtain⟨h1,h2⟩:=ZaG.mp q;obtain⟨h3,h4⟩:=ZaG.mp h2;exact⟨e.1,e.2.1,e.2.2,h1,h3,h4,(Option.some.inj h).symm⟩
theorem Qjj(h1:xs.length=ys.length)(h2:ys.length=zs.length):(Qg2 xs ys zs).length=xs.length:=by
 simp[Qg2];omega
theorem Quo{K:Fgg}{c c' c'':Addr}{xs ys zs:List D}{G G' G'':LAd}(n1:xs.length=ys.length)(n2:ys.length=zs.length):Walk K (QvT K c c' c'') [(.ref c,.lst xs,G),(.ref c',.lst ys,G'),(.ref c'',.lst zs,G'')] (Qg2 xs ys zs):=by
 have inv:∀H,Qm7 K H [(.ref c,.lst xs,G),(.ref c',.lst ys,G'),(.ref c'',.lst zs,G'')]->(∃vs L,SqL K H c vs/\Rps K H xs vs L/\∀a∈L,a∈G)/\(∃vs L,SqL K H c' vs/\Rps K H ys vs L/\∀a∈L,a∈G')/\∃vs L,SqL K H c'' vs/\Rps K H zs vs L/\∀a∈L,a∈G'':=λH h=>by
  have one:∀{p:Addr}{ds:List D}{G:LAd},Rp K H (.lst ds) (.ref p) G->∃vs L,SqL K H p vs/\Rps K H ds vs L/\∀a∈L,a∈G:=λ{p ds G} r=>by
   obtain⟨l,vs,L,e,hl,rl,zl,el⟩:=r.lst_inv;cases e;refine⟨vs,L,Q6 hl,rl,λa ha=>?_⟩;rcases el with rfl | rfl
   ·exact Zc _ ha
   ·exact ha
  exact⟨one (h _ Zm),one (h _ (Zc _ Zm)),one (h _ (Zc _ (Zc _ Zm)))⟩
 refine⟨λH h=>?_,λi H hi h=>?_,λi d H x H' e h y=>?_⟩
 ·obtain⟨⟨vs,L,hl,rl,el⟩,_⟩:=inv H h;exact⟨vs,hl,by rw[Qjj n1 n2,← rl.length];omega⟩
 ·obtain⟨⟨vs,L,hl,rl,el⟩,⟨vs',L',hl',rl',el'⟩,⟨vs'',L'',hl'',rl'',el''⟩⟩:=inv H h;rw[Qjj n1 n2]at hi;have h1:i<vs.length:=by rw[← rl.length];omega
  have h2:i<vs'.length:=by rw[← rl'.length];omega
  have h3:i<vs''.length:=by rw[← rl''.length];omega
  exact⟨vs,vs',vs'',vs[i],vs'[i],vs''[i],hl,hl',hl'',by simp[h1],by simp[h2],by simp[h3]⟩
 ·obtain⟨⟨vs,L,hl,rl,el⟩,⟨vs',L',hl',rl',el'⟩,⟨vs'',L'',hl'',rl'',el''⟩⟩:=inv H h;obtain⟨d1,d2,d3,ea,eb,ec,rfl⟩:=Qts e;obtain⟨pp,u,u',u'',rfl,hp,rfl,y,y',y''⟩:=y;obtain⟨v,G1,h1,h2,h3⟩:=rl.nth ea;obtain⟨v',G2,h1',h2',h3'⟩:=rl'.nth eb;obtain⟨v'',G3,h1'',h2'',h3''⟩:=rl''.nth ec;have q:=y vs hl;rw[h1]at q;cases q;have q:=y' vs' hl';rw[h1']at q;cases q;have q:=y'' vs'' hl'';rw[h1'']at q;cases q;have s:=Qbt (o:= .tup [u,u',u'']) hp;refine⟨s,G1++(G2++G3),Rp.Qgr Qau ?_,λz hz=>?_⟩
  ·simp only[Rps];exact⟨u,[u',u''],G1,G2++G3,rfl,rfl,h2.same s,u',[u''],G2,G3,rfl,rfl,h2'.same s,u'',[],G3,[],rfl,by simp,h2''.same s,rfl,rfl⟩
  ·rcases ZH.mp hz with hz | hz
   ·exact⟨_,Zm,el _ (h3 z hz)⟩
   ·rcases ZH.mp hz with hz | hz
    ·exact⟨_,Zc _ Zm,el' _ (h3' z hz)⟩
    ·exact⟨_,Zc _ (Zc _ Zm),el'' _ (h3'' z hz)⟩
noncomputable def QhI(fa fb fc:DE):DI:=λρ=>(fa ρ).bind λr=>(fb ρ).bind λr'=>(fc ρ).bind λr''=>match r.d,r'.d,r''.d with
 | .lst xs,.lst ys,.lst zs=>if xs.length=ys.length/\ys.length=zs.length then some ⟨Qg2 xs ys zs,r.M++(r'.M++r''.M)⟩else none
 | _,_,_=>none
section
theorem Qx3(hg:Gl X "zip")(hm:X.mg "zip" =none)(ha:SE X a fa)(hb:SE X b fb)(hc:SE X c fc)(hs:starEach [a,b,c] X.env=(false,eval a X.env)::starEach [b,c] X.env)(hs2:starEach [b,c] X.env=(false,eval b X.env)::starEach [c] X.env)(hs3:starEach [c] X.env=[(false,eval c X.env)]):
  SI X (.Tuple es tk tpos) (.Call (.Name "zip" p) [a,b,c] [] pos) (QhI fa fb fc):=λH0 A0=>
 (QxD hg hm (Qag (ha H0 A0) (Qag (hb H0 A0) (Qag (hc H0 A0) Qb8 hs3) hs2) hs) hs (by rw[hs2,hs3];rfl)).mono λσ H Rr=>exK λρ hs F ir rel e q=>by
  refine Qj e λr e1 e=>?_;refine Qj e λr' e2 e=>?_;refine Qj e λr'' e3 e=>?_;refine⟨ρ,hs,F,r,rel,e1,λv H1 G pp=>⟨ρ,hs,F,r',rel.ext pp.same,e2,λv' H2 G' pp'=>⟨ρ,hs,F,r'',(rel.ext pp.same).ext pp'.same,e3,λv'' H3 G'' pp''=>?_⟩⟩⟩;have rp:=(pp.rp.same pp'.same).same pp''.same;have rp':=pp'.rp.same pp''.same;have rp'':=pp''.rp;cases hr:r.d with
  | lst xs=>
   cases hr':r'.d with
   | lst ys=>
    cases hr'':r''.d with
    | lst zs=>
     rw[hr,hr',hr'']at e;rw[hr]at rp;rw[hr']at rp';rw[hr'']at rp'';dsimp only at e;split at e
     ·rename_i hn;cases e;obtain⟨c1,vs,L,rfl,hl,rl,zl,el⟩:=rp.lst_inv;obtain⟨c2,vs',L',rfl,hl',rl',zl',el'⟩:=rp'.lst_inv;obtain⟨c3,vs'',L'',rfl,hl'',rl'',zl'',el''⟩:=rp''.lst_inv;refine⟨c1,c2,c3,rfl,⟨vs,Q6 hl⟩,⟨vs',Q6 hl'⟩,⟨vs'',Q6 hl''⟩,q _ H3 [(.ref c1,.lst xs,G),(.ref c2,.lst ys,G'),(.ref c3,.lst zs,G'')] ((pp.same.trans pp'.same).trans pp''.same) (Quo hn.1 hn.2) (λt ht=>?_) (pp.own.append (pp'.own.append pp''.own)) (by rw[Qjj hn.1 hn.2];exact zl)⟩;have sb:=pp'.src.append pp''.src pp'.same;have sa:=pp.src.append sb pp.same;rcases Zo.mp ht with rfl | ht
      ·exact⟨rp,λz hz=>sa z (Zl _ hz)⟩
      ·rcases Zo.mp ht with rfl | ht
       ·exact⟨rp',λz hz=>sa z (Zf _ (Zl _ hz))⟩
       ·rw[ZD.mp ht];exact⟨rp'',λz hz=>sa z (Zf _ (Zf _ hz))⟩
     ·cases e
    | _=>rw[hr,hr',hr'']at e;cases e
   | _=>rw[hr,hr']at e;cases e
  | _=>rw[hr]at e;cases e
end
end HS
namespace HS
open PySem PySem.Spec L2
inductive Tg where
 | nm (i:Nat)
 | tp (is:List Nat)
noncomputable def Tg.slots:Tg->List Nat
 | .nm i=>[i]
 | .tp is=>is
noncomputable def Qef:List Nat->List D->En->En
 | i::is,d::ds,ρ=>Qef is ds (ρ.set i (some (d,d.flat)))
 | _,_,ρ=>ρ
noncomputable def Qch:Tg->D->En->Option En
 | .nm i,d,ρ=>some (ρ.set i (some (d,d.flat)))
 | .tp is,.tup xs,ρ=>if xs.length=is.length then some (Qef is xs ρ)else none
 | .tp is,.lst xs,ρ=>if xs.length=is.length then some (Qef is xs ρ)else none
 | .tp _,_,_=>none
noncomputable def tG(K:Fgg)(H0:Hp)(A0:LAd)(t:Tg):TG:=λv σ H Q=>∃ρ hs F d G ρ',Rel K H0 A0 hs ρ F σ H/\Rp K H d v G/\Shr H0 A0 ρ F G/\Qch t d ρ=some ρ'∧
 ∀σ' F',Rel K H0 A0 hs ρ' F' σ' H->(∀j,j∉t.slots->σ'[j]? =σ[j]?)->(∀j a,a∈F' j->a∈F j∨a∈G)->Q σ' H
def SG(X:Cx)(tg:Expr)(t:Tg):Prop:=∀H0 A0,PG X tg (tG X.K H0 A0 t)
theorem _root_.L2.PG.mono{X:Cx}{tg:Expr}{t t':TG}(h:PG X tg t)(m:∀v σ H Q,t' v σ H Q->t v σ H Q):PG X tg t':=λpins s σ H v u Q I r q=>h pins s σ H v u Q I r (m v σ H Q q)
noncomputable def Qmc:List Nat->TGs
 | []=>QAW
 | i::is=>Qw9 (QgV i) (Qmc is)
theorem Shr.set{H0:Hp}{A0:LAd}{ρ:En}{F:Nat->List Addr}{G G1:LAd}{i:Nat}{d:D}(h:Shr H0 A0 ρ F G)(hf:d.flat=true->G1=[]):Shr H0 A0 (ρ.set i (some (d,d.flat))) (λj=>if j=i then G1 else F j) G:=λa ha=>by
 refine⟨(h a ha).1,λj d' e=>?_⟩;by_cases hj:j=i
 ·subst hj;show ¬a∈(if j=j then G1 else F j);rw[if_pos rfl];have hl:j<ρ.length:=by
   by_cases hl:j<ρ.length
   ·exact hl
   ·rw[Zu (by simp;omega)]at e;cases e
  rw[Zs hl]at e;have e1:=Option.some.inj (Option.some.inj e);rw[hf (congrArg Prod.snd e1)];simp
 ·rw[Zd (Ne.symm hj)]at e;show ¬a∈(if j=i then G1 else F j);rw[if_neg hj];exact(h a ha).2 j d' e
theorem Qk3{K:Fgg}{H0:Hp}{A0:LAd}{hs:List (V×D×List Addr)}:∀(is:List Nat) (ds:List D) (vs:List V) (ρ:En) (F:Nat->List Addr) (σ:L2.St) (H:Hp) (G:LAd) (Q:L2.St->Hp->Prop),
  Rel K H0 A0 hs ρ F σ H->Rps K H ds vs G->Shr H0 A0 ρ F G->ds.length=is.length→
  (∀σ' F',Rel K H0 A0 hs (Qef is ds ρ) F' σ' H->(∀j,j∉is->σ'[j]? =σ[j]?)->(∀j a,a∈F' j->a∈F j∨a∈G)->Q σ' H)->Qmc is vs σ H Q
 | [],ds,vs,ρ,F,σ,H,G,Q,rel,rp,sh,hl,q=>by
  have:ds=[]:=by simpa using hl
  subst this;simp only[Rps]at rp;exact⟨rp.1,q σ F rel (λ_ _=>rfl) λ_ _ h=> .inl h⟩
 | i::is,[],vs,ρ,F,σ,H,G,Q,rel,rp,sh,hl,q=>by simp at hl
 | i::is,d::ds,vs,ρ,F,σ,H,G,Q,rel,rp,sh,hl,q=>by
  simp only[Rps]at rp;obtain⟨v,ws,G1,G2,rfl,rfl,r1,r2⟩:=rp;refine⟨v,ws,rfl,?_⟩;have sh1:Shr H0 A0 ρ F G1:=λa ha=>sh a (Zl _ ha);have sh2:Shr H0 A0 ρ F G2:=λa ha=>sh a (Zf _ ha);refine Qk3 is ds ws _ _ _ H G2 Q (rel.Qp7 r1 sh1) r2 (sh2.set r1.QbK) (by simpa using hl) λσ' F' rel' k m=>q σ' F' rel' (λj hj=>?_) λj a ha=>?_
  ·have h1:j≠i:=λz=>hj (by rw[z];exact Zm);rw[k j λz=>hj (Zc _ z),Zd (Ne.symm h1)]
  ·rcases m j a ha with z | z
   ·by_cases hj:j=i
    ·rw[if_pos hj]at z;exact .inr (Zl _ z)
    ·rw[if_neg hj]at z;exact .inl z
   ·exact .inr (Zf _ z)
section
variable {X:Cx}{tg:Expr}{pos:Pos}
theorem QxN{i:Nat}{x:Str}(h:PG X (.Name x pos) (QgV i)):SG X (.Name x pos) (.nm i):=λH0 A0=>h.mono λv σ H Q Z=>by
 obtain⟨ρ,hs,F,d,G,ρ',rel,rp,sh,e,q⟩:=Z;cases e;refine q _ _ (rel.Qp7 rp sh) (λj hj=>?_) λj a ha=>?_
 ·have:j≠i:=λz=>hj (by simp[Tg.slots,z]);rw[Zd (Ne.symm this)]
 ·by_cases hj:j=i
  ·rw[if_pos hj]at ha;exact .inr ha
  ·rw[if_neg hj]at ha;exact .inl ha
theorem QxY{es:List Expr}{k:Nat}{t:TGs}{n:Nat}(hc:X.calm=true)(h:PGs X es t)
  (hn:(assignEach es X.env).length=n) (hst:(assignEach es X.env).findIdx? (·.1)=none):PG X (.Tuple es k pos) (λv σ H Q=>∃a xs,v= .ref a/\SqL X.K H a xs/\xs.length=n/\t xs σ H Q):=by
 intro pins s σ H v u Q I r hw;obtain⟨a,xs,e1,hq,hl,hw⟩:=hw;subst e1;cases r;obtain⟨its,rv,ht,hz⟩:=I.list hq;rw[PyProof.Rows.assign_Tuple];refine wpAny_bind (wpAny_standAt ?_);unfold unpack;rw[hn,hst,show n=its.toArray.size by simp[← hl,rv.length]];refine wpAny_bind (wpAny_holding (PySem.W.kun_itemsOf (I.ok.hd hc) ht.isList λh' hx=>?_));have I1:Inv X pins σ H {s with heap:=h'}:=I.kept (t':=s.toks) λb o e=>hx b o (Zaa (Zy e)) e;exact h pins _ σ H xs _ Q I1 (by simpa using rv) hw
theorem QBl{es:List Expr}{k:Nat}{is:List Nat}(hc:X.calm=true)(h:PGs X es (Qmc is))(hn:(assignEach es X.env).length=is.length)(hst:(assignEach es X.env).findIdx? (·.1)=none):SG X (.Tuple es k pos) (.tp is):=λH0 A0=>
 λpins s σ H v u Q I r Z=>by
  obtain⟨ρ,hs,F,d,G,ρ',rel,rp,sh,e,q⟩:=Z;cases d with
  | tup xs=>
   simp only[Qch]at e;split at e
   ·rename_i hl;cases e;obtain⟨a,vs,rfl,hq,rs⟩:=rp.Qbm;exact Qzx hc h hn hst pins s σ H _ u Q I r ⟨a,vs,rfl,hq,by rw[← rs.length];exact hl,Qk3 is xs vs ρ F σ H G Q rel rs sh hl q⟩
   ·cases e
  | lst xs=>
   simp only[Qch]at e;split at e
   ·rename_i hl;cases e;obtain⟨a,vs,L,rfl,hq,rs,_,eG⟩:=rp.lst_inv;have sub:∀b∈L,b∈G:=λb hb=>by
     rcases eG with rfl | rfl
     ·exact Zc _ hb
     ·exact hb
    exact QxY hc h hn hst pins s σ H _ u Q I r ⟨a,vs,rfl,Q6 hq,by rw[← rs.length];exact hl,Qk3 is xs vs ρ F σ H L Q rel rs (λb hb=>sh b (sub b hb)) hl λσ' F' rel' k m=>q σ' F' rel' k λj b hb=>(m j b hb).imp id (sub b)⟩
   ·cases e
  | _=>simp only[Qch]at e;cases e
end
noncomputable def QfP(cap:List (Option Nat))(ρ:En):En:=cap.map λo=>o.bind λi=>match ρ[i]? with
 | some (some (d,_))=>some (d,d.flat)
 | _=>none
noncomputable def Qsf(cap:List (Option Nat))(ρ:En):List Nat:=cap.filterMap λo=>o.bind λi=>match ρ[i]? with
 | some (some (d,b))=>if b && !d.flat then some i else none
 | _=>none
noncomputable def QgT(t:Tg)(ft:DT)(fe:DE)(ρc:En)(acc:List D×Bool)(d:D):Option (List D×Bool):=
 (Qch t d ρc).bind λρ1=>(ft ρ1).bind λc=>if c=true then(fe ρ1).map λr=>(acc.1++[r.d],acc.2 && r.norm.fr)else some acc
noncomputable def QG(fi:DI)(t:Tg)(cap:List (Option Nat))(ft:DT)(fe:DE):DE:=λρ=>(fi ρ).bind λir=>
 (ir.items.foldlM (QgT t ft fe (QfP cap ρ)) ([],true)).map λq=>if q.2=true then⟨.lst q.1,true,[]⟩else⟨.lst q.1,false,ir.M++Qsf cap ρ⟩
def Qdx(ρ:En):Prop:=∀(j:Nat) d,ρ[j]? =some (some (d,true))->d.flat=true
theorem Qdx.set{ρ:En}(h:Qdx ρ)(i:Nat)(d:D):Qdx (ρ.set i (some (d,d.flat))):=λj d' e=>by
 by_cases hj:j=i
 ·subst hj;have hl:j<ρ.length:=by
   by_cases hl:j<ρ.length
   ·exact hl
   ·rw[Zu (by simp;omega)]at e;cases e
  rw[Zs hl]at e;have e1:=Option.some.inj (Option.some.inj e);have h1:d=d':=congrArg Prod.fst e1;have h2:d.flat=true:=congrArg Prod.snd e1;rw[← h1];exact h2
 ·rw[Zd (Ne.symm hj)]at e;exact h j d' e
theorem Qdx.Qef:∀(is:List Nat) (ds:List D) {ρ:En},Qdx ρ->Qdx (Qef is ds ρ)
 | [],_,_,h=>h
 | _::_,[],_,h=>h
 | i::is,d::ds,_,h=>Qdx.Qef is ds (h.set i d)
theorem Qdx.bind{t:Tg}{d:D}{ρ ρ':En}(h:Qdx ρ)(e:Qch t d ρ=some ρ'):Qdx ρ':=by
 cases t with
 | nm i=>cases e;exact h.set i d
 | tp is=>
  cases d with
  | tup xs=>
   simp only[Qch]at e;split at e
   ·cases e;exact h.Qef is xs
   ·cases e
  | lst xs=>
   simp only[Qch]at e;split at e
   ·cases e;exact h.Qef is xs
   ·cases e
  | _=>simp only[Qch]at e;cases e
theorem Qls(cap:List (Option Nat))(ρ:En):Qdx (QfP cap ρ):=λj d e=>by
 unfold QfP at e;rw[Zr]at e;cases q:cap[j]? with
 | none=>rw[q]at e;cases e
 | some o=>
  rw[q]at e;cases o with
  | none=>cases e
  | some i=>
   simp only[ZX,Za,Option.some.injEq]at e;split at e
   ·have e1:=Option.some.inj e;have h1:=congrArg Prod.fst e1;have h2:=congrArg Prod.snd e1;dsimp only at h1 h2;rw[← h1];exact h2
   ·cases e
theorem QnY{cap:List (Option Nat)}{ρ:En}{j:Nat}{d:D}{b:Bool}(e:(QfP cap ρ)[j]? =some (some (d,b))):∃i b',cap[j]? =some (some i)/\ρ[i]? =some (some (d,b')):=by
 unfold QfP at e;rw[Zr]at e;cases q:cap[j]? with
 | none=>rw[q]at e;cases e
 | some o=>
  rw[q]at e;cases o with
  | none=>cases e
  | some i=>
   simp only[ZX,Za,Option.some.injEq]at e;split at e
   ·rename_i d' b' hi;have e1:=Option.some.inj e;have h1:d'=d:=congrArg Prod.fst e1;subst h1;exact⟨i,b',rfl,hi⟩
   ·cases e
def Qp8(X:Cx)(ifs:List Expr)(f:DT):Prop:=∀H0 A0,PTs X ifs (tVT X.K H0 A0 f)
noncomputable def QO:DT:=λ_=>some true
theorem QwB{X:Cx}:Qp8 X [] QO:=λH0 A0 pins s σ H Q I=>exK λρ hs F b rel e q=>by
 cases e;exact Qzg pins s σ H Q I (q H (QU.refl _))
theorem Qww{X:Cx}{c:Expr}{f:DT}(h:ST X c f):Qp8 X [c] f:=λH0 A0=>Qy4 (h H0 A0)
structure Qom (X:Cx) (N':List Str) (scope:Scope) (cap:List (Option Nat)) (tgs:List Nat):Prop where
 len:cap.length=N'.length
 get:∀(j i:Nat),cap[j]? =some (some i)->∃x,N'[j]? =some x/\scope.names.lookup x=some .free/\X.N[i]? =some x/\(X.env.kindOf x=some .cell∨X.env.kindOf x=some .free)
 apart:∀(j i:Nat),cap[j]? =some (some i)->j∉tgs
theorem join_some{α:Type}{o:Option (Option α)}{v:α}(h:o.join=some v):o=some (some v):=by
 cases o with
 | none=>cases h
 | some p=>cases p with
  | none=>cases h
  | some x=>exact h▸rfl
theorem QnI{X:Cx}{N':List Str}{scope:Scope}{fi:DI}{t:Tg}{cap:List (Option Nat)}{ft:DT}{fe:DE}{H0:Hp}{A0:LAd}{σ:L2.St}{H:Hp}{Q:VK}(hc:Qom X N' scope cap t.slots):
  tV X.K H0 A0 (QG fi t cap ft fe) σ H Q->Qop (tI X.K H0 A0 fi) (Qlx X N' scope) (tG X.K (λ_=>none) [] t) (tVT X.K (λ_=>none) [] ft) (tV X.K (λ_=>none) [] fe) σ H Q:=exK λρ hs F r rel e q=>by
 refine Qj e λir e1 e=>?_;obtain⟨⟨xs,f⟩,ef,e⟩:=Zk.mp e;subst e;refine⟨ρ,hs,F,ir,rel,e1,λJ H1 ts s1 wk hts ow hz=>?_⟩;refine⟨cap.map λo=>o.bind λi=>σ[i]?.join,⟨by simp[hc.len],λj x v hN hv=>?_⟩,λDl hD=>?_⟩
 ·rw[Zr]at hv;cases qc:cap[j]? with
  | none=>rw[qc]at hv;cases hv
  | some o=>
   rw[qc]at hv;cases o with
   | none=>cases hv
   | some i=>
    simp only[ZX,Za,Option.some.injEq]at hv;obtain⟨y,h1,h2,h3,h4⟩:=hc.get j i qc;rw[hN]at h1;cases h1;exact⟨h2,i,h3,join_some hv,h4⟩
 generalize hσc:(cap.map λo=>o.bind λi=>σ[i]?.join)=σc;generalize hρc:QfP cap ρ=ρc at ef
 have hF0:∃Fc:Nat->List Addr,Fc=λj=>match cap[j]? with
  | some (some i)=>(match ρ[i]? with
   | some (some _)=>F i
   | _=>[])
  | _=>[]:=⟨_,rfl⟩
 obtain⟨Fc,hFc⟩:=hF0;have rel1:=rel.ext s1;have relC:∀H2,QU H1 H2->Rel X.K (λ_=>none) [] [] ρc Fc σc H2:=λH2 s2=>by
  refine⟨by rw[← hρc,← hσc];simp[QfP],λj d b e=>?_,λj d e=>?_,λj d b e a ha=> .inl rfl,λt ht=>(by simp at ht),λb o z=>(by cases z)⟩
  ·rw[← hρc]at e;obtain⟨i,b',h1,h2⟩:=QnY e;obtain⟨v,h3,h4⟩:=(rel1.ext s2).val i d b' h2;refine⟨v,?_,?_⟩
   ·rw[← hσc,Zr,h1];simp only[ZX,Za,h3,Option.join_some]
   ·rw[hFc];simp only[h1,h2];exact h4
  ·have hf:d.flat=true:=Qls cap ρ j d (by rw[hρc];exact e);have:Fc j=[]:=by
    rw[← hρc]at e;obtain⟨i,b',h1,h2⟩:=QnY e;obtain⟨v,h3,h4⟩:=rel1.val i d b' h2;rw[hFc];simp only[h1,h2];exact h4.QbK hf
   rw[this];exact⟨(Qdm d hf).symm,ZaA,λa ha=>(by simp at ha),λ_ _ _ _ _ a ha=>(by simp at ha),λt ht=>(by simp at ht)⟩
 have shC:∀G,Shr (λ_=>none) [] ρc Fc G:=λG a ha=>⟨.inl rfl,λj d e hj=>by
  have h0:=(relC H1 (QU.refl _)).own j d e;have hf:d.flat=true:=Qls cap ρ j d (by rw[hρc];exact e);have:(Fc j).length=0:=by rw[h0.1,Qdm d hf]
  rw[Zao this]at hj;simp at hj⟩
 have hSh:Qdx ρc:=by rw[← hρc];exact Qls cap ρ
 have heldOf:∀H2,QU H1 H2->Qm7 X.K H2 ts:=λH2 s2 t ht=>(hts t ht).1.same s2;have oldOf:∀a,((∃t∈ts,a∈t.2.2)∨∃j,a∈Fc j)->(∃vs,H1 a=some (.lst vs))/\(H a=none∨∃(i:Nat) (d:D) (b:Bool),ρ[i]? =some (some (d,b))/\a∈F i/\(b=true->i∈ir.M++Qsf cap ρ)):=λa ha=>by
  rcases ha with⟨t,ht,ha⟩ | ⟨j,ha⟩
  ·refine⟨(hts t ht).1.mem a ha,?_⟩;rcases(hts t ht).2 a ha with z | ⟨i,d,b,e,m,w⟩
   ·exact .inl z
   ·exact .inr ⟨i,d,b,e,m,λhb=>Zl _ (w hb)⟩
  ·have ha0:=ha;rw[hFc]at ha;dsimp only at ha;split at ha
   ·rename_i i hi;split at ha
    ·rename_i db hdb;obtain⟨d,b⟩:=db;obtain⟨v,h3,h4⟩:=rel1.val i d b hdb;refine⟨h4.mem a ha,.inr ⟨i,d,b,hdb,ha,λhb=>Zf _ ?_⟩⟩;unfold Qsf;refine Zbx.mpr ⟨some i,ZT hi,?_⟩;simp only[Za,hdb];have hnf:d.flat=false:=by
      cases hf:d.flat with
      | false=>rfl
      | true=>rw[h4.QbK hf]at ha;simp at ha
     rw[hb,hnf];rfl
    ·simp at ha
   ·simp at ha
 have fresh5:∀H2,QU H1 H2->∀a,H2 a=none->H1 a=none:=λH2 s2 a h=>s2.free h
 refine⟨λi m acc H2=>m=ir.items.length-i/\i<=ir.items.length/\QU H1 H2/\H2 Dl=some (.lst acc)/\∃(ys:List D) (g:Bool) (G:LAd),(ir.items.drop i).foldlM (QgT t ft fe ρc) (ys,g)=some (xs,f)/\Rps X.K H2 ys acc G/\ys.length<=i∧
  (∀a∈G,a≠Dl/\(H1 a=none∨(∃t∈ts,a∈t.2.2)∨∃j,a∈Fc j))/\(g=true->G.length=nls ys/\∀a,G.count a<=nw H1 a),⟨ir.items.length,rfl,Zai _,Qbt hD,Qau,[],true,[],by simpa using ef,by simp[Rps],Zh _,λa ha=>(by simp at ha),λ_=>⟨rfl,λa=>by simp⟩⟩,?_⟩
 rintro i m acc H2 ⟨rfl,hi,s2,eD,ys,g,G,hfold,rps,hlen,hG,hcnt⟩;by_cases hlt:i<ir.items.length
 ·refine .inr ⟨wk.go i H2 hlt (heldOf H2 s2),λx H3 hy=>?_⟩;obtain⟨s3,G0,rp0,hG0⟩:=wk.yld i ir.items[i] H2 x H3 (by simp[hlt]) (heldOf H2 s2) hy;rw[Zax hlt,Zch]at hfold;refine Qj hfold λacc1 hstep hrest=>?_;unfold QgT at hstep;refine Qj hstep λρ1 eb hstep=>?_;refine Qj hstep λc ec hstep=>?_;have sh1:Qdx ρ1:=hSh.bind eb;refine⟨ρc,[],Fc,ir.items[i],G0,ρ1,relC H3 (s2.trans s3),rp0,shC G0,eb,λσ2 F2 rel2 keep mem2=>⟨λj v hv=>?_,ρ1,[],F2,c,rel2,ec,λH5 s5=>?_⟩⟩
  ·have hj:j∉t.slots:=λhj=>by
    rw[← hσc,Zr]at hv;cases qc:cap[j]? with
    | none=>rw[qc]at hv;cases hv
    | some o=>
     cases o with
     | none=>rw[qc]at hv;cases hv
     | some k=>exact hc.apart j k qc hj
   rw[keep j hj];exact hv
  have s15:QU H1 H5:=(s2.trans s3).trans s5;have eD5:H5 Dl=some (.lst acc):=s5 _ _ (s3 _ _ eD);cases c with
  | false=>
   rw[if_neg ZaI]at hstep;refine Qvm ?_;cases hstep;exact⟨_,⋯,rfl,hlt,s15,eD5,ys,g,G,hrest,rps.same (s3.trans s5),⋯,hG,hcnt⟩
  | true=>
   rw[if_pos rfl]at hstep;refine QvU ?_;obtain⟨rr,er,hstep⟩:=Zk.mp hstep;subst hstep;refine⟨ρ1,[],F2,rr,rel2.ext s5,er,λy H6 Ge pe=>?_⟩;have eD6:H6 Dl=some (.lst acc):=pe.same _ _ eD5;have s16:=s15.trans pe.same;refine⟨eD6,?_,_,⋯,rfl,hlt,?_⟩
   ·rw[← rps.length];exact ZO hlen (Zw hlt hz)
   have hGe:∀a∈Ge,a≠Dl/\(H1 a=none∨(∃t∈ts,a∈t.2.2)∨∃j,a∈Fc j):=λa ha=>by
    rcases pe.src a ha with z | ⟨j,d,b,ej,hj,_⟩
    ·exact⟨λw=>(by rw[w,eD5]at z;cases z),.inl (s15.free z)⟩
    ·have h1:(∃t∈ts,a∈t.2.2)∨∃j,a∈Fc j:=by
      rcases mem2 j a hj with w | w
      ·exact .inr ⟨j,w⟩
      ·exact .inl (hG0 a w)
     obtain⟨⟨vs,w⟩,_⟩:=oldOf a h1;exact⟨λw'=>(by rw[w',hD]at w;cases w),.inr h1⟩
   have nD:Dl∉G:=λh=>(hG _ h).1 rfl;have nDe:Dl∉Ge:=λh=>(hGe _ h).1 rfl;have sU:QU H1 (L2.upd H6 Dl (.lst (acc++[y]))):=λb o hb=>by rw[Q0 (Qcb hb hD)];exact s16 b o hb
   refine⟨sU,Qau,ys++[rr.d],g && rr.norm.fr,G++Ge,hrest,?_,by rw[Zx,Zbn];omega,λa ha=>?_,λhg=>?_⟩
   ·refine Rps.append ((rps.same ((s3.trans s5).trans pe.same)).upd eD6 nD) ?_;simp only[Rps];exact⟨y,[],Ge,[],rfl,by simp,pe.rp.upd eD6 nDe,rfl,rfl⟩
   ·rcases ZH.mp ha with h | h
    ·exact hG a h
    ·exact hGe a h
   ·simp only[Zg]at hg;obtain⟨l1,c1⟩:=hcnt hg.1;have pn:=pe.norm;obtain⟨c2,l2⟩:=pn.cnt hg.2;rw[rr.QcN]at l2;have nlapp:∀(as bs:List D),nls (as++bs)=nls as+nls bs:=λas bs=>by
     induction as with
     | nil=>simp[nls]
     | cons a as ih=>simp only[ZbK,nls,ih];omega
    refine⟨by rw[Zx,l1,l2,nlapp];simp[nls],λa=>?_⟩;have fl:((rr.norm.M.map F2).flatten).count a=0:=by
     rw[ZW];intro hm;obtain⟨l,hl,hal⟩:=ZbL.mp hm;obtain⟨j,hj,rfl⟩:=ZN.mp hl;obtain⟨d,ej⟩:=pn.own j hj;have hf:=sh1 j d ej;obtain⟨v,_,rv⟩:=rel2.val j d true ej;rw[rv.QbK hf]at hal;simp at hal
    have h1:=c1 a;have h2:=c2 a;rw[fl]at h2;rw[Zaz];cases q5:H5 a with
    | some o=>rw[Qdt q5]at h2;omega
    | none=>
     rw[QbP q5]at h2;have h0:G.count a=0:=ZW.mpr λhm=>by
      obtain⟨vs,w⟩:=rps.mem a hm;rw[s5 _ _ (s3 _ _ w)]at q5;cases q5
     rw[QbP (s15.free q5)];omega
 ·have hn:i=ir.items.length:= ⋯
  subst hn;refine .inl ⟨wk.stop H2 (heldOf H2 s2),?_⟩;rw[List.drop_length]at hfold;have:(ys,g)=(xs,f):=Option.some.inj hfold;cases this;have rp:Rp X.K H2 (.lst xs) (.ref Dl) (Dl::G):=Rp.Qep eD rps (Zp hlen hz);have hHD:H Dl=none:=s1.free hD;split at q
  ·rename_i hg;have hg:f=true:=hg;obtain⟨l1,c1⟩:=hcnt hg;have hn:∀a∈G,H1 a=none:=λa ha=>by
    have:=c1 a;have h2:0<G.count a:=Zap.mpr ha;cases w:H1 a with
    | none=>rfl
    | some o=>rw[Qdt w]at this;omega
   refine q _ H2 (Dl::G) ⟨s1.trans s2,rp,λa ha=>?_,λ_=>⟨λa=>?_,by simp only[D.nl,ZJ,l1]⟩,QbI.nil⟩
   ·rcases Zo.mp ha with rfl | h
    ·exact .inl hHD
    ·exact .inl (s1.free (hn a h))
   ·rw[ZaZ];have h1:=c1 a;split
    ·rename_i w;have w:Dl=a:=by simpa using w
     subst w;have h0:G.count Dl=0:=ZW.mpr λh=>(hG _ h).1 rfl;rw[QbP hHD];omega
    ·cases w:H1 a with
     | none=>rw[QbP w]at h1;rw[QbP (s1.free w)];omega
     | some o=>rw[Qdt w]at h1;omega
  ·refine q _ H2 (Dl::G) ⟨s1.trans s2,rp,λa ha=>?_,λz=>(by cases z),?_⟩
   ·rcases Zo.mp ha with rfl | h
    ·exact .inl hHD
    ·rcases(hG a h).2 with z | z
     ·exact .inl (s1.free z)
     ·exact(oldOf a z).2
   ·refine ow.append λi hi=>?_;unfold Qsf at hi;obtain⟨o,_,ho⟩:=Zbx.mp hi;cases o with
    | none=>cases ho
    | some k=>
     simp only[Za]at ho;split at ho
     ·rename_i d b hk;split at ho
      ·rename_i hb;cases ho;simp only[Zg]at hb;rw[hb.1]at hk;exact⟨d,hk⟩
      ·cases ho
     ·cases ho
section
variable {X:Cx}{tg iter elt:Expr}{ifs:List Expr}{scope:Scope}{N':List Str}{pos:Pos}{fi:DI}{t:Tg}{cap:List (Option Nat)}{ft:DT}{fe:DE}
theorem QyF(hcalm:X.calm=true)(S:Qfi X N' scope)(hi:SI X tg iter fi)(hcap:Qom X N' scope cap t.slots)
  (hin:∀cl C fp s3 H3,SG (cxc X N' scope cl C fp s3 H3) tg t/\Qp8 (cxc X N' scope cl C fp s3 H3) ifs ft/\SE (cxc X N' scope cl C fp s3 H3) elt fe) (hs:∀x,foldedSetIterable iter X.env x=pure x):
  SE X (.ListComp elt [⟨tg,iter,ifs,0⟩] scope pos) (QG fi t cap ft fe):=λH0 A0=>
 (QrB hcalm S (hi H0 A0) (λcl C fp s3 H3=>⟨(hin cl C fp s3 H3).1 _ _,(hin cl C fp s3 H3).2.1 _ _,(hin cl C fp s3 H3).2.2 _ _⟩) hs).mono λσ H Q h=>QnI hcap h
end
end HS
namespace HS
open PySem PySem.Spec L2
inductive Out where
 | nx (ρ:En)
 | bk (ρ:En)
 | ct (ρ:En)
 | rt (d:D) (fr:Bool)
noncomputable abbrev DS:=En->Option Out
noncomputable def Fits(K:Fgg)(H0:Hp)(A0:LAd)(hs:List (V×D×List Addr))(E:Ends):Out->Prop
 | .nx ρ=>∀σ H F,Rel K H0 A0 hs ρ F σ H->E.nx σ H
 | .bk ρ=>∀σ H F,Rel K H0 A0 hs ρ F σ H->E.bk σ H
 | .ct ρ=>∀σ H F,Rel K H0 A0 hs ρ F σ H->E.ct σ H
 | .rt d fr=>∀v H G,Ret K H0 A0 d fr v H G->E.rt v H
noncomputable def tS(K:Fgg)(H0:Hp)(A0:LAd)(f:DS):TS:=λE σ H=>∃ρ hs F o,Rel K H0 A0 hs ρ F σ H/\f ρ=some o/\Fits K H0 A0 hs E o
def S1(X:Cx)(st:Stmt)(f:DS):Prop:=∀H0 A0,PS X st (tS X.K H0 A0 f)
def SS(X:Cx)(sts:List Stmt)(f:DS):Prop:=∀H0 A0,PSs X sts (tS X.K H0 A0 f)
theorem _root_.L2.PS.mono(h:PS X st t)(m:∀D σ H,t' D σ H->t D σ H):PS X st t':=λpins s σ H D I q=>h pins s σ H D I (m D σ H q)
theorem _root_.L2.PSs.mono(h:PSs X st t)(m:∀D σ H,t' D σ H->t D σ H):PSs X st t':=λpins s σ H D I q=>h pins s σ H D I (m D σ H q)
noncomputable def Qo:DS:=λρ=>some (.nx ρ)
noncomputable def Qd(f g:DS):DS:=λρ=>(f ρ).bind λo=>match o with
 | .nx ρ'=>g ρ'
 | .bk ρ'=>some (.bk ρ')
 | .ct ρ'=>some (.ct ρ')
 | .rt d fr=>some (.rt d fr)
noncomputable def Qsm:DS:=λρ=>some (.bk ρ)
noncomputable def Qr2:DS:=λρ=>some (.ct ρ)
noncomputable def Qs(i:Nat)(fa:DE):DS:=λρ=>(fa ρ).bind λr=>some (.nx (asg i r ρ))
noncomputable def QaA(fa:DE):DE:=λρ=>(fa ρ).map λr=>⟨r.d,false,r.M⟩
noncomputable def QH(fa:DE):DS:=λρ=>(fa ρ).bind λr=>some (.rt r.d (r.norm.fr && decide r.norm.M.Nodup))
noncomputable def QsE:DS:=λ_=>some (.rt .non true)
noncomputable def Qdp(fa:DE):DS:=λρ=>(fa ρ).bind λ_=>some (.nx ρ)
noncomputable def sIf(g:DT)(f1 f2:DS):DS:=λρ=>(g ρ).bind λb=>if b=true then f1 ρ else f2 ρ
noncomputable def QdQ(t:Tg)(fb:DS):List D->DS
 | [],ρ=>some (.nx ρ)
 | d::ds,ρ=>(Qch t d ρ).bind λρ1=>(fb ρ1).bind λo=>match o with
  | .nx ρ2=>QdQ t fb ds ρ2
  | .ct ρ2=>QdQ t fb ds ρ2
  | .bk ρ2=>some (.nx ρ2)
  | .rt d fr=>some (.rt d fr)
noncomputable def Qa7(fi:DI)(t:Tg)(fb:DS):DS:=λρ=>(fi ρ).bind λir=>QdQ t fb ir.items (Qbr ir.M ρ)
noncomputable def Qbz(g:DT)(fb:DS):Nat->DS
 | 0,_=>none
 | n+1,ρ=>(g ρ).bind λb=>if b=true then(fb ρ).bind λo=>match o with
  | .nx ρ2=>Qbz g fb n ρ2
  | .ct ρ2=>Qbz g fb n ρ2
  | .bk ρ2=>some (.nx ρ2)
  | .rt d fr=>some (.rt d fr)
  else some (.nx ρ)
section
theorem Qz0:SS X [] Qo:=λH0 A0=>Qx7.mono λE σ H=>exK λρ hs F o rel e q=>by
 cases e;exact q σ H F rel
theorem QxR(h1:S1 X st f)(h2:SS X sts g):SS X (st::sts) (Qd f g):=λH0 A0=>(QcG (h1 H0 A0) (h2 H0 A0)).mono λE σ H=>exK λρ hs F o rel e q=>by
 refine Qj e λo1 e1 e=>?_;refine⟨ρ,hs,F,o1,rel,e1,?_⟩;cases o1 with
 | nx ρ'=>exact λσ' H' F' rel'=>⟨ρ',hs,F',o,rel',e,q⟩
 | bk ρ'=>cases e;exact q
 | ct ρ'=>cases e;exact q
 | rt d fr=>cases e;exact q
theorem Qze:S1 X (.Pass pos) Qo:=λH0 A0=>Qya.mono λE σ H=>exK λρ hs F o rel e q=>by
 cases e;exact q σ H F rel
theorem QvQ:S1 X (.Break pos) Qsm:=λH0 A0=>Qvb.mono λE σ H=>exK λρ hs F o rel e q=>by
 cases e;exact q σ H F rel
theorem QyK:S1 X (.Continue pos) Qr2:=λH0 A0=>QqF.mono λE σ H=>exK λρ hs F o rel e q=>by
 cases e;exact q σ H F rel
theorem Qwg(h:SE X e fa):SE X e (QaA fa):=λH0 A0=>(h H0 A0).mono λσ H Q=>exK λρ hs F r rel e q=>by
 obtain⟨r',e1,rfl⟩:=Zk.mp e;exact⟨ρ,hs,F,r',rel,e1,λv H' G p=>q v H' G ⟨p.same,p.rp,p.src,λz=>(by cases z),p.own⟩⟩
theorem Qqn(h:∀H0 A0,PS X st (QeS (tV X.K H0 A0 fa) (QgV i))):S1 X st (Qs i fa):=λH0 A0=>(h H0 A0).mono λE σ H=>exK λρ hs F o rel e q=>by
 refine Qj e λr e1 e=>?_;cases e;refine⟨ρ,hs,F,r,rel,e1,λv H' G p=>?_⟩;obtain⟨F',rel'⟩:=rel.asg (i:=i) p;exact q _ _ F' rel'
theorem QyL(h:PS X st (Qkj (tV X.K H0 A0 fa))):PS X st (tS X.K H0 A0 (Qdp fa)):=h.mono λE σ H=>exK λρ hs F o rel e q=>by
 refine Qj e λr e1 e=>?_;cases e;exact⟨ρ,hs,F,r,rel,e1,λv H' G p=>q σ H' F (rel.ext p.same)⟩
theorem Rel.ret(rel:Rel K H0 A0 hs ρ F σ H)(p:Qaj K ρ F H H' r v G):Ret K H0 A0 r.d (r.norm.fr && decide r.norm.M.Nodup) v H' G where
 same:=rel.same.trans p.same
 rp:=p.rp
 src:=λa ha=>by
  rcases p.src a ha with z | ⟨i,d,b,e,m,_⟩
  ·exact .inl (rel.same.free z)
  ·exact rel.src i d b e a m
 cnt:=λh=>by
  simp only[Zg,decide_eq_true_eq]at h;have p':=p.norm;obtain⟨h1,h2⟩:=p'.fresh rel h.1 h.2;have h3:=(p'.cnt h.1).2;rw[r.QcN]at h3;exact⟨h1,h3,λa ha=>(h2 a ha).1⟩
theorem QAK(he:SE X e fa):S1 X (.Return (some e) pos) (QH fa):=λH0 A0=>(QBf (he H0 A0)).mono λE σ H=>exK λρ hs F o rel e q=>by
 refine Qj e λr e1 e=>?_;cases e;exact⟨ρ,hs,F,r,rel,e1,λv H' G p=>q v H' G (rel.ret p)⟩
theorem Qy9:S1 X (.Return none pos) QsE:=λH0 A0=>QyI.mono λE σ H=>exK λρ hs F o rel e q=>by
 cases e;exact q .non H [] ⟨rel.same,.QlM,λa ha=>(by simp at ha),λ_=>⟨ZaA,rfl,λa ha=>(by simp at ha)⟩⟩
theorem QCh(hc:ST X c gc)(ha:SS X a f)(hb:SS X b g):S1 X (.If c a b pos) (sIf gc f g):=λH0 A0=>(QCu (hc H0 A0) (ha H0 A0) (hb H0 A0)).mono λE σ H=>exK λρ hs F o rel e q=>by
 refine Qj e λc e1 e=>?_;refine⟨ρ,hs,F,c,rel,e1,λH1 s1=>?_⟩;cases c with
 | true=>exact QvU ⟨ρ,hs,F,o,rel.ext s1,e,q⟩
 | false=>exact Qvm ⟨ρ,hs,F,o,rel.ext s1,e,q⟩
theorem QzE(hp:PassesOwn (model X.prog X.w) X.A X.env X.xe)(hc:X.calm=true)(hi:SI X tg iter fi)(hg:SG X tg t)(hb:SS X body f)(hs:∀x,foldedSetIterable iter X.env x=pure x):
  S1 X (.For tg iter body [] pos) (Qa7 fi t f):=λH0 A0=>(QA9 hp hc (hi H0 A0) (hg H0 A0) (hb H0 A0) hs).mono λE σ H=>exK λρ hs F o rel e q=>by
 refine Qj e λir e1 e=>?_;refine⟨ρ,hs,F,ir,rel,e1,λJ H1 ts s1 wk hts ow hz=>?_⟩;have rel1:Rel X.K H0 A0 (ts++hs) (Qbr ir.M ρ) F σ H1:=((rel.ext s1).weak (Qby ir.M ρ)).hold λt ht=>⟨(hts t ht).1,Shr.of rel (hts t ht).2⟩;refine⟨λi m σ' H'=>m=ir.items.length-i/\i<=ir.items.length/\∃ρi Fi,Rel X.K H0 A0 (ts++hs) ρi Fi σ' H'/\QdQ t f (ir.items.drop i) ρi=some o,⟨_,rfl,Zai _,_,F,rel1,by simpa using e⟩,?_⟩;rintro i m σ' H' ⟨rfl,hi',ρi,Fi,reli,ei⟩;have held:Qm7 X.K H' ts:=λt ht=>(reli.held t (Zl _ ht)).1;by_cases hlt:i<ir.items.length
 ·rw[Zax hlt]at ei;unfold QdQ at ei;refine Qj ei λρ1 eb ei=>?_;refine Qj ei λo1 eo ei=>?_;refine .inr ⟨wk.go i H' hlt held,λσ2 H2=>∃ρ2 F2,Rel X.K H0 A0 (ts++hs) ρ2 F2 σ2 H2/\QdQ t f (ir.items.drop (i+1)) ρ2=some o,λσ2 H2 ⟨ρ2,F2,rel2,e2⟩=>⟨_,⋯,rfl,hlt,ρ2,F2,rel2,e2⟩,λx H2 hy=>?_⟩;obtain⟨s2,G0,rp0,hG0⟩:=wk.yld i ir.items[i] H' x H2 (by simp[hlt]) held hy;have shr:Shr H0 A0 ρi Fi G0:=λa ha=>by
   obtain⟨t,ht,hat⟩:=hG0 a ha;exact⟨(reli.held t (Zl _ ht)).2 a hat,λj d ej hj=>(reli.own j d ej).2.2.2.2 t (Zl _ ht) a hj hat⟩
  refine⟨ρi,ts++hs,Fi,ir.items[i],G0,ρ1,reli.ext s2,rp0,shr,eb,λσ3 F3 rel3 _ _=>⟨ρ1,ts++hs,F3,o1,rel3,eo,?_⟩⟩;cases o1 with
  | nx ρ2=>exact λσ4 H4 F4 rel4=>⟨ρ2,F4,rel4,ei⟩
  | ct ρ2=>exact λσ4 H4 F4 rel4=>⟨ρ2,F4,rel4,ei⟩
  | bk ρ2=>cases ei;exact λσ4 H4 F4 rel4=>q σ4 H4 F4 rel4.Qt3
  | rt d fr=>cases ei;exact q
 ·have hn:i=ir.items.length:= ⋯
  subst hn;rw[List.drop_length]at ei;cases ei;exact .inl ⟨wk.stop H' held,q σ' H' Fi reli.Qt3⟩
theorem Qv3(hp:PassesOwn (model X.prog X.w) X.A X.env X.xe)(hc:ST X c gc)(hb:SS X body f):S1 X (.While c body [] pos) (Qbz gc f n):=λH0 A0=>(Qw6 hp (hc H0 A0) (hb H0 A0)).mono λE σ H=>exK λρ hs F o rel e q=>by
 refine⟨λm σ' H'=>∃ρi Fi,Rel X.K H0 A0 hs ρi Fi σ' H'/\Qbz gc f m ρi=some o,⟨n,ρ,F,rel,e⟩,?_⟩;rintro m σ' H' ⟨ρi,Fi,reli,ei⟩;cases m with
 | zero=>cases ei
 | succ m=>
  unfold Qbz at ei;refine Qj ei λb eb ei=>?_;refine⟨ρi,hs,Fi,b,reli,eb,λH1 s1=>?_⟩;cases b with
  | false=>
   rw[if_neg ZaI]at ei;cases ei;exact Qvm (q σ' H1 Fi (reli.ext s1))
  | true=>
   rw[if_pos rfl]at ei;refine Qj ei λo1 eo ei=>?_;refine QvU ⟨λσ2 H2=>∃ρ2 F2,Rel X.K H0 A0 hs ρ2 F2 σ2 H2/\Qbz gc f m ρ2=some o,λσ2 H2 h=>⟨m,Zbr _,h⟩,ρi,hs,Fi,o1,reli.ext s1,eo,?_⟩;cases o1 with
   | nx ρ2=>exact λσ4 H4 F4 rel4=>⟨ρ2,F4,rel4,ei⟩
   | ct ρ2=>exact λσ4 H4 F4 rel4=>⟨ρ2,F4,rel4,ei⟩
   | bk ρ2=>cases ei;exact λσ4 H4 F4 rel4=>q σ4 H4 F4 rel4
   | rt d fr=>cases ei;exact q
end
section
variable {K:Fgg}{H H':Hp}
theorem Rps.split:∀{ds:List D}{vs:List V}{F:LAd}{j:Nat}{d:D},Rps K H ds vs F->ds[j]? =some d→
  ∃F1 G F2 v,F=F1++(G++F2)/\vs[j]? =some v/\Rps K H (ds.take j) (vs.take j) F1/\Rp K H d v G/\Rps K H (ds.drop (j+1)) (vs.drop (j+1)) F2
 | [],_,_,_,_,_,e=>by simp at e
 | d::ds,_,_,0,_,h,e=>by
  simp only[Rps]at h;obtain⟨v,ws,F1,F2,rfl,rfl,r,q⟩:=h;simp at e;subst e;exact⟨[],F1,F2,v,rfl,by simp,by simp[Rps],r,by simpa using q⟩
 | d::ds,_,_,j+1,_,h,e=>by
  simp only[Rps]at h;obtain⟨v,ws,F1,F2,rfl,rfl,r,q⟩:=h;obtain⟨G1,G,G2,v',h1,h2,h3,h4,h5⟩:=Rps.split q (by simpa using e);refine⟨F1++G1,G,G2,v',by rw[h1,Zbc],by simpa using h2,?_,h4,by simpa using h5⟩;simp only[ZbS,Rps];exact⟨v,_,F1,G1,rfl,rfl,r,h3⟩
theorem Rps.join{ds:List D}{vs:List V}{F1 G F2:LAd}{j:Nat}{d:D}{v:V}(h1:Rps K H (ds.take j) (vs.take j) F1)(hd:Rp K H d v G)(h2:Rps K H (ds.drop (j+1)) (vs.drop (j+1)) F2)(hj:j<ds.length)(hv:vs[j]? =some v):
  Rps K H (ds.set j d) vs (F1++(G++F2)):=by
 have e1:ds.set j d=ds.take j++d::ds.drop (j+1):=ZaY .. |>.trans (by rw[if_pos hj]);have hjv:j<vs.length:=(Zi.mp hv).1;have hve:vs[j]=v:=(Zi.mp hv).2;have e2:vs=vs.take j++v::vs.drop (j+1):=by
  rw[← hve,← Zax hjv,ZaH]
 rw[e1,e2];refine h1.append ?_;simp only[Rps];refine⟨v,_,G,F2,rfl,rfl,hd,h2⟩
theorem Rps.Qxd{ds:List D}{vs:List V}{F1 G F2:LAd}{j:Nat}{d:D}{v:V}(h1:Rps K H (ds.take j) (vs.take j) F1)(hd:Rp K H d v G)(h2:Rps K H (ds.drop (j+1)) (vs.drop (j+1)) F2)(hj:j<ds.length)(hv:j<vs.length):
  Rps K H (ds.set j d) (vs.set j v) (F1++(G++F2)):=by
 have e1:ds.set j d=ds.take j++d::ds.drop (j+1):=ZaY .. |>.trans (by rw[if_pos hj]);have e2:vs.set j v=vs.take j++v::vs.drop (j+1):=ZaY .. |>.trans (by rw[if_pos hv]);rw[e1,e2];refine h1.append ?_;simp only[Rps];exact⟨v,_,G,F2,rfl,rfl,hd,h2⟩
noncomputable def Focus(K:Fgg)(H:Hp):List Int->D->V->List Addr->D->V->List Addr->Prop
 | [],d,v,F,dm,w,Gm=>dm=d/\w=v/\Gm=F/\Rp K H d v F
 | i::is,d,v,F,dm,w,Gm=>∃(ds:List D) (a:Addr) (vs:List V) (j:Nat) (F1 G F2:LAd) (d':D) (v':V),v= .ref a/\ixN ds.length i=some j∧
   ((d= .lst ds/\ds.length<=sizeLine/\((F=a::(F1++(G++F2))/\H a=some (.lst vs))∨(F=F1++(G++F2)/\Fix K H a vs)))∨(d= .tup ds/\F=F1++(G++F2)/\SqT K H a vs))∧
   Rps K H (ds.take j) (vs.take j) F1/\Rps K H (ds.drop (j+1)) (vs.drop (j+1)) F2/\ds[j]? =some d'/\vs[j]? =some v'/\ds.length=vs.length/\Focus K H is d' v' G dm w Gm
theorem Focus.same(s:QU H H'):∀{is:List Int}{d:D}{v:V}{F:LAd}{dm:D}{w:V}{Gm:LAd},Focus K H is d v F dm w Gm->Focus K H' is d v F dm w Gm
 | [],_,_,_,_,_,_,h=>⟨h.1,h.2.1,h.2.2.1,h.2.2.2.same s⟩
 | i::is,_,_,_,_,_,_,h=>by
  obtain⟨ds,a,vs,j,F1,G,F2,d',v',h1,h2,h3,h4,h5,h6,h7,h8,h9⟩:=h;refine⟨ds,a,vs,j,F1,G,F2,d',v',h1,h2,?_,h4.same s,h5.same s,h6,h7,h8,h9.same s⟩;rcases h3 with⟨e,z,q⟩ | ⟨e,eF,q⟩
  ·refine .inl ⟨e,z,?_⟩;rcases q with⟨eF,q⟩ | ⟨eF,q⟩
   ·exact .inl ⟨eF,s _ _ q⟩
   ·exact .inr ⟨eF,QoD s q⟩
  ·exact .inr ⟨e,eF,Qo6 s q⟩
theorem Focus.rp:∀{is:List Int}{d:D}{v:V}{F:LAd}{dm:D}{w:V}{Gm:LAd},Focus K H is d v F dm w Gm->Rp K H dm w Gm
 | [],_,_,_,_,_,_,h=>by
  obtain⟨rfl,rfl,rfl,r⟩:=h;exact r
 | i::is,_,_,_,_,_,_,h=>by
  obtain⟨ds,a,vs,j,F1,G,F2,d',v',h1,h2,h3,h4,h5,h6,h7,h8,h9⟩:=h;exact h9.rp
theorem Focus.Qs7:∀{is:List Int}{d:D}{v:V}{F:LAd}{dm:D}{w:V}{Gm:LAd},Focus K H is d v F dm w Gm->Rp K H d v F
 | [],_,_,_,_,_,_,h=>h.2.2.2
 | i::is,_,_,_,_,_,_,h=>by
  obtain⟨ds,a,vs,j,F1,G,F2,d',v',rfl,h2,h3,h4,h5,h6,h7,h8,h9⟩:=h;have hjl:j<ds.length:=(Zi.mp h6).1;have hdj:ds[j]=d':=(Zi.mp h6).2;have j1:=Rps.join h4 h9.Qs7 h5 hjl h7;rw[show ds.set j d'=ds by rw[← hdj];exact List.set_getElem_self hjl]at j1;rcases h3 with⟨rfl,hz,⟨rfl,q⟩ | ⟨rfl,q⟩⟩ | ⟨rfl,rfl,q⟩
  ·exact Rp.Qep q j1 hz
  ·simp only[Rp];exact⟨hz,a,vs,rfl,.inr ⟨q,j1⟩⟩
  ·simp only[Rp];exact⟨a,vs,rfl,q,j1⟩
theorem Focus.one(r:Rp K H d v F)(hd:d.items=some ds)(hi:atI ds i=some d'):
  ∃a vs v' G,v= .ref a/\((d= .lst ds/\SqL K H a vs)∨(d= .tup ds/\SqT K H a vs))/\atI vs i=some v'/\Focus K H [i] d v F d' v' G:=by
 unfold atI at hi;cases hj:ixN ds.length i with
 | none=>rw[hj]at hi;cases hi
 | some j=>
  rw[hj]at hi;have hdj:ds[j]? =some d':=hi;have fin:∀(vs:List V) (L:LAd),Rps K H ds vs L->∃v' G F1 F2,L=F1++(G++F2)/\vs[j]? =some v'/\atI vs i=some v'/\Rps K H (ds.take j) (vs.take j) F1/\Rp K H d' v' G/\Rps K H (ds.drop (j+1)) (vs.drop (j+1)) F2/\ds.length=vs.length:=λvs L rl=>by
   obtain⟨F1,G,F2,v',h1,h2,h3,h4,h5⟩:=rl.split hdj;refine⟨v',G,F1,F2,h1,h2,?_,h3,h4,h5,rl.length⟩;unfold atI;rw[← rl.length,hj];exact h2
  cases d with
  | lst xs=>
   cases hd;simp only[Rp]at r;obtain⟨hz,a,vs,rfl,⟨L,rfl,q,rl⟩ | ⟨q,rl⟩⟩:=r
   ·obtain⟨v',G,F1,F2,h1,h2,h3,h4,h5,h6,h7⟩:=fin vs L rl;exact⟨a,vs,v',G,rfl,.inl ⟨rfl,SqL.of q⟩,h3,ds,a,vs,j,F1,G,F2,d',v',rfl,hj,.inl ⟨rfl,hz,.inl ⟨by rw[h1],q⟩⟩,h4,h6,hdj,h2,h7,rfl,rfl,rfl,h5⟩
   ·obtain⟨v',G,F1,F2,h1,h2,h3,h4,h5,h6,h7⟩:=fin vs _ rl;exact⟨a,vs,v',G,rfl,.inl ⟨rfl,q.sq⟩,h3,ds,a,vs,j,F1,G,F2,d',v',rfl,hj,.inl ⟨rfl,hz,.inr ⟨h1,q⟩⟩,h4,h6,hdj,h2,h7,rfl,rfl,rfl,h5⟩
  | tup xs=>
   cases hd;obtain⟨a,vs,rfl,q,rl⟩:=r.Qbm;obtain⟨v',G,F1,F2,h1,h2,h3,h4,h5,h6,h7⟩:=fin vs _ rl;exact⟨a,vs,v',G,rfl,.inr ⟨rfl,q⟩,h3,ds,a,vs,j,F1,G,F2,d',v',rfl,hj,.inr ⟨rfl,h1,q⟩,h4,h6,hdj,h2,h7,rfl,rfl,rfl,h5⟩
  | _=>cases hd
theorem Focus.snoc:∀{is:List Int}{d:D}{v:V}{F:LAd}{dm:D}{w:V}{Gm:LAd}{i:Int}{d':D}{v':V}{G:LAd},Focus K H is d v F dm w Gm->Focus K H [i] dm w Gm d' v' G->Focus K H (is++[i]) d v F d' v' G
 | [],_,_,_,_,_,_,_,_,_,_,h,g=>by
  obtain⟨rfl,rfl,rfl,r⟩:=h;exact g
 | k::is,_,_,_,_,_,_,_,_,_,_,h,g=>by
  obtain⟨ds,a,vs,j,F1,G,F2,d',v',h1,h2,h3,h4,h5,h6,h7,h8,h9⟩:=h;exact⟨ds,a,vs,j,F1,G,F2,d',v',h1,h2,h3,h4,h5,h6,h7,h8,h9.snoc g⟩
noncomputable def Qbf:D->List Int->Option D
 | d,[]=>some d
 | d,i::is=>(d.items).bind λds=>(atI ds i).bind λd'=>Qbf d' is
theorem QlG:∀{is:List Int}{d:D}{i:Int}{d':D},Qbf d (is++[i])=some d'->∃dm ds,Qbf d is=some dm/\dm.items=some ds/\atI ds i=some d'
 | [],d,i,d',h=>by
  refine Qj h λds h1 h=>?_;refine Qj h λd'' h2 h=>?_;cases h;exact⟨d,ds,rfl,h1,h2⟩
 | k::is,d,i,d',h=>by
  refine Qj h λds h1 h=>?_;refine Qj h λd'' h2 h=>?_;obtain⟨dm,es,h3,h4,h5⟩:=QlG h;refine⟨dm,es,?_,h4,h5⟩;simp only[Qbf,h1,h2,Za,h3]
noncomputable def Qbi:List Int->D->D->D
 | [],_,new=>new
 | i::is,.lst ds,new=>match ixN ds.length i with
  | some j=> .lst (ds.set j (Qbi is (ds.getD j .non) new))
  | none=> .lst ds
 | i::is,.tup ds,new=>match ixN ds.length i with
  | some j=> .tup (ds.set j (Qbi is (ds.getD j .non) new))
  | none=> .tup ds
 | _::_,d,_=>d
theorem Qkb:∀{ds:List D}{j:Nat}{d e:D},ds[j]? =some d->nls (ds.set j e)+d.nl=nls ds+e.nl
 | [],_,_,_,h=>by simp at h
 | x::ds,0,d,e,h=>by simp at h;subst h;simp only[List.set_cons_zero,nls];omega
 | x::ds,j+1,d,e,h=>by
  have:=Qkb (e:=e) (by simpa using h);simp only[List.set_cons_succ,nls];omega
theorem Qb9:∀(as bs:List D),nls (as++bs)=nls as+nls bs
 | [],bs=>by simp[nls]
 | a::as,bs=>by simp only[ZbK,nls,Qb9 as bs];omega
theorem Focus.mut:∀{is:List Int}{d:D}{v:V}{F:LAd}{Gm:LAd},Focus K H is d v F (.lst dsm) (.ref p) Gm->F.Nodup->F.length=d.nl→
  ∃vsm Gp,H p=some (.lst vsm)/\Gm=p::Gp/\Rps K H dsm vsm Gp/\Gp.length=nls dsm/\p∈F/\(∀a∈Gp,a∈F)/\p∉Gp∧
   (Rps K (upd H p (.lst vs')) ds' vs' G'->ds'.length<=sizeLine->G'.length=nls ds'→
    ∃F',Rp K (upd H p (.lst vs')) (Qbi is d (.lst ds')) v F'/\F'.length=(Qbi is d (.lst ds')).nl/\∀a,F'.count a+Gp.count a=F.count a+G'.count a)
 | [],d,v,F,Gm,h,nd,hl=>by
  obtain⟨rfl,rfl,rfl,r⟩:=h;simp only[Rp]at r;obtain⟨hz,a,vs,e,h⟩:=r;cases e;rcases h with⟨L,rfl,q,rl⟩ | ⟨q,rl⟩
  ·obtain⟨n1,n2⟩:=ZaF.mp nd;have hl':L.length=nls dsm:=by simp only[D.nl,ZJ]at hl;omega
   refine⟨vs,L,q,rfl,rl,hl',Zm,λa ha=>Zc _ ha,n1,λr' hz' hl2=>⟨p::G',Rp.Qep Qau r' hz',?_,λa=>?_⟩⟩
   ·simp only[Qbi,D.nl,ZJ,hl2]
   ·rw[ZaZ,ZaZ];omega
  ·have:=rl.QaR;simp only[D.nl]at hl;omega
 | i::is,d,v,F,Gm,h,nd,hl=>by
  obtain⟨ds,a,vs,j,F1,G,F2,d',v',rfl,hj,h3,h4,h5,h6,h7,h8,h9⟩:=h;have hjl:j<ds.length:=(Zi.mp h6).1;have gd:ds.getD j .non=d':=by rw[ZaS,h6];rfl
  have l1:=h4.QaR;have l2:=h5.QaR;have l3:=h9.Qs7.QaR;have nlsplit:nls (ds.take j)+(d'.nl+nls (ds.drop (j+1)))=nls ds:=by
   have e1:ds=ds.take j++d'::ds.drop (j+1):=by
    have:ds[j]=d':=(Zi.mp h6).2;rw[← this,← Zax hjl,ZaH]
   have e2:=congrArg nls e1;rw[Qb9]at e2;simp only[nls]at e2;exact e2.symm
  have core:(F1++(G++F2)).Nodup->(F1++(G++F2)).length=nls ds->_:=λnd' hl'=>by
   simp only[Zx]at hl';have hG:G.length=d'.nl:= ⋯
   have ndG:G.Nodup:=(ZbE.mp (ZbE.mp nd').2.1).1;exact(h9.mut (vs':=vs') (ds':=ds') (G':=G') ndG hG)
  have apart:(F1++(G++F2)).Nodup->p∈G->p∉F1/\p∉F2:=λnd' hp=>by
   have n1:=ZbE.mp nd';have n2:=ZbE.mp n1.2.1;exact⟨λh=>n1.2.2 p h p (Zl _ hp) rfl,λh=>n2.2.2 p hp p h rfl⟩
  have cnt:∀(G'' Gp:LAd),(∀a,G''.count a+Gp.count a=G.count a+G'.count a)->∀a,(F1++(G''++F2)).count a+Gp.count a=(F1++(G++F2)).count a+G'.count a:=λG'' Gp hc a=>by
   have:=hc a;simp only[Zaz];omega
  rcases h3 with⟨rfl,hz,⟨rfl,q⟩ | ⟨rfl,q⟩⟩ | ⟨rfl,rfl,q⟩
  ·
   obtain⟨n1,n2⟩:=ZaF.mp nd;have hl':(F1++(G++F2)).length=nls ds:=by simp only[D.nl,ZJ]at hl;omega
   obtain⟨vsm,Gp,e1,e2,e3,e4,e5,e6,e7,e8⟩:=core n2 hl';have ap:=apart n2 e5;have hap:a≠p:=λz=>n1 (by rw[z];exact Zf _ (Zl _ e5));refine⟨vsm,Gp,e1,e2,e3,e4,Zc _ (Zf _ (Zl _ e5)),λb hb=>Zc _ (Zf _ (Zl _ (e6 b hb))),e7,λr' hz' hl2=>?_⟩;obtain⟨G'',f1,f2,f3⟩:=e8 r' hz' hl2;have j1:=Rps.join (h4.upd e1 ap.1) f1 (h5.upd e1 ap.2) hjl h7;refine⟨a::(F1++(G''++F2)),?_,?_,λb=>?_⟩
   ·simp only[Qbi,hj,gd];exact Rp.Qep (by rw[Q0 hap];exact q) j1 (by rw[Zaf];exact hz)
   ·have:=Qkb (e:=Qbi is d' (.lst ds')) h6;simp only[Qbi,hj,gd,D.nl,ZJ,Zx,f2]at hl' ⊢;omega
   ·have:=cnt G'' Gp f3 b;rw[ZaZ,ZaZ];omega
  ·have:(F1++(G++F2)).length<=nls ds:=by simp only[Zx];omega
   simp only[D.nl]at hl;omega
  ·
   have hl':(F1++(G++F2)).length=nls ds:=by simpa only[D.nl]using hl
   obtain⟨vsm,Gp,e1,e2,e3,e4,e5,e6,e7,e8⟩:=core nd hl';have ap:=apart nd e5;refine⟨vsm,Gp,e1,e2,e3,e4,Zf _ (Zl _ e5),λb hb=>Zf _ (Zl _ (e6 b hb)),e7,λr' hz' hl2=>?_⟩;obtain⟨G'',f1,f2,f3⟩:=e8 r' hz' hl2;have j1:=Rps.join (h4.upd e1 ap.1) f1 (h5.upd e1 ap.2) hjl h7;refine⟨F1++(G''++F2),?_,?_,cnt G'' Gp f3⟩
   ·simp only[Qbi,hj,gd,Rp];exact⟨a,vs,rfl,Qq2 e1 q,j1⟩
   ·have:=Qkb (e:=Qbi is d' (.lst ds')) h6;simp only[Qbi,hj,gd,D.nl,Zx,f2]at hl' ⊢;omega
end
end HS
namespace HS
open PySem PySem.Spec L2
section
theorem Rel.mut(rel:Rel K H0 A0 hs ρ F σ H)(p:Qaj K ρ F H H1 r vn Gn)(hf:r.fr=true)(nd:r.M.Nodup)(s12:QU H1 H2)(hx:ρ[x]? =some (some (d,true)))(hxM:x∉r.M)(hv0:σ[x]? =some (some v0))
  {dnew:D}{q:Addr}{F':LAd}{vsm vs':List V}(e1:H2 q=some (.lst vsm)) (e5:q∈F x) (f1:Rp K (upd H2 q (.lst vs')) dnew v0 F') (f2:F'.length=dnew.nl) (cF:∀a,F'.count a<=(F x).count a+Gn.count a):
  ∃F',Rel K H0 A0 hs ((kill r.M ρ).set x (some (dnew,true))) F' σ (upd H2 q (.lst vs')):=by
 obtain⟨ol,on,o0,oap,oh⟩:=rel.own x d hx;obtain⟨gn,gs⟩:=p.fresh rel hf nd;have rel2:=(rel.ext p.same).ext s12;have relk:=rel2.weak (Qdc r.M ρ);have apn:∀a∈Gn,a∉F x:=λa ha hax=>by
  rcases(gs a ha).2 with z | ⟨k,d',hk,ek,hak⟩
  ·obtain⟨vs,w⟩:=rel.mem hx hax;rw[z]at w;cases w
  ·have:k≠x:=λz=>hxM (z▸hk);exact oap k d' true this ek a hax hak
 have memF:∀a∈F',a∈F x∨a∈Gn:=λa ha=>by
  have h1:=cF a;have h2:0<F'.count a:=Zap.mpr ha;by_cases h:a∈F x
  ·exact .inl h
  ·rw[ZW.mpr h]at h1;exact .inr (Zap.mp ⋯)
 have apart:∀(j:Nat) d' b,j≠x->(kill r.M ρ)[j]? =some (some (d',b))->∀a∈F',a∉F j:=λj d' b hj e a ha haj=>by
  obtain⟨b',e',_⟩:=(Qdc r.M ρ).2 j d' b e;rcases memF a ha with h | h
  ·exact oap j d' b' hj e' a h haj
  ·rcases(gs a h).2 with z | ⟨k,d'',hk,ek,hak⟩
   ·obtain⟨vs,w⟩:=rel.mem e' haj;rw[z]at w;cases w
   ·have hjk:j≠k:=λz=>by subst z;exact QjK r.M ρ j d' b hk e
    exact(rel.own k d'' ek).2.2.2.1 j d' b' hjk e' a hak haj
 have apartH:∀t∈hs,∀a∈F',a∉t.2.2:=λt ht a ha hat=>by
  rcases memF a ha with h | h
  ·exact oh t ht a h hat
  ·rcases(gs a h).2 with z | ⟨k,d'',hk,ek,hak⟩
   ·obtain⟨vs,w⟩:=(rel.held t ht).1.mem a hat
    rw[z]at w;cases w
   ·exact(rel.own k d'' ek).2.2.2.2 t ht a hak hat
 have nqj:∀(j:Nat) d' b,j≠x->ρ[j]? =some (some (d',b))->q∉F j:=λj d' b hj e h=>oap j d' b hj e q e5 h;have nF':F'.Nodup:=Zau.mpr λa=>by
  have h1:=cF a;have h2:=Zau.mp on a;have h3:=Zau.mp gn a;by_cases h:a∈Gn
  ·rw[ZW.mpr (apn a h)]at h1;omega
  ·rw[ZW.mpr h]at h1;omega
 have lt:∀{j:Nat}{z:Option (D×Bool)}{y:D×Bool},((kill r.M ρ).set j z)[j]? =some (some y)->j<(kill r.M ρ).length:=λ{j z y} e=>by
  by_cases hl:j<(kill r.M ρ).length
  ·exact hl
  ·rw[Zu (by simp;omega)]at e;cases e
 refine⟨λj=>if j=x then F' else F j,by simp[relk.len],λj d' b e=>?_,λj d' e=>?_,λj d' b e a ha=>?_,λt ht=>⟨(relk.held t ht).1.upd e1 λh=>oh t ht q e5 h,(relk.held t ht).2⟩,λb o hb=>?_⟩
 ·by_cases hj:j=x
  ·subst hj;have hl:=lt e;rw[Zs hl]at e;cases e;exact⟨v0,hv0,by rw[if_pos rfl];exact f1⟩
  ·rw[Zd (Ne.symm hj)]at e;obtain⟨w,h1,h2⟩:=relk.val j d' b e;obtain⟨b',e',_⟩:=(Qdc r.M ρ).2 j d' b e;exact⟨w,h1,by rw[if_neg hj];exact h2.upd e1 (nqj j d' b' hj e')⟩
 ·by_cases hj:j=x
  ·subst hj;have hl:=lt e;rw[Zs hl]at e;cases e;rw[if_pos rfl];refine⟨f2,nF',λa ha=>?_,λk d'' b hk ek a ha=>?_,apartH⟩
   ·rcases memF a ha with h | h
    ·exact o0 a h
    ·exact(gs a h).1
   ·rw[Zd (Ne.symm hk)]at ek;rw[if_neg hk];exact apart k d'' b hk ek a ha
  ·rw[Zd (Ne.symm hj)]at e;obtain⟨h1,h2,h3,h4,h5⟩:=relk.own j d' e;rw[if_neg hj];refine⟨h1,h2,h3,λk d'' b hk ek a ha=>?_,h5⟩;by_cases hki:k=x
   ·subst hki;rw[if_pos rfl];exact λhG=>apart j d' true hj e a hG ha
   ·rw[Zd (Ne.symm hki)]at ek;rw[if_neg hki];exact h4 k d'' b hk ek a ha
 ·by_cases hj:j=x
  ·subst hj;rw[if_pos rfl]at ha;rcases memF a ha with h | h
   ·exact .inl (o0 a h)
   ·exact .inl (gs a h).1
  ·rw[Zd (Ne.symm hj)]at e;rw[if_neg hj]at ha;exact relk.src j d' b e a ha
 ·have hbq:b≠q:=λz=>by rw[z,o0 q e5]at hb;cases hb
  rw[Q0 hbq];exact relk.same b o hb
end
noncomputable abbrev DP:=En->Option (List Int)
noncomputable def Qaf:DP:=λ_=>some []
noncomputable def Qci(p:DP)(fb:DE):DP:=λρ=>(p ρ).bind λis=>(fb ρ).bind λr=>match r.d with
 | .int i=>some (is++[i])
 | _=>none
noncomputable def tP(K:Fgg)(H0:Hp)(A0:LAd)(x:Nat)(pf:DP):TE:=λσ H Q=>∃ρ hs F d b is dm,Rel K H0 A0 hs ρ F σ H/\ρ[x]? =some (some (d,b))/\pf ρ=some is/\Qbf d is=some dm∧
 ∀v0 v H' Gm,QU H H'->σ[x]? =some (some v0)->Focus K H' is d v0 (F x) dm v Gm->Q v H'
def SPa(X:Cx)(e:Expr)(x:Nat)(pf:DP):Prop:=∀H0 A0,PE X e (tP X.K H0 A0 x pf)
section
theorem QdZ(h:PE X (.Name y pos) (Qhb x)):SPa X (.Name y pos) x Qaf:=λH0 A0=>h.mono λσ H Q Z=>by
 obtain⟨ρ,hs,F,d,b,is,dm,rel,hx,hp,hd,q⟩:=Z;cases hp;cases hd;obtain⟨v,h1,h2⟩:=rel.val x d b hx;exact⟨v,h1,q v v H (F x) (QU.refl _) h1 ⟨rfl,rfl,rfl,h2⟩⟩
theorem Qht(ha:SPa X a x pf)(hb:SE X b fb)(hs:Qj9 b):SPa X (.Subscript a b pos) x (Qci pf fb):=λH0 A0=>
 (Qxm (Qq1.or Qte) (ha H0 A0) (hb H0 A0) hs).mono λσ H Q Z=>by
  obtain⟨ρ,hs,F,d,b',is,dm,rel,hx,hp,hd,q⟩:=Z;refine Qj hp λis' e1 hp=>?_;refine Qj hp λr e2 hp=>?_;cases hr:r.d with
  | int i=>
   rw[hr]at hp;cases hp;obtain⟨dn,ds,g1,g2,g3⟩:=QlG hd;refine⟨ρ,hs,F,d,b',is',dn,rel,hx,e1,g1,λv0 w H1 Gm s1 hv fo=>⟨ρ,hs,F,r,rel.ext s1,e2,λu H2 G p2=>?_⟩⟩;have rp:=p2.rp;rw[hr]at rp;rw[rp.int_inv];have fo2:=fo.same p2.same;obtain⟨c,vs,v',G',rfl,hc,h3,h4⟩:=Focus.one fo2.rp g2 g3;have fin:=q v0 v' H2 G' (s1.trans p2.same) hv (fo2.snoc h4);rcases hc with⟨_,hc⟩ | ⟨_,hc⟩
   ·exact .inl ⟨c,vs,i,v',rfl,rfl,hc,h3,fin⟩
   ·exact .inr ⟨c,vs,i,v',rfl,rfl,hc,h3,fin⟩
  | _=>rw[hr]at hp;cases hp
noncomputable def QbW(x:Nat)(pf:DP)(fi fa:DE):DS:=λρ=>(fa ρ).bind λr0=>match ρ[x]? with
 | some (some (d,true))=>(pf ρ).bind λis=>(fi ρ).bind λri=>match ri.d,Qbf d is with
  | .int k,some (.lst ds)=>(ixN ds.length k).bind λj=>if r0.norm.fr && decide r0.norm.M.Nodup && !r0.norm.M.contains x then some (.nx ((kill r0.norm.M ρ).set x (some (Qbi is d (.lst (ds.set j r0.d)),true))))else
   if is.isEmpty && !r0.norm.M.contains x then some (.nx ((Qbr r0.norm.M ρ).set x (some (.lst (ds.set j r0.d),false))))else
   none
  | _,_=>none
 | _=>none
theorem set_mk(hq:H2 q=some (.lst vsm))(rs:Rps K H2 dsm vsm Gp)(hl:Gp.length=nls dsm)(nq:q∉Gp)(nqn:q∉Gn)(hn:Rp K H2 dn vn Gn)(hnl:Gn.length=dn.nl)(hj:j<dsm.length):
  ∃G',Rps K (upd H2 q (.lst (vsm.set j vn))) (dsm.set j dn) (vsm.set j vn) G'/\G'.length=nls (dsm.set j dn)/\∀a,G'.count a<=Gp.count a+Gn.count a:=by
 obtain⟨F1,G,F2,v,e1,e2,h1,h2,h3⟩:=rs.split (j:=j) (d:=dsm[j]) (by simp[hj]);subst e1;have hjv:j<vsm.length:=by rw[← rs.length];exact hj
 have n1:q∉F1:=λh=>nq (Zl _ h);have n2:q∉F2:=λh=>nq (Zf _ (Zf _ h));refine⟨F1++(Gn++F2),Rps.Qxd (h1.upd hq n1) (hn.upd hq nqn) (h3.upd hq n2) hj hjv,?_,λa=>?_⟩
 ·have:=Qkb (ds:=dsm) (j:=j) (d:=dsm[j]) (e:=dn) (by simp[hj]);have l1:=h1.QaR;have l2:=h2.QaR;have l3:=h3.QaR;have e1:nls (dsm.take j)+((dsm[j]).nl+nls (dsm.drop (j+1)))=nls dsm:=by
   have e2:=congrArg nls (ZaH j dsm);rw[Qb9,Zax hj]at e2;simpa only[nls]using e2
  simp only[Zx]at hl ⊢;omega
 ·simp only[Zaz];omega
theorem Qaj.Qg1(p:Qaj K ρ F H H1 r v G)(s:QU H1 H2):Qaj K ρ F H H2 r v G:=⟨p.same.trans s,p.rp.same s,p.src,p.cnt,p.own⟩
theorem Qnc(hq:H2 q=some (.lst vsm))(rs:Rps K H2 dsm vsm Gp)(nq:q∉Gp)(nqn:q∉Gn)(hn:Rp K H2 dn vn Gn)(hj:j<dsm.length):
  ∃G',Rps K (upd H2 q (.lst (vsm.set j vn))) (dsm.set j dn) (vsm.set j vn) G'/\∀a∈G',a∈Gp∨a∈Gn:=by
 obtain⟨F1,G,F2,v,e1,e2,h1,h2,h3⟩:=rs.split (j:=j) (d:=dsm[j]) (by simp[hj]);subst e1;have hjv:j<vsm.length:=by rw[← rs.length];exact hj
 have n1:q∉F1:=λh=>nq (Zl _ h);have n2:q∉F2:=λh=>nq (Zf _ (Zf _ h));refine⟨F1++(Gn++F2),Rps.Qxd (h1.upd hq n1) (hn.upd hq nqn) (h3.upd hq n2) hj hjv,λa ha=>?_⟩;rcases ZH.mp ha with h | h
 ·exact .inl (Zl _ h)
 ·rcases ZH.mp h with h | h
  ·exact .inr h
  ·exact .inl (Zf _ (Zf _ h))
theorem QkL:∀(M:List Nat) (ρ:En) (x:Nat),x∉M->(Qbr M ρ)[x]? =ρ[x]?
 | [],ρ,x,_=>rfl
 | i::M,ρ,x,h=>by
  have hi:i≠x:=λe=>h (e▸Zm);unfold Qbr;rw[QkL M _ x λe=>h (Zc _ e)];split
  ·rw[Zd hi]
  ·rfl
theorem Rel.QDj(rel:Rel K H0 A0 hs ρ F σ H)(hx:ρ[x]? =some (some (d,true)))(sh:Shr H0 A0 ρ F Gn)(hv0:σ[x]? =some (some v0))
  {dnew:D}{q:Addr}{G':LAd}{vsm vs':List V}(e1:H q=some (.lst vsm)) (e5:q∈F x) (f1:Rp K (upd H q (.lst vs')) dnew v0 G') (mem:∀a∈G',a∈F x∨a∈Gn):
  ∃F',Rel K H0 A0 hs (ρ.set x (some (dnew,false))) F' σ (upd H q (.lst vs')):=by
 obtain⟨ol,on,o0,oap,oh⟩:=rel.own x d hx;have lt:∀{j:Nat}{z:Option (D×Bool)}{y:D×Bool},(ρ.set j z)[j]? =some (some y)->j<ρ.length:=λ{j z y} e=>by
  by_cases hl:j<ρ.length
  ·exact hl
  ·rw[Zu (by simp;omega)]at e;cases e
 refine⟨λj=>if j=x then G' else F j,by simp[rel.len],λj d' b e=>?_,λj d' e=>?_,λj d' b e a ha=>?_,λt ht=>⟨(rel.held t ht).1.upd e1 λh=>oh t ht q e5 h,(rel.held t ht).2⟩,λb o hb=>?_⟩
 ·by_cases hj:j=x
  ·subst hj;have hl:=lt e;rw[Zs hl]at e;cases e;exact⟨v0,hv0,by rw[if_pos rfl];exact f1⟩
  ·rw[Zd (Ne.symm hj)]at e;obtain⟨w,h1,h2⟩:=rel.val j d' b e;exact⟨w,h1,by rw[if_neg hj];exact h2.upd e1 λh=>oap j d' b hj e q e5 h⟩
 ·by_cases hj:j=x
  ·subst hj;have hl:=lt e;rw[Zs hl]at e;cases e
  ·rw[Zd (Ne.symm hj)]at e;obtain⟨h1,h2,h3,h4,h5⟩:=rel.own j d' e;rw[if_neg hj];refine⟨h1,h2,h3,λk d'' b hk ek a ha=>?_,h5⟩;by_cases hki:k=x
   ·subst hki;rw[if_pos rfl];intro hG;rcases mem a hG with h | h
    ·exact h4 k d true (Ne.symm hj) hx a ha h
    ·exact(sh a h).2 j d' e ha
   ·rw[Zd (Ne.symm hki)]at ek;rw[if_neg hki];exact h4 k d'' b hk ek a ha
 ·by_cases hj:j=x
  ·subst hj;rw[if_pos rfl]at ha;rcases mem a ha with h | h
   ·exact .inl (o0 a h)
   ·exact(sh a h).1
  ·rw[Zd (Ne.symm hj)]at e;rw[if_neg hj]at ha;exact rel.src j d' b e a ha
 ·have hbq:b≠q:=λz=>by rw[z,o0 q e5]at hb;cases hb
  rw[Q0 hbq];exact rel.same b o hb
theorem QAa(hv:SE X e fa)(ho:SPa X a x pf)(hi:SE X i fi)
  (h:∀te to ti,PE X e te->PE X a to->PE X i ti->PS X (.Assign [.Subscript a i pos'] e pos) (QeS te (L2.QaG to ti QgQ))):S1 X (.Assign [.Subscript a i pos'] e pos) (QbW x pf fi fa):=λH0 A0=>
 (h _ _ _ (hv H0 A0) (ho H0 A0) (hi H0 A0)).mono λE σ H=>exK λρ hs F o rel e q=>by
  refine Qj e λr0 e1 e=>?_;split at e
  ·rename_i d hx;refine Qj e λis e2 e=>?_;refine Qj e λri e3 e=>?_;split at e
   ·rename_i k ds hk hp;refine Qj e λj e4 e=>?_;split at e
    ·rename_i hc;cases e;simp only[Zg,decide_eq_true_eq,ZaM]at hc;obtain⟨⟨c1,c2⟩,c3⟩:=hc;have c3:x∉r0.norm.M:=λh=>by rw[ZbJ.mpr h]at c3;cases c3
     refine⟨ρ,hs,F,r0,rel,e1,λvn H1 Gn p=>⟨ρ,hs,F,d,true,is,.lst ds,rel.ext p.same,hx,e2,hp,λv0 w H2 Gm s2 hv0 fo=>⟨ρ,hs,F,ri,(rel.ext p.same).ext s2,e3,λu H3 Gi pi=>?_⟩⟩⟩;have p':=(p.norm.Qg1 s2).Qg1 pi.same;have fo3:=fo.same pi.same;have rpi:=pi.rp;rw[hk]at rpi;rw[rpi.int_inv];obtain⟨l,ws,L,rfl,_⟩:=fo3.rp.lst_inv;obtain⟨ol,on,_,oap,_⟩:=rel.own x d hx;have hjl:=(Qcw e4).2.1;obtain⟨gn,gs⟩:=p'.fresh rel c1 c2;have rn:=p'.rp;rw[r0.QcN]at rn;have hnl:=(p'.cnt c1).2;rw[r0.QcN]at hnl;obtain⟨vsm,_,f1,_⟩:=fo3.mut (vs':=[]) (ds':=[]) (G':=[]) on ol;obtain⟨_,_,_,_,_,_,zl,_⟩:=fo3.rp.lst_inv;have key:∃F',Rp X.K (upd H3 l (.lst (vsm.set j vn))) (Qbi is d (.lst (ds.set j r0.d))) v0 F'/\F'.length=(Qbi is d (.lst (ds.set j r0.d))).nl/\l∈F x/\ds.length=vsm.length/\∀a,F'.count a<=(F x).count a+Gn.count a:=by
      have own5:∀G',_:=λG'=>fo3.mut (vs':=vsm.set j vn) (ds':=ds.set j r0.d) (G':=G') on ol;obtain⟨vs1,Gp,g1,g2,g3,g4,g5,g6,g7,_⟩:=own5 [];rw[f1]at g1;cases g1;have hq:l∉Gn:=λh=>by
       rcases(gs l h).2 with z | ⟨k',d',hk',ek,hak⟩
       ·obtain⟨vs,w⟩:=rel.mem hx g5;rw[z]at w;cases w
       ·exact oap k' d' true (λz=>c3 (z▸hk')) ek l g5 hak
      obtain⟨G',m1,m2,m3⟩:=set_mk f1 g3 g4 g7 hq rn hnl hjl;obtain⟨vs2,Gp2,k1,k2,k3,k4,k5,k6,k7,k8⟩:=own5 G';have eG:Gp2=Gp:=by rw[g2]at k2;exact(List.cons.inj k2).2.symm
      subst eG;obtain⟨F',h1,h2,h3⟩:=k8 m1 (by rw[Zaf];exact zl) m2;exact⟨F',h1,h2,g5,g3.length,λa=>by have:=h3 a;have:=m3 a;omega⟩
     obtain⟨F',k1,k2,k3,k4,k5⟩:=key;refine⟨l,vsm,k,j,rfl,rfl,f1,by rw[← k4];exact e4,?_⟩;obtain⟨F'',rel'⟩:=rel.mut p' c1 c2 (QU.refl _) hx c3 hv0 f1 k3 k1 k2 k5;exact q _ _ F'' rel'
    ·
     split at e
     ·rename_i hc;cases e;simp only[Zg,ZaM,List.isEmpty_iff]at hc;obtain⟨rfl,c3⟩:=hc;have c3:x∉r0.norm.M:=λh=>by rw[ZbJ.mpr h]at c3;cases c3
      refine⟨ρ,hs,F,r0,rel,e1,λvn H1 Gn p=>⟨ρ,hs,F,d,true,[],.lst ds,rel.ext p.same,hx,e2,hp,λv0 w H2 Gm s2 hv0 fo=>⟨ρ,hs,F,ri,(rel.ext p.same).ext s2,e3,λu H3 Gi pi=>?_⟩⟩⟩;have p':=(p.norm.Qg1 s2).Qg1 pi.same;have fo3:=fo.same pi.same;have rpi:=pi.rp;rw[hk]at rpi;rw[rpi.int_inv];obtain⟨l,ws,L,rfl,_⟩:=fo3.rp.lst_inv;obtain⟨ol,on,_,oap,_⟩:=rel.own x d hx;have hjl:=(Qcw e4).2.1;have rn:=p'.rp;rw[r0.QcN]at rn;obtain⟨vsm,Gp,f1,g2,g3,g4,g5,g6,g7,_⟩:=fo3.mut (vs':=[]) (ds':=[]) (G':=[]) on ol;obtain⟨_,_,_,_,_,_,zl,_⟩:=fo3.rp.lst_inv;have sh:=Shr.of rel p'.src;have relD:=(rel.ext p'.same).weak (Qby r0.norm.M ρ);have hxD:(Qbr r0.norm.M ρ)[x]? =some (some (d,true)):=by rw[QkL _ _ _ c3];exact hx
      have hq:l∉Gn:=λh=>(sh l h).2 x d hxD g5;obtain⟨G',m1,m3⟩:=Qnc f1 g3 g7 hq rn hjl;have e0:v0= .ref l:=(fo3.2.1).symm;subst e0;refine⟨l,vsm,k,j,rfl,rfl,f1,by rw[← g3.length];exact e4,?_⟩;obtain⟨F'',rel'⟩:=relD.QDj (dnew:= .lst (ds.set j r0.d)) (G':=l::G') (vs':=vsm.set j vn) hxD sh hv0 f1 g5 (Rp.Qep Qau m1 (by rw[Zaf];exact zl)) λa ha=>by
       rcases Zo.mp ha with h | h
       ·exact .inl (h▸g5)
       ·rcases m3 a h with h | h
        ·exact .inl (g6 a h)
        ·exact .inr h
      exact q _ _ F'' rel'
     ·
      cases e
   ·cases e
  ·cases e
end
section
variable {K:Fgg}{H0 H H1 H2 H3:Hp}{A0:LAd}{hs:List (V×D×List Addr)}{ρ:En}{F:Nat->List Addr}{σ:L2.St}
theorem Rel.write(rel:Rel K H0 A0 hs ρ F σ H)(p:Qaj K ρ F H H3 r vn Gn)(hf:r.fr=true)(nd:r.M.Nodup)(hx:ρ[x]? =some (some (d,true)))(hxM:x∉r.M)(hv0:σ[x]? =some (some v0))
  {is:List Int}{ds:List D}{Gm:LAd}(fo:Focus K H3 is d v0 (F x) (.lst ds) w Gm):
  ∃l vsm Gp,w= .ref l/\H3 l=some (.lst vsm)/\Rps K H3 ds vsm Gp/\Gp.length=nls ds/\l∉Gp/\l∉Gn/\ds.length<=sizeLine∧
   ∀ds' vs' G',Rps K (upd H3 l (.lst vs')) ds' vs' G'->ds'.length<=sizeLine->G'.length=nls ds'->(∀a,G'.count a<=Gp.count a+Gn.count a)→
    ∃F',Rel K H0 A0 hs ((kill r.M ρ).set x (some (Qbi is d (.lst ds'),true))) F' σ (upd H3 l (.lst vs')):=by
 obtain⟨l,ws,L,rfl,_,_,zl,_⟩:=fo.rp.lst_inv;obtain⟨ol,on,_,oap,_⟩:=rel.own x d hx;obtain⟨gn,gs⟩:=p.fresh rel hf nd;obtain⟨vsm,Gp,g1,g2,g3,g4,g5,g6,g7,_⟩:=fo.mut (vs':=[]) (ds':=[]) (G':=[]) on ol;have hq:l∉Gn:=λh=>by
  rcases(gs l h).2 with z | ⟨k',d',hk',ek,hak⟩
  ·obtain⟨vs,w⟩:=rel.mem hx g5;rw[z]at w;cases w
  ·exact oap k' d' true (λz=>hxM (z▸hk')) ek l g5 hak
 refine⟨l,vsm,Gp,rfl,g1,g3,g4,g7,hq,zl,λds' vs' G' m1 m2 m3 m4=>?_⟩;obtain⟨vs2,Gp2,k1,k2,k3,k4,k5,k6,k7,k8⟩:=fo.mut (vs':=vs') (ds':=ds') (G':=G') on ol;have eG:Gp2=Gp:=by rw[g2]at k2;exact(List.cons.inj k2).2.symm
 subst eG;obtain⟨F',h1,h2,h3⟩:=k8 m1 m2 m3;exact rel.mut p hf nd (QU.refl _) hx hxM hv0 g1 g5 h1 h2 λa=>by have:=h3 a;have:=m4 a;omega
end
section
variable {X:Cx}{a b e:Expr}{fa fb:DE}{pf:DP}{x:Nat}{pos apos:Pos}
noncomputable def Qoq(r:R)(x:Nat):Bool:=r.norm.fr && decide r.norm.M.Nodup && !r.norm.M.contains x
theorem Qt5(h:Qoq r x=true):r.norm.fr=true/\r.norm.M.Nodup/\x∉r.norm.M:=by
 unfold Qoq at h;simp only[Zg,decide_eq_true_eq,ZaM]at h;exact⟨h.1.1,h.1.2,λz=>by rw[ZbJ.mpr z]at h;cases h.2⟩
noncomputable def Qil(x:Nat)(pf:DP)(fa:DE):DS:=λρ=>match ρ[x]? with
 | some (some (d,true))=>(pf ρ).bind λis=>(fa ρ).bind λr0=>match Qbf d is with
  | some (.lst ds)=>if Qoq r0 x && decide (ds.length<sizeLine)then some (.nx ((kill r0.norm.M ρ).set x (some (Qbi is d (.lst (ds++[r0.d])),true))))else none
  | _=>none
 | _=>none
theorem QwD{H0:Hp}{A0:LAd}{E:Ends}{σ:L2.St}{H:Hp}:tS X.K H0 A0 (Qil x pf fa) E σ H->Qkj (tBM X.K "list" Qm4 (tP X.K H0 A0 x pf) (QcF (tV X.K H0 A0 fa) Qgo)) E σ H:=exK λρ hs F o rel e q=>by
 unfold Qil at e;split at e
 ·rename_i d hx;refine Qj e λis e2 e=>?_;refine Qj e λr0 e1 e=>?_;split at e
  ·rename_i ds hp;split at e
   ·rename_i hc;simp only[Zg,decide_eq_true_eq]at hc;obtain⟨c1,c2,c3⟩:=Qt5 hc.1;cases e;refine⟨ρ,hs,F,d,true,is,.lst ds,rel,hx,e2,hp,λv0 w H2 Gm s2 hv0 fo=>?_⟩;have ty:tyV X.K "list" w H2:=by
     obtain⟨l,ws,L,rfl,hl,_⟩:=fo.rp.lst_inv;exact .inl ⟨rfl,ws,Q6 hl⟩
    refine⟨ty,ρ,hs,F,r0,rel.ext s2,e1,λvn H3 Gn p=>?_⟩;have p':=p.norm;obtain⟨l,vsm,Gp,rfl,g1,g2,g3,g4,g5,g6,g7⟩:=(rel.ext s2).write p' c1 c2 hx c3 hv0 (fo.same p.same);refine⟨l,vsm,vn,rfl,rfl,g1,by rw[← g2.length];exact hc.2,?_⟩;have rn:=p'.rp;rw[r0.QcN]at rn;have hnl:=(p'.cnt c1).2;rw[r0.QcN]at hnl;have rw1:Rps X.K (upd H3 l (.lst (vsm++[vn]))) [r0.d] [vn] Gn:=by
     simp only[Rps];exact⟨vn,[],Gn,[],rfl,by simp,rn.upd g1 g5,rfl,rfl⟩
    obtain⟨F',rel'⟩:=g7 (ds++[r0.d]) (vsm++[vn]) (Gp++Gn) ((g2.upd g1 g4).append rw1) (by rw[Zx,Zbn];omega) (by rw[Zx,Qb9,g3,hnl];simp[nls]) (λa=>by rw[Zaz];omega);exact q _ _ F' rel'
   ·cases e
  ·cases e
 ·cases e
open PyProof.Rows in
theorem Qt1:QAG X (QAn X.K):=by
 intro pins s σ H o i ov iv Q I ro ri h;obtain⟨p,xs,k,v,rfl,rfl,hq,ha,q⟩:=h;cases ro;obtain⟨t,rfl⟩:=ri;obtain⟨its,r,pl,hz⟩:=I.list hq;obtain⟨j,h1,h2,h3,h4,h5⟩:=QmE ha;obtain⟨w,ew,rw'⟩:=r.get h2;have hl:=r.length;have hn:=QhR;by_cases h0:0<=k
 ·refine wpAny_getItem_list pl.isList h0 ⋯ (x:=w) ?_ ⟨v,H,I,rw',q⟩;have:k.toNat=j:=by
   rw[seqIndex_of h0 h5]at h1;exact Option.some.inj h1
  rw[this];simpa using ew
 ·refine wpAny_getItem_list_neg pl.isList ⋯ (by rw[Zv]<;>omega) ⋯ (x:=w) ?_ ⟨v,H,I,rw',q⟩;have hj:(k+(its.toArray.size:Int)).toNat=j:=by
   rw[seqIndex_neg ⋯ h4]at h1;rw[Zv,← hl];exact Option.some.inj h1
  rw[hj];simpa using ew
noncomputable def Qej(g:D->D->Option D)(x:Nat)(pf:DP)(fi fa:DE):DS:=λρ=>match ρ[x]? with
 | some (some (d,true))=>(pf ρ).bind λis=>(fi ρ).bind λri=>match ri.d,Qbf d is with
  | .int k,some (.lst ds)=>(ixN ds.length k).bind λj=>(ds[j]?).bind λold=>(fa ρ).bind λr=>(g old r.d).map λnew=> .nx (ρ.set x (some (Qbi is d (.lst (ds.set j new)),true)))
  | _,_=>none
 | _=>none
theorem Qx0(ho:OpR X (inplaceOp op) r)(hg:Qce X.K g r)(hv:SE X e fa)(hp:SPa X a x pf)(hi:SE X i fi)
  (ha:∀ov iv new,augStore i ov iv new=(do holding [new,ov,iv] (setItem ov iv new);release [new,ov,iv] [];pure .next)):S1 X (.AugAssign (.Subscript a i pos') op e pos) (Qej g x pf fi fa):=λH0 A0=>
 (Qzl (hp H0 A0) (hi H0 A0) Qt1 (hv H0 A0) (λpins s σ H x y v u Q I rx ry q=>QCB ho I rx ry q) set_list ha).mono λE σ H=>exK λρ hs F o rel e q=>by
  unfold Qej at e;split at e
  ·rename_i d hx;refine Qj e λis e2 e=>?_;refine Qj e λri e3 e=>?_;split at e
   ·rename_i k ds hk hp';refine Qj e λj e4 e=>?_;refine Qj e λold e5 e=>?_;refine Qj e λrv e6 e=>?_;obtain⟨new,e7,e⟩:=Zk.mp e;subst e;have hjl:=(Qcw e4).2.1;refine⟨ρ,hs,F,d,true,is,.lst ds,rel,hx,e2,hp',λv0 w H2 Gm s2 hv0 fo=>⟨ρ,hs,F,ri,rel.ext s2,e3,λu H3 Gi pi=>?_⟩⟩;have fo3:=fo.same pi.same;have rpi:=pi.rp;rw[hk]at rpi;rw[rpi.int_inv];have at3:atI ds k=some old:=by unfold atI;rw[e4];exact e5
    obtain⟨l,vs,v',Go,rfl,hc,h3,h4⟩:=Focus.one fo3.rp rfl at3;have hc:SqL X.K H3 l vs:=by
     rcases hc with⟨_,hc⟩ | ⟨hc,_⟩
     ·exact hc
     ·cases hc
    refine⟨l,vs,k,v',rfl,rfl,hc,h3,ρ,hs,F,rv,(rel.ext s2).ext pi.same,e6,λy H4 G4 p4=>?_⟩;have fo4:=fo3.same p4.same;have ro:=h4.rp.same p4.same;refine(hg _ _ _ e7).2 H4 v' y Go G4 _ ro p4.rp λz hz=>?_;have rel4:=((rel.ext s2).ext pi.same).ext p4.same;have pz:Qaj X.K ρ F H4 H4 ⟨new,true,[]⟩ z []:= .flat (QU.refl _) (hz H4) (hg _ _ _ e7).1;obtain⟨l',vsm,Gp,el,g1,g2,g3,g4,g5,g6,g7⟩:=rel4.write pz rfl ZaA hx (by simp) hv0 fo4;cases el;refine⟨l,vsm,k,j,rfl,rfl,g1,by rw[← g2.length];exact e4,?_⟩;obtain⟨G',m1,m2,m3⟩:=set_mk g1 g2 g3 g4 g5 (hz H4) (Qdm new (hg _ _ _ e7).1).symm hjl;obtain⟨F',rel'⟩:=g7 _ _ G' m1 (by rw[Zaf];exact g6) m2 m3;exact q _ _ F' rel'
   ·cases e
  ·cases e
end
end HS
namespace HS
open PySem PySem.Spec L2 PyProof.Rows
noncomputable def D.Qxn:D->Option Int
 | .int i=>some i
 | _=>none
noncomputable def Qel:List D->Option (List Int)
 | []=>some []
 | d::ds=>(d.Qxn).bind λi=>(Qel ds).map λr=>i::r
theorem Qdg:∀{ds:List D}{ns:List Int},Qel ds=some ns->ds=ns.map .int
 | [],_,h=>by cases h;rfl
 | d::ds,ns,h=>by
  unfold Qel at h;refine Qj h λi h1 h=>?_;obtain⟨r,h2,rfl⟩:=Zk.mp h;cases d with
  | int j=>cases h1;rw[Qdg h2];rfl
  | _=>cases h1
theorem Qii:∀(ns:List Int),Qel (ns.map D.int)=some ns
 | []=>rfl
 | n::ns=>by simp[Qel,Qii ns,D.Qxn]
theorem Rps.ints{K:Fgg}{H:Hp}:∀{ns:List Int}{vs:List V}{F:LAd},Rps K H (ns.map .int) vs F->vs=ns.map .int
 | [],_,_,h=>by simp only[List.map_nil,Rps]at h;rw[h.1];rfl
 | n::ns,_,_,h=>by
  simp only[ZM,Rps]at h;obtain⟨v,ws,F1,F2,rfl,rfl,r,q⟩:=h;rw[r.int_inv,Rps.ints q];rfl
theorem Qb5(h:QL (ns.map V.int) us):IntsAre us ns:=intsAre_of h
section
variable {X:Cx}{a b e:Expr}{es:List Expr}{fa fb:DE}{fs:DA}{pos p2:Pos}
noncomputable def QrX(K:Fgg)(C:List Int->Int->Prop):List V->Hp->VK->Prop:=λxs H Q=>∃(p:Addr) (ns:List Int),xs=[.ref p]/\(SqL K H p (ns.map V.int)∨SqT K H p (ns.map V.int))/\ns≠[]/\∀M,C ns M->Q (.int M) H
def Qmm(ns:List Int)(M:Int):Prop:=M∈ns/\∀a∈ns,M<=a
def isMax(ns:List Int)(M:Int):Prop:=M∈ns/\∀a∈ns,a<=M
theorem Qds(hi:IntsAre us ns):∃xs:Array (Int×Tok),us.toArray=intItems xs/\ns=xs.toList.map (·.1):=by
 obtain⟨xs,e⟩:=hi.allInts.items;exact⟨xs,e,by rw[← hi.numsOf,← nums_intItems,← e]⟩
theorem Qqj(hh:A.handled=none)(hl:s.heap.IsTuple l (intItems xs))(hne:0<xs.size)
  (h:∀v h' tk,(intItems xs)[argBest (λi j=>decide (numAt xs i<numAt xs j)) (xs.size-1)]? =some v->(∀b o,s.heap.get? b=some o->h'.get? b=some o)->Q v {s with heap:=h',toks:=tk}):
  wpAny (model prog w) A (call (.builtin "min") [.ref l]) Q E s:=by
 have hlt:l<s.heap.objs.size:=by obtain⟨_,e,_⟩:=hl;exact Zy e
 refine call_min_walk (wpAny_pyIter_tuple hl ?_);refine⟨_,[_,l],[_],_,_,_,_,rfl,Walks.tuple (A:=A.in1) hh _ l (Zaa hlt) (intItems xs),⟨⟨_,ZE _ rfl,rfl,rfl⟩,hl.push _⟩,λb hb=>?_,by simpa[intItems]using hne,CmpOf.ints_lt (numAt xs) (λ_ _=>intItems_at),λv h' tk hP hk=>?_⟩
 ·show b<(s.heap.push _).objs.size;rw[Zat];rcases Zo.mp hb with rfl | hb
  ·exact Zbr _
  ·rcases Zo.mp hb with rfl | hb
   ·exact Zbd hlt
   ·cases hb
 ·refine h v h' tk (by simpa[intItems]using hP) λb o e=>?_;refine hk b o (λhm=>?_) (Zb _ e);rcases Zo.mp hm with e1 | hm
  ·exact absurd (e1▸Zy e) (Zag _)
  ·cases hm
theorem QtT(hc:X.calm=true):Qc7 X (.builtin "min") (QrX X.K Qmm):=by
 intro pins s σ H xs us Q I r h;obtain⟨p,ns,rfl,hq,hne,q⟩:=h;obtain⟨u,rfl,rx⟩:=vals1 r;cases rx;rcases hq with hq | hq
 ·obtain⟨its,r',pl,hz⟩:=I.list hq;obtain⟨ys,e,hns⟩:=Qds (Qb5 r');have hl:=pl.isList;rw[e]at hl;have hsz:0<ys.size:=by
   rcases ZaT ys.size with z | z
   ·exact absurd (by rw[hns,Zbu];exact Zao (by simpa using z)) hne
   ·exact z
  refine min_intList (I.ok.hd hc) hl hsz λv h' tk hv hk=>?_;obtain⟨t,rfl⟩:=intItems_at hv;obtain⟨h1,h2⟩:=argBest_lt (numAt ys) (ys.size-1);refine⟨.int _,H,I.kept hk,⟨t,rfl⟩,q _ ⟨?_,λa ha=>?_⟩⟩
  ·rw[hns,numAt_eq];exact getD_mem (by rw[Zj,Zam];omega)
  ·rw[hns]at ha;obtain⟨j,hj,rfl⟩:=mem_getD ha;rw[Zj,Zam]at hj;rw[← numAt_eq];exact h2 j ⋯
 ·obtain⟨its,r',pl,hz⟩:=I.tuple hq;obtain⟨ys,e,hns⟩:=Qds (Qb5 r');have hl:=pl;rw[e]at hl;have hsz:0<ys.size:=by
   rcases ZaT ys.size with z | z
   ·exact absurd (by rw[hns,Zbu];exact Zao (by simpa using z)) hne
   ·exact z
  refine Qqj (I.ok.hd hc) hl hsz λv h' tk hv hk=>?_;obtain⟨t,rfl⟩:=intItems_at hv;obtain⟨h1,h2⟩:=argBest_lt (numAt ys) (ys.size-1);refine⟨.int _,H,I.kept hk,⟨t,rfl⟩,q _ ⟨?_,λa ha=>?_⟩⟩
  ·rw[hns,numAt_eq];exact getD_mem (by rw[Zj,Zam];omega)
  ·rw[hns]at ha;obtain⟨j,hj,rfl⟩:=mem_getD ha;rw[Zj,Zam]at hj;rw[← numAt_eq];exact h2 j ⋯
theorem Qpi(hh:A.handled=none)(hl:s.heap.IsTuple l (intItems xs))(hne:0<xs.size)
  (h:∀v h' tk,(intItems xs)[argBest (λi j=>decide (numAt xs i>numAt xs j)) (xs.size-1)]? =some v->(∀b o,s.heap.get? b=some o->h'.get? b=some o)->Q v {s with heap:=h',toks:=tk}):
  wpAny (model prog w) A (call (.builtin "max") [.ref l]) Q E s:=by
 have hlt:l<s.heap.objs.size:=by obtain⟨_,e,_⟩:=hl;exact Zy e
 refine call_max_walk (wpAny_pyIter_tuple hl ?_);refine⟨_,[_,l],[_],_,_,_,_,rfl,Walks.tuple (A:=A.in1) hh _ l (Zaa hlt) (intItems xs),⟨⟨_,ZE _ rfl,rfl,rfl⟩,hl.push _⟩,λb hb=>?_,by simpa[intItems]using hne,CmpOf.ints_gt (numAt xs) (λ_ _=>intItems_at),λv h' tk hP hk=>?_⟩
 ·show b<(s.heap.push _).objs.size;rw[Zat];rcases Zo.mp hb with rfl | hb
  ·exact Zbr _
  ·rcases Zo.mp hb with rfl | hb
   ·exact Zbd hlt
   ·cases hb
 ·refine h v h' tk (by simpa[intItems]using hP) λb o e=>?_;refine hk b o (λhm=>?_) (Zb _ e);rcases Zo.mp hm with e1 | hm
  ·exact absurd (e1▸Zy e) (Zag _)
  ·cases hm
theorem QtL(hc:X.calm=true):Qc7 X (.builtin "max") (QrX X.K isMax):=by
 intro pins s σ H xs us Q I r h;obtain⟨p,ns,rfl,hq,hne,q⟩:=h;obtain⟨u,rfl,rx⟩:=vals1 r;cases rx;rcases hq with hq | hq
 ·obtain⟨its,r',pl,hz⟩:=I.list hq;obtain⟨ys,e,hns⟩:=Qds (Qb5 r');have hl:=pl.isList;rw[e]at hl;have hsz:0<ys.size:=by
   rcases ZaT ys.size with z | z
   ·exact absurd (by rw[hns,Zbu];exact Zao (by simpa using z)) hne
   ·exact z
  refine max_intList (I.ok.hd hc) hl hsz λv h' tk hv hk=>?_;obtain⟨t,rfl⟩:=intItems_at hv;obtain⟨h1,h2⟩:=argBest_gt (numAt ys) (ys.size-1);refine⟨.int _,H,I.kept hk,⟨t,rfl⟩,q _ ⟨?_,λa ha=>?_⟩⟩
  ·rw[hns,numAt_eq];exact getD_mem (by rw[Zj,Zam];omega)
  ·rw[hns]at ha;obtain⟨j,hj,rfl⟩:=mem_getD ha;rw[Zj,Zam]at hj;rw[← numAt_eq];exact h2 j ⋯
 ·obtain⟨its,r',pl,hz⟩:=I.tuple hq;obtain⟨ys,e,hns⟩:=Qds (Qb5 r');have hl:=pl;rw[e]at hl;have hsz:0<ys.size:=by
   rcases ZaT ys.size with z | z
   ·exact absurd (by rw[hns,Zbu];exact Zao (by simpa using z)) hne
   ·exact z
  refine Qpi (I.ok.hd hc) hl hsz λv h' tk hv hk=>?_;obtain⟨t,rfl⟩:=intItems_at hv;obtain⟨h1,h2⟩:=argBest_gt (numAt ys) (ys.size-1);refine⟨.int _,H,I.kept hk,⟨t,rfl⟩,q _ ⟨?_,λa ha=>?_⟩⟩
  ·rw[hns,numAt_eq];exact getD_mem (by rw[Zj,Zam];omega)
  ·rw[hns]at ha;obtain⟨j,hj,rfl⟩:=mem_getD ha;rw[Zj,Zam]at hj;rw[← numAt_eq];exact h2 j ⋯
theorem Qqa(hh:A.handled=none)(hl:s.heap.IsTuple l (intItems xs))
  (h:∀h' tk t',(∀b o,s.heap.get? b=some o->h'.get? b=some o)->Q (.int (preSum (numAt xs) xs.size) t') {s with heap:=h',toks:=tk}):
  wpAny (model prog w) A (call (.builtin "sum") [.ref l]) Q E s:=by
 have hlt:l<s.heap.objs.size:=by obtain⟨_,e,_⟩:=hl;exact Zy e
 refine call_sum_walkG (wpAny_pyIter_tuple hl ?_);refine⟨_,[_,l],[_],_,_,_,numAt xs,rfl,Walks.tuple (A:=A.in1) hh _ l (Zaa hlt) (intItems xs),⟨⟨_,ZE _ rfl,rfl,rfl⟩,hl.push _⟩,λb hb=>?_,(λ_ _=>intItems_at),λh' tk t' hk=>?_⟩
 ·show b<(s.heap.push _).objs.size;rw[Zat];rcases Zo.mp hb with rfl | hb
  ·exact Zbr _
  ·rcases Zo.mp hb with rfl | hb
   ·exact Zbd hlt
   ·cases hb
 ·have:=h h' tk t' λb o e=>by
   refine hk b o (λhm=>?_) (Zb _ e);rcases Zo.mp hm with e1 | hm
   ·exact absurd (e1▸Zy e) (Zag _)
   ·cases hm
  simpa[intItems]using this
noncomputable def QAV(K:Fgg):List V->Hp->VK->Prop:=λxs H Q=>∃(p:Addr) (ns:List Int),xs=[.ref p]/\(SqL K H p (ns.map V.int)∨SqT K H p (ns.map V.int))/\Q (.int ns.sum) H
theorem Qtf(hc:X.calm=true):Qc7 X (.builtin "sum") (QAV X.K):=by
 intro pins s σ H xs us Q I r h;obtain⟨p,ns,rfl,hq,q⟩:=h;obtain⟨u,rfl,rx⟩:=vals1 r;cases rx;rcases hq with hq | hq
 ·obtain⟨its,r',pl,hz⟩:=I.list hq;obtain⟨ys,e,hns⟩:=Qds (Qb5 r');have hl:=pl.isList;rw[e]at hl;refine sum_intListG (I.ok.hd hc) hl λh' tk t' hk=>?_;refine⟨.int ns.sum,H,I.kept hk,⟨t',?_⟩,q⟩;rw[preSum_eq,Zav (by simp),hns]
 ·obtain⟨its,r',pl,hz⟩:=I.tuple hq;obtain⟨ys,e,hns⟩:=Qds (Qb5 r');have hl:=pl;rw[e]at hl;refine Qqa (I.ok.hd hc) hl λh' tk t' hk=>?_;refine⟨.int ns.sum,H,I.kept hk,⟨t',?_⟩,q⟩;rw[preSum_eq,Zav (by simp),hns]
noncomputable def QkT:List Int->Option Int
 | []=>none
 | [n]=>some n
 | n::r=>(QkT r).map λm=>if m<n then m else n
noncomputable def Qla:List Int->Option Int
 | []=>none
 | [n]=>some n
 | n::r=>(Qla r).map λm=>if n<m then m else n
theorem Qj0:∀{ns:List Int}{m:Int},QkT ns=some m->Qmm ns m
 | [],_,h=>by cases h
 | [n],_,h=>by cases h;exact⟨by simp,λa ha=>by simp at ha;omega⟩
 | n::k::r,m,h=>by
  simp only[QkT]at h;obtain⟨m',h1,rfl⟩:=Zk.mp h;obtain⟨h2,h3⟩:=Qj0 h1;constructor
  ·split
   ·exact Zc _ h2
   ·exact Zm
  ·intro a ha;rcases Zo.mp ha with rfl | ha
   ·split<;>omega
   ·have:=h3 a ha;split<;>omega
theorem Qkl:∀{ns:List Int}{m:Int},Qla ns=some m->isMax ns m
 | [],_,h=>by cases h
 | [n],_,h=>by cases h;exact⟨by simp,λa ha=>by simp at ha;omega⟩
 | n::k::r,m,h=>by
  simp only[Qla]at h;obtain⟨m',h1,rfl⟩:=Zk.mp h;obtain⟨h2,h3⟩:=Qkl h1;constructor
  ·split
   ·exact Zc _ h2
   ·exact Zm
  ·intro a ha;rcases Zo.mp ha with rfl | ha
   ·split<;>omega
   ·have:=h3 a ha;split<;>omega
theorem Qnn{ns:List Int}{a b:Int}(h:Qmm ns a)(g:Qmm ns b):a=b:=by have:=h.2 b g.1;have:=g.2 a h.1;omega
theorem QnZ{ns:List Int}{a b:Int}(h:isMax ns a)(g:isMax ns b):a=b:=by have:=h.2 b g.1;have:=g.2 a h.1;omega
noncomputable def Qkh:List D->Option D
 | [.lst xs]=>(Qel xs).bind λns=>(QkT ns).map .int
 | [.tup xs]=>(Qel xs).bind λns=>(QkT ns).map .int
 | _=>none
noncomputable def Qh0:List D->Option D
 | [.lst xs]=>(Qel xs).bind λns=>(Qla ns).map .int
 | [.tup xs]=>(Qel xs).bind λns=>(Qla ns).map .int
 | _=>none
noncomputable def QfF:List D->Option D
 | [.lst xs]=>(Qel xs).map λns=> .int ns.sum
 | [.tup xs]=>(Qel xs).map λns=> .int ns.sum
 | _=>none
theorem Qzi{K:Fgg}:Qfg K Qkh (QrX K Qmm):=λds d e=>by
 unfold Qkh at e;split at e
 ·refine Qj e λns h1 e=>?_;obtain⟨m,h2,rfl⟩:=Zk.mp e;refine⟨rfl,λH vs F Q r q=>?_⟩;obtain⟨v,rfl,rp⟩:=r.one;obtain⟨l,ws,L,rfl,hl,rl,zl,el⟩:=rp.lst_inv;rw[Qdg h1]at rl;rw[rl.ints]at hl;exact⟨l,ns,rfl,.inl (Q6 hl),λz=>(by rw[z]at h2;cases h2),λM hM=>by rw[Qnn hM (Qj0 h2)];exact q _ λ_=> .int_mk⟩
 ·refine Qj e λns h1 e=>?_;obtain⟨m,h2,rfl⟩:=Zk.mp e;refine⟨rfl,λH vs F Q r q=>?_⟩;obtain⟨v,rfl,rp⟩:=r.one;obtain⟨l,ws,rfl,hl,rl⟩:=rp.Qbm;rw[Qdg h1]at rl;rw[rl.ints]at hl;exact⟨l,ns,rfl,.inr hl,λz=>(by rw[z]at h2;cases h2),λM hM=>by rw[Qnn hM (Qj0 h2)];exact q _ λ_=> .int_mk⟩
 ·cases e
theorem Qyb{K:Fgg}:Qfg K Qh0 (QrX K isMax):=λds d e=>by
 unfold Qh0 at e;split at e
 ·refine Qj e λns h1 e=>?_;obtain⟨m,h2,rfl⟩:=Zk.mp e;refine⟨rfl,λH vs F Q r q=>?_⟩;obtain⟨v,rfl,rp⟩:=r.one;obtain⟨l,ws,L,rfl,hl,rl,zl,el⟩:=rp.lst_inv;rw[Qdg h1]at rl;rw[rl.ints]at hl;exact⟨l,ns,rfl,.inl (Q6 hl),λz=>(by rw[z]at h2;cases h2),λM hM=>by rw[QnZ hM (Qkl h2)];exact q _ λ_=> .int_mk⟩
 ·refine Qj e λns h1 e=>?_;obtain⟨m,h2,rfl⟩:=Zk.mp e;refine⟨rfl,λH vs F Q r q=>?_⟩;obtain⟨v,rfl,rp⟩:=r.one;obtain⟨l,ws,rfl,hl,rl⟩:=rp.Qbm;rw[Qdg h1]at rl;rw[rl.ints]at hl;exact⟨l,ns,rfl,.inr hl,λz=>(by rw[z]at h2;cases h2),λM hM=>by rw[QnZ hM (Qkl h2)];exact q _ λ_=> .int_mk⟩
 ·cases e
theorem Qy3{K:Fgg}:Qfg K QfF (QAV K):=λds d e=>by
 unfold QfF at e;split at e
 ·obtain⟨ns,h1,rfl⟩:=Zk.mp e;refine⟨rfl,λH vs F Q r q=>?_⟩;obtain⟨v,rfl,rp⟩:=r.one;obtain⟨l,ws,L,rfl,hl,rl,zl,el⟩:=rp.lst_inv;rw[Qdg h1]at rl;rw[rl.ints]at hl;exact⟨l,ns,rfl,.inl (Q6 hl),q _ λ_=> .int_mk⟩
 ·obtain⟨ns,h1,rfl⟩:=Zk.mp e;refine⟨rfl,λH vs F Q r q=>?_⟩;obtain⟨v,rfl,rp⟩:=r.one;obtain⟨l,ws,rfl,hl,rl⟩:=rp.Qbm;rw[Qdg h1]at rl;rw[rl.ints]at hl;exact⟨l,ns,rfl,.inr hl,q _ λ_=> .int_mk⟩
 ·cases e
noncomputable def Qfw(neg:Bool)(a b:D):Option D:=match a,b with
 | a,.non=>some (.bl (if neg then !a.QsA else a.QsA))
 | .bl x,.bl y=>some (.bl (if neg then !(x == y)else x == y))
 | _,_=>none
theorem QBd:OpR X (compareOp .Is) (λx y H Q=>∃c d,x= .bl c/\y= .bl d/\Q (.bl (c == d)) H):=by
 intro pins s σ H x y v u Q I rx ry h;obtain⟨c,d,rfl,rfl,q⟩:=h;cases rx;cases ry;exact PyProof.Rows.is_bool (Ql8 I q rfl)
theorem Qyl:OpR X (compareOp .IsNot) (λx y H Q=>∃c d,x= .bl c/\y= .bl d/\Q (.bl (!(c == d))) H):=by
 intro pins s σ H x y v u Q I rx ry h;obtain⟨c,d,rfl,rfl,q⟩:=h;cases rx;cases ry;exact PyProof.Rows.isnot_bool (Ql8 I q rfl)
theorem Qz5{K:Fgg}:Qce K (Qfw false) (λx y H Q=>(y= .non/\Q (.bl (decide (x= .non))) H)∨∃c d,x= .bl c/\y= .bl d/\Q (.bl (c == d)) H):=λa b d e=>by
 unfold Qfw at e;split at e
 ·cases e;exact⟨rfl,λH x y F G Q ha hb q=> .inl ⟨hb.QfS,by rw[Qq3 ha];exact q _ λ_=> .QcC⟩⟩
 ·cases e;exact⟨rfl,λH x y F G Q ha hb q=> .inr ⟨_,_,ha.QdL,hb.QdL,q _ λ_=> .QcC⟩⟩
 ·cases e
theorem Qtk{K:Fgg}:Qce K (Qfw true) (λx y H Q=>(y= .non/\Q (.bl (!decide (x= .non))) H)∨∃c d,x= .bl c/\y= .bl d/\Q (.bl (!(c == d))) H):=λa b d e=>by
 unfold Qfw at e;split at e
 ·cases e;exact⟨rfl,λH x y F G Q ha hb q=> .inl ⟨hb.QfS,by rw[Qq3 ha];exact q _ λ_=> .QcC⟩⟩
 ·cases e;exact⟨rfl,λH x y F G Q ha hb q=> .inr ⟨_,_,ha.QdL,hb.QdL,q _ λ_=> .QcC⟩⟩
 ·cases e
theorem Qq0:∀a b d,Qfw neg a b=some d->∃k,d= .bl k:=λa b d h=>by
 unfold Qfw at h;split at h<;>cases h<;>exact⟨_,rfl⟩
theorem QoB:Qc7 X (.builtin "divmod") (λxs H Q=>∃i j,xs=[.int i,.int j]/\QbH j=true/\∀p,H p=none->Q (.ref p) (upd H p (.tup [.int (Qdb i j),.int (Qc3 i j)]))):=by
 intro pins s σ H xs us Q I r h;obtain⟨i,j,rfl,hc,q⟩:=h;obtain⟨u,w',rfl,⟨t,rfl⟩,⟨t',rfl⟩⟩:=vals2 r;unfold QbH at hc;simp only[Zg,decide_eq_true_eq]at hc;have h0:j.natAbs≠0:= ⋯
 refine PyProof.Rows.divmod_int hc.1 ?_ (.inl (Zbv (Zcm ((Zcu h0).mpr hc.2) (by decide))));rw[← Qkg,← Qj5];have hn:H s.heap.objs.size=none:=I.hok.fresh (Zh _);refine⟨.ref s.heap.objs.size,_,?_,rfl,q _ hn⟩;refine I.laid (λb o e=>Zb _ e) (Zh _) ⟨by simp only[ZJ,List.length_nil];rw[sizeLine_eq];decide,[.int (Qdb i j) s.toks,.int (Qc3 i j) (s.toks+1)],.cons ⟨_,rfl⟩ (.cons ⟨_,rfl⟩ .nil),?_⟩;exact⟨_,ZE s.heap rfl,rfl,0,rfl⟩
noncomputable def dDm(fs:DA):DE:=λρ=>(fs ρ).bind λr=>match r.ds with
 | [.int i,.int j]=>if QbH j=true then some ⟨.tup [.int (Qdb i j),.int (Qc3 i j)],true,[]⟩else none
 | _=>none
theorem QCt{x:Str}{p:Pos}(hg:Gl X "divmod")(hm:X.mg "divmod" =none)(ha:SA X (e::es) fs)(he:starEach (e::es) X.env=(false,eval e X.env)::starEach es X.env)(hpl:(backTo pos (starEach es X.env)).any (·.1)=false):
  SE X (.Call (.Name "divmod" p) (e::es) [] pos) (dDm fs):=λH0 A0=>
 (Qk4 QoB hg hm PyProof.Rows.boot_divmod (ha H0 A0) (by decide) (by decide) he hpl).mono λσ H Q=>exK λρ hs F r' rel e q=>by
  refine Qj e λra e1 e=>?_;refine⟨ρ,hs,F,ra,rel,e1,λvs H1 G p1=>?_⟩;split at e
  ·rename_i i j hds;split at e
   ·rename_i hc;cases e;have rp:=p1.rp;rw[hds]at rp;obtain⟨v,w,F1,F2,rfl,r1,r2⟩:=rp.two;refine⟨i,j,by rw[r1.int_inv,r2.int_inv],hc,λp hp=>q _ _ [] (.flat (p1.same.trans (Qbt hp)) (Rp.Qgr Qau ?_) rfl)⟩;simp only[Rps];exact⟨_,_,[],[],rfl,rfl,.int_mk,_,_,[],[],rfl,rfl,.int_mk,rfl,rfl⟩
   ·cases e
  ·cases e
end
end HS
namespace HS
open PySem PySem.Spec L2 PyProof.Rows
theorem QkN:∀{vs:List V}{us:List Value},us.length=vs.length->(∀(k:Nat) (v:V),vs[k]? =some v->∃u,us[k]? =some u/\RelV v u)->QL vs us
 | [],[],_,_=> .nil
 | [],_::_,h,_=>by simp at h
 | _::_,[],h,_=>by simp at h
 | v::vs,u::us,h,g=>by
  obtain⟨u',e,r⟩:=g 0 v rfl;cases e;exact .cons r (QkN (by simpa using h) λk v hk=>g (k+1) v hk)
section
variable {X:Cx}{a b c e tg:Expr}{es:List Expr}{fa fb fc:DE}{fs:DA}{pos p2:Pos}
theorem QuC(I:Inv X pins σ H s)(hc:X.calm=true)(h0:0<=j)(h1:j<=1000000)
  (q:∀l,H l=none->Q (.ref l) (upd H l (.lst ((List.range j.toNat).map λ(k:Nat)=>V.int (k:Int))))):
  wpAny (model X.prog X.w) X.A (call (.type "list") [.ref s.heap.objs.size]) (EP X pins σ Q) E {s with heap:=s.heap.push {cls:= .type "range",data:= .fields #[.int 0 t,.int j u,.int 1 v]},toks:=tk}:=by
 have I2:Inv X pins σ H {s with heap:=s.heap.push {cls:= .type "range",data:= .fields #[.int 0 t,.int j u,.int 1 v]},toks:=tk}:=I.kept λb o e=>Zb _ e;refine call_list_range (n:=j.toNat) (I.ok.hd hc) (IsRange.new ..) (small_one ⋯ ⋯ ⋯ ⋯) (by rw[rangeSize_one];split<;>omega) ⋯ λh' tk' acc' c' hk hS hacc=>?_;have hv:QL ((List.range j.toNat).map λ(k:Nat)=>V.int (k:Int)) acc'.toList:=by
  have hl:=hacc.1;refine QkN (by simp[hl]) λk v hk=>?_;rw[Zr]at hk;have hkl:k<j.toNat:=by
   by_cases z:k<j.toNat
   ·exact z
   ·rw[Zu (by simp;omega)]at hk;cases hk
  rw[ZK hkl]at hk;cases hk;obtain⟨w,hw⟩:∃w,acc'[k]? =some w:=⟨acc'[k]'⋯,by rw[Array.getElem?_eq_getElem ⋯]⟩;obtain⟨t',rfl⟩:=hacc.2 k w hw;exact⟨_,by rw[Array.getElem?_toList];exact hw,⟨t',by simp⟩⟩
 refine⟨.ref _,_,I2.laid hk (Zh _) (show QcK X.prog X.w _ h' _ (.lst _)from⟨by simp[QhO];omega,acc'.toList,c',hv,by simpa using hS⟩),rfl,q _ (I2.hok.fresh (Zh _))⟩
theorem Qt2(hg:Gl X "list")(hm:X.mg "list" =none)(hg':Gl X "range")(hm':X.mg "range" =none)(hc:X.calm=true)(ha:PA X [a] ta)(hs:starEach [a] X.env=[(false,eval a X.env)]):
  PE X (.Call (.Name "list" p) [.Call (.Name "range" p') [a] [] pos'] [] pos) (λσ H Q=>ta σ H λvs H1=>∃j:Int,vs=[.int j]/\0<=j/\j<=1000000/\∀l,H1 l=none->Q (.ref l) (upd H1 l (.lst ((List.range j.toNat).map λ(k:Nat)=>V.int (k:Int))))):=by
 intro pins s σ H Q I h;refine wpAny_Call_Name_kw (Qc9 I hg hm boot_list ?_ (by decide) (by decide));refine ZV (Calls.spliced_cons ?_) rfl rfl;refine Call_ (Qc9 I hg' hm' boot_range (ZV (thn (ha pos' pins s σ H _ I h) λus s1 ⟨vs,H1,I1,r1,q1⟩=>?_) hs rfl));obtain⟨j,e,q1,q2,q⟩:=q1;subst e;cases r1 with
 | cons r rr=>
  cases rr;obtain⟨t,rfl⟩:=r;exact call_range_1 (Calls.spliced_nil (QuC I1 hc q1 q2 q))
noncomputable def Qov(fa:DE):DE:=λρ=>(fa ρ).bind λr=>match r.d with
 | .int j=>if 0<=j/\j<=1000000 then some ⟨.lst ((List.range j.toNat).map λ(k:Nat)=> .int (k:Int)),true,[]⟩else none
 | _=>none
theorem Rps.ofInts{K:Fgg}{H:Hp}:∀ns:List Int,Rps K H (ns.map .int) (ns.map .int) []
 | []=>by simp[Rps]
 | n::ns=>by simp only[ZM,Rps];exact⟨_,_,[],[],rfl,rfl,.int_mk,Rps.ofInts ns⟩
theorem Qun:∀ns:List Int,QY (ns.map .int)=true
 | []=>rfl
 | n::ns=>by simp[QY,D.flat,Qun ns]
theorem QyJ{p p' pos':Pos}(hg:Gl X "list")(hm:X.mg "list" =none)(hg':Gl X "range")(hm':X.mg "range" =none)(hc:X.calm=true)(ha:SE X a fa)(hs:starEach [a] X.env=[(false,eval a X.env)]):
  SE X (.Call (.Name "list" p) [.Call (.Name "range" p') [a] [] pos'] [] pos) (Qov fa):=λH0 A0=>
 (Qt2 hg hm hg' hm' hc (Qag (ha H0 A0) Qb8 hs) hs).mono λσ H Q=>exK λρ hs F r' rel e q=>by
  refine Qj e λra e1 e=>?_;refine⟨ρ,hs,F,ra,rel,e1,λv H1 G p1=>?_⟩;cases hd:ra.d with
  | int j=>
   rw[hd]at e;dsimp only at e;split at e
   ·rename_i hj;cases e;have rp:=p1.rp;rw[hd]at rp;refine⟨j,by rw[rp.int_inv],hj.1,hj.2,λl hl=>?_⟩;have e2:((List.range j.toNat).map λ(k:Nat)=>D.int (k:Int))=((List.range j.toNat).map λ(k:Nat)=>(k:Int)).map D.int:=by rw[Zaj];rfl
    have e3:((List.range j.toNat).map λ(k:Nat)=>V.int (k:Int))=((List.range j.toNat).map λ(k:Nat)=>(k:Int)).map V.int:=by rw[Zaj];rfl
    have:=Qaj.Qbq (ρ:=ρ) (F:=F) p1.same hl (Rps.ofInts (K:=X.K) ((List.range j.toNat).map λ(k:Nat)=>(k:Int))) (by simp[QhO];omega) Src.nil QbI.nil;rw[← e2,← e3]at this;unfold Qbq at this;rw[if_pos (by rw[e2];exact Qun _)]at this;exact q _ _ _ this
   ·cases e
  | _=>rw[hd]at e;cases e
noncomputable def Itd(hi:Int)(n:Nat):It:=⟨λi _=>i<n,λi H x H'=>H'=H/\x= .int (hi-i),λi _=>n<=i⟩
theorem QqB{P:Program}{w:World}{K:Fgg}{tg:Expr}(it:Addr)(lo:Int)(n:Nat):Turn P w K tg (Itd lo n) [it] it (λi h=>IsRangeIter h it (lo+(i:Nat)*(-1)) ((n:Int)-(i:Nat)) (-1)) where
 mem:=by simp
 obj:=λi h st b hb=>by
  have e:b=it:=by simpa using hb
  subst e;exact⟨_,st,λv z=>by
   have z':Data.fields _=Data.cell v:=z;cases z'⟩
 keep:=λi h h' st k=>k it (by simp) _ st
 item:=by
  intro X hP hw hK hc i pins s σ H E I hf st hg;subst hP hw hK;obtain⟨f0,f1,f2,f3,f4,f5⟩:=hf it (by simp);have W:=Walks.range (prog:=X.prog) (w:=X.w) (I.ok.hd hc) it lo (-1) n;refine W.item i s _ _ hg st λv h' tk hv st' kk=>?_;obtain⟨t,rfl⟩:=hv;have I1:Inv X pins σ H {s with heap:=h',toks:=tk}:=I.turned (λb o hb e=>kk b o (by simpa using hb) e) f0 f1 f3 f4 f5;refine⟨_,rfl,Qox st' rfl rfl (by decide) ⟨.int (lo-i),H,I1,⟨t,?_⟩,⟨rfl,rfl⟩,st',λb hb=>(hf b hb).1⟩⟩;rw[show lo+(i:Int)* -1=lo-i by omega]
 done:=by
  intro X hP hw hK hc i pins s σ H E I hf st hg;subst hP hw hK;obtain⟨f0,f1,f2,f3,f4,f5⟩:=hf it (by simp);exact wpAny_pyNext_range_end (I.ok.hd hc) st (by have:n<=i:=hg;omega) λh' eb=>⟨rfl,I.turned (t':=s.toks) (λb o hb e=>eb b o hb e) f0 f1 f3 f4 f5⟩
 self:=λ_ _ _ _ _ st h=>wpAny_pyIter_rangeiter st h
theorem QnD(lo hi:Int):Builtin.Range.rangeSize lo hi (-1)=if lo>hi then lo-hi else 0:=by
 unfold Builtin.Range.rangeSize;rw[if_neg (by decide)];split
 ·rw[show(- -1:Int)=1 by decide,Int.ediv_one];omega
 ·rfl
theorem small_down{lo hi:Int}(h1: -(2^62)<=lo)(h2:lo<2^62)(h3: -(2^62)<=hi)(h4:hi<2^62):Builtin.Range.small lo hi (-1)=true:=by
 unfold Builtin.Range.small;rw[QnD];simp only[Builtin.Range.rangeFitsLong,Zg,Zct,decide_eq_true_eq,beq_iff_eq,show ¬((-1:Int)>0) by decide,if_false];split<;>omega
theorem Qt4{pins:List (Addr×Obj)}{σ:L2.St}{H:Hp}{s:Shared}{R:It->Hp->Prop}{E:Value->Shared->Prop}{lo hi:Int}{t u v:Tok}{tk:Nat}(I:Inv X pins σ H s)(h1: -(2^62)<=lo)(h2:lo<2^62)(h3: -(2^62)<=hi)(h4:hi<2^62)
  (q:R (Itd lo (lo-hi).toNat) H):wpAny (model X.prog X.w) X.A (pyIter (.ref s.heap.objs.size)) (PIE X pins σ tg R) E {s with heap:=s.heap.push {cls:= .type "range",data:= .fields #[.int lo t,.int hi u,.int (-1) v]},toks:=tk}:=by
 refine wpAny_pyIter_range (IsRange.new ..) (small_down h1 h2 h3 h4) ?_;have I1:Inv X pins σ H {s with heap:=s.heap.push {cls:= .type "range",data:= .fields #[.int lo t,.int hi u,.int (-1) v]},toks:=tk}:=I.kept λb o e=>Zb _ e
 refine⟨(s.heap.push {cls:= .type "range",data:= .fields #[.int lo t,.int hi u,.int (-1) v]}).objs.size,[(s.heap.push {cls:= .type "range",data:= .fields #[.int lo t,.int hi u,.int (-1) v]}).objs.size],_,_,H,rfl,
  I1.kept (t':=tk) λb o e=>Zb _ e,QqB _ lo (lo-hi).toNat,?_,λb hb=>?_,q⟩
 ·have e1:lo+((0:Nat):Int)*(-1)=lo:=by simp
  have e2:(((lo-hi).toNat:Nat):Int)-((0:Nat):Int)=Builtin.Range.rangeSize lo hi (-1):=by rw[QnD];split<;>omega
  show IsRangeIter _ _ (lo+((0:Nat):Int)*(-1)) ((((lo-hi).toNat:Nat):Int)-((0:Nat):Int)) (-1);rw[e1,e2];exact ZE _ rfl
 ·have e:b=(s.heap.push {cls:= .type "range",data:= .fields #[.int lo t,.int hi u,.int (-1) v]}).objs.size:=by simpa using hb
  subst e;exact I1.Qlk (Zh _) (I1.hok.fresh (Zh _))
noncomputable def QBO(ta:TA):TI:=λσ H R=>ta σ H λvs H1=>∃i j:Int,vs=[.int i,.int j,.int (-1)]/\(-(2^62)<=i/\i<2^62/\ -(2^62)<=j/\j<2^62)/\R (Itd i (i-j).toNat) H1
theorem Qtn(hg:Gl X "range")(hm:X.mg "range" =none)(ha:PA X [a,b,c] ta)(hs:starEach [a,b,c] X.env=(false,eval a X.env)::starEach [b,c] X.env)(hs2:(backTo pos (starEach [b,c] X.env)).any (·.1)=false):
  PI X tg (.Call (.Name "range" p) [a,b,c] [] pos) (QBO ta):=by
 intro pins s σ H R I h;refine Call_ (Qc9 I hg hm boot_range (ZV (thn (ha pos pins s σ H _ I h) λus s1 ⟨vs,H1,I1,r1,q1⟩=>?_) hs hs2));obtain⟨i,j,e,⟨q1,q2,q3,q4⟩,q⟩:=q1;subst e;cases r1 with
 | cons r rr=>
  cases rr with
  | cons r' rr=>
   cases rr with
   | cons r'' rr=>
    cases rr;obtain⟨t,rfl⟩:=r;obtain⟨t',rfl⟩:=r';obtain⟨t'',rfl⟩:=r'';exact call_range_3 (by decide) (Qt4 I1 q1 q2 q3 q4 q) (.inl (Zbv (by decide+kernel)))
noncomputable def Qmz(hi:Int)(n:Nat):List D:=(List.range n).map λ(k:Nat)=> .int (hi-(k:Int))
theorem Qu0{lo:Int}{n i:Nat}{d:D}(h:(Qmz lo n)[i]? =some d):i<n/\d= .int (lo-i):=by
 unfold Qmz at h;rw[Zr]at h;by_cases hi:i<n
 ·rw[ZK hi]at h;cases h;exact⟨hi,rfl⟩
 ·rw[Zu (by simp;omega)]at h;cases h
noncomputable def Qf0(fa fb fc:DE):DI:=λρ=>(fa ρ).bind λr=>(fb ρ).bind λr'=>(fc ρ).bind λr''=>match r.d,r'.d,r''.d with
 | .int i,.int j,.int (-1)=>if i-j<=16777216/\ -(2^62)<=i/\i<2^62/\ -(2^62)<=j/\j<2^62 then some ⟨Qmz i (i-j).toNat,[]⟩else none
 | _,_,_=>none
theorem QkP{lo:Int}{n:Nat}:(Qmz lo n).length=n:=by simp[Qmz]
theorem QqN{K:Fgg}{lo:Int}{n:Nat}:Walk K (Itd lo n) [] (Qmz lo n) where
 stop:=λH _=>by rw[QkP];exact Zh _
 go:=λi H hi _=>by rw[QkP]at hi;exact hi
 yld:=λi d H x H' e _ y=>by
  obtain⟨h1,rfl⟩:=Qu0 e;obtain⟨rfl,rfl⟩:=y;exact⟨QU.refl _,[],.int_mk,λz hz=>by simp at hz⟩
theorem Qtp(hg:Gl X "range")(hm:X.mg "range" =none)(ha:SE X a fa)(hb:SE X b fb)(hc:SE X c fc)(h1:starEach [a,b,c] X.env=(false,eval a X.env)::starEach [b,c] X.env)(h2:starEach [b,c] X.env=(false,eval b X.env)::starEach [c] X.env)(h3:starEach [c] X.env=(false,eval c X.env)::starEach [] X.env):
  SI X tg (.Call (.Name "range" p) [a,b,c] [] pos) (Qf0 fa fb fc):=λH0 A0=>
 (Qtn hg hm (Qag (ha H0 A0) (Qag (hb H0 A0) (Qag (hc H0 A0) Qb8 h3) h2) h1) h1 (by rw[h2,h3];rfl)).mono λσ H Rr=>exK λρ hs F ir rel e q=>by
  refine Qj e λr e1 e=>?_;refine Qj e λr' e2 e=>?_;refine Qj e λr'' e3 e=>?_;refine⟨ρ,hs,F,r,rel,e1,λv H1 G pp=>⟨ρ,hs,F,r',rel.ext pp.same,e2,λv' H2 G' pp'=>⟨ρ,hs,F,r'',(rel.ext pp.same).ext pp'.same,e3,λv'' H3 G'' pp''=>?_⟩⟩⟩;split at e
  ·rename_i i j hr hr' hr'';split at e
   ·rename_i hz;cases e;have rp:=(pp.rp.same pp'.same).same pp''.same;have rp':=pp'.rp.same pp''.same;have rp'':=pp''.rp;rw[hr]at rp;rw[hr']at rp';rw[hr'']at rp'';rw[rp.int_inv,rp'.int_inv,rp''.int_inv];refine⟨i,j,rfl,hz.2,q _ H3 [] ((pp.same.trans pp'.same).trans pp''.same) QqN (λt ht=>by simp at ht) QbI.nil ?_⟩;rw[QkP,QhO];omega
   ·cases e
  ·cases e
theorem Qx2:MtR X "int.bit_length" (λx vs H Q=>∃i,x= .int i/\vs=[]/\Q (.int (Builtin.Int.intBits i)) H):=by
 intro pins s σ H x vs v us Q I rx rv h;obtain⟨i,rfl,rfl,q⟩:=h;obtain⟨t,rfl⟩:=rx;have hus:=rv.zero;subst hus;exact call_int_bit_length ⟨.int _,H,I.tok _,⟨_,rfl⟩,q⟩
noncomputable def Qor(fa:DE):DE:=λρ=>(fa ρ).bind λr=>match r.d with
 | .int i=>some ⟨.int (Builtin.Int.intBits i),true,[]⟩
 | _=>none
theorem Qyi(ha:SE X a fa)(hb:attributeBase a "bit_length" X.env (eval a X.env)=eval a X.env)(hl:(apos.endLine == cpos.line)=true):SE X (.Call (.Attribute a "bit_length" apos) [] [] cpos) (Qor fa):=λH0 A0=>
 (Qtt PySem.F.plainAttrs_int PySem.F.slot_int_bit_length PySem.F.type_int_bit_length Qx2 (ha H0 A0) hb hl).mono λσ H Q=>exK λρ hs F r' rel e q=>by
  refine Qj e λra e1 e=>?_;refine⟨ρ,hs,F,ra,rel,e1,λv H1 G p1=>?_⟩;cases hd:ra.d with
  | int i=>
   rw[hd]at e;cases e;have rp:=p1.rp;rw[hd]at rp;rw[rp.int_inv];exact⟨rfl,i,rfl,rfl,q _ _ [] (.flat p1.same .int_mk)⟩
  | _=>rw[hd]at e;cases e
noncomputable def Qr9(fs:DA):DE:=λρ=>(fs ρ).bind λr=>match r.ds with
 | [.lst xs]=>if QY xs=true then some ⟨.tup xs,true,[]⟩else none
 | _=>none
theorem Qy2(hg:Gl X "tuple")(hm:X.mg "tuple" =none)(ha:SA X (e::es) fs)(he:starEach (e::es) X.env=(false,eval e X.env)::starEach es X.env)(hpl:(backTo pos (starEach es X.env)).any (·.1)=false):
  SE X (.Call (.Name "tuple" p) (e::es) [] pos) (Qr9 fs):=λH0 A0=>
 (QjJ Qoj hg hm Zci (ha H0 A0) (by decide) (by decide) he hpl).mono λσ H Q=>exK λρ hs F r' rel e q=>by
  refine Qj e λra e1 e=>?_;refine⟨ρ,hs,F,ra,rel,e1,λvs H1 G p1=>?_⟩;split at e
  ·rename_i xs hds;split at e
   ·rename_i hf;cases e;have rp:=p1.rp;rw[hds]at rp;obtain⟨v,rfl,rq⟩:=rp.one;obtain⟨l,ws,L,rfl,hl,rl,zl,el⟩:=rq.lst_inv;have:=rl.QbK hf;subst this;refine⟨l,ws,rfl,.inl ⟨Q6 hl,λc hc=>q _ _ [] (.flat (p1.same.trans (Qbt hc)) (Rp.Qgr Qau (rl.same (Qbt hc))) (by simp only[D.flat];exact hf))⟩⟩
   ·cases e
  ·cases e
end
end HS
namespace HS
open PySem PySem.Spec PyProof.Rows L2
section
variable {X:Cx}{a b c:Expr}{fa fb fc:DE}{pos:Pos}
end
end HS
namespace HS
open PySem PySem.Spec L2
structure FnR where
 n:Nat
 dfl:List D
 den:Den
structure Th where
 N:List Str
 sc:List (Str×NameKind)
 Γ:List (Str×FnR)
 cs:List (Str×Int)
 tr:Stmt->Option DS:=λ_=>none
noncomputable def posOf(x:Str):List Str->Option Nat
 | []=>none
 | y::ys=>if x=y then some 0 else(posOf x ys).map (· +1)
theorem QgY:∀{x:Str}{ys:List Str}{i:Nat},posOf x ys=some i->ys[i]? =some x
 | x,[],i,h=>by cases h
 | x,y::ys,i,h=>by
  unfold posOf at h;split at h
  ·rename_i e;cases h;subst e;rfl
  ·obtain⟨j,hj,rfl⟩:=Zk.mp h;simpa using QgY hj
noncomputable def look{α:Type}(x:Str):List (Str×α)->Option α
 | []=>none
 | (y,a)::r=>if x=y then some a else look x r
theorem QbY{α:Type}:∀{x:Str}{l:List (Str×α)},look x l=l.lookup x
 | x,[]=>rfl
 | x,(y,a)::r=>by
  unfold look;rw[Zz];by_cases h:x=y
  ·subst h;simp
  ·rw[if_neg h,QbY];have:(x == y)=false:=by simpa using h
   rw[this]
noncomputable def Qxf:NameKind->Bool
 | .local =>true | .cell=>true | .free=>true | _=>false
noncomputable def Qxp:NameKind->Bool
 | .local =>true | .cell=>true | _=>false
noncomputable def QC1:NameKind->Bool
 | .globalImplicit=>true | _=>false
noncomputable def isFree:NameKind->Bool
 | .free=>true | _=>false
noncomputable def odd(x:Str):Bool:=decide (x= "__debug__") || decide (x= "__classdict__") || decide (x= "__name__")
noncomputable def Th.slot(Θ:Th)(x:Str):Option Nat:=if((look x Θ.sc).map Qxf).getD false && !odd x then posOf x Θ.N else none
noncomputable def Th.QdC(Θ:Th)(x:Str):Option Nat:=if((look x Θ.sc).map Qxp).getD false && !odd x then posOf x Θ.N else none
noncomputable def Th.gl(Θ:Th)(x:Str):Bool:=((look x Θ.sc).map QC1).getD false && !odd x
def Qyf(X:Cx)(x:Str)(r:FnR):Prop:=∃k f fd ps,QdK X.prog X.w X.K X.mg X.base CX0 k f fd ps (spV X.K r.n r.den)/\QbS k X.A/\X.mg x=some (.ref f)/\PySem.W.keepIn X.K (.ref f)=true∧
 ∀m,m<=r.dfl.length->∃ds dvs,Binds X.K fd ps ds/\QL dvs ds/\∀H,Rps X.K H (r.dfl.drop (r.dfl.length-m)) dvs []
noncomputable def Qo8:List Str:=["range","enumerate","zip","len","list","min","max","sum","abs","isinstance","int","bool","tuple","str","divmod","sorted","any","all"]
structure CtxB (X:Cx) (Θ:Th):Prop where
 N:X.N=Θ.N
 nd:Θ.N.Nodup
 lc:∀x,look x Θ.sc=some .local ->X.env.scope.names.lookup x=some .local
 ce:∀x,look x Θ.sc=some .cell->X.env.scope.names.lookup x=some .cell/\X.fn x=true
 fe:∀x,look x Θ.sc=some .free->X.env.scope.names.lookup x=some .cell∨X.env.scope.names.lookup x=some .free
 gl:∀x,look x Θ.sc=some .globalImplicit->X.env.scope.names.lookup x=some .globalImplicit
 units:X.A.units+64<cLine
 mg:∀x∈Qo8,X.mg x=none
 cs:∀x i,look x Θ.cs=some i->∃t,X.mg x=some (.int i t)
structure QaX (X:Cx) (Θ:Th):Prop extends CtxB X Θ where
 calm:X.calm=true
 pass:PassesOwn (model X.prog X.w) X.A X.env X.xe
 fns:∀x r,look x Θ.Γ=some r->Qyf X x r
 tr:∀st f,Θ.tr st=some f->S1 X st f
section
theorem Qrb(h:odd x=false):(x == ("__debug__" :Str))=false/\(x == ("__classdict__" :Str))=false/\x≠ "__name__" :=by
 unfold odd at h;simp only[Bool.or_eq_false_iff,decide_eq_false_iff_not]at h;exact⟨by simpa using h.1.1,by simpa using h.1.2,h.2⟩
theorem QaB(ok:CtxB X Θ)(h:Θ.slot x=some i):PE X (.Name x pos) (Qhb i):=by
 unfold Th.slot at h;split at h
 ·rename_i hc;simp only[Zg,ZaM]at hc;obtain⟨h1,h2,_⟩:=Qrb hc.2;refine QAv (by rw[ok.N];exact QgY h) ?_ h1 h2;cases q:look x Θ.sc with
  | none=>rw[q]at hc;cases hc.1
  | some k=>
   rw[q]at hc;cases k with
   | «local» =>exact .inl (ok.lc x q)
   | cell=>exact .inr (.inl (ok.ce x q).1)
   | free=>exact .inr (ok.fe x q)
   | _=>cases hc.1
 ·cases h
theorem QeZ(ok:CtxB X Θ)(h:Θ.QdC x=some i):X.N[i]? =some x/\Loc X.env.scope x/\(X.fn x=true∨X.env.scope.names.lookup x=some .local):=by
 unfold Th.QdC at h;split at h
 ·rename_i hc;simp only[Zg,ZaM]at hc;refine⟨by rw[ok.N];exact QgY h,?_⟩;cases q:look x Θ.sc with
  | none=>rw[q]at hc;cases hc.1
  | some k=>
   rw[q]at hc;cases k with
   | «local» =>exact⟨.inl (ok.lc x q),.inr (ok.lc x q)⟩
   | cell=>exact⟨.inr (ok.ce x q).1,.inl (ok.ce x q).2⟩
   | _=>cases hc.1
 ·cases h
theorem Qh3(ok:CtxB X Θ)(h:Θ.gl x=true):Gl X x/\(x == ("__debug__" :Str))=false/\x≠ "__name__" :=by
 unfold Th.gl at h;simp only[Zg,ZaM]at h;obtain⟨h1,h2,h3⟩:=Qrb h.2;refine⟨?_,h1,h3⟩;cases q:look x Θ.sc with
 | none=>rw[q]at h;cases h.1
 | some k=>
  rw[q]at h;cases k with
  | globalImplicit=>exact ok.gl x q
  | _=>cases h.1
end
noncomputable def isTup:Expr->Bool
 | .Tuple .. =>true
 | _=>false
noncomputable def Qfd:Expr->Option Str
 | .Name x _=>some x
 | _=>none
noncomputable def Qk8(Θ:Th):Expr->Option Tg
 | .Name x _=>(Θ.QdC x).map .nm
 | .Tuple es _ _=>((es.mapM Qfd).bind λxs=>xs.mapM Θ.QdC).map .tp
 | _=>none
noncomputable def Qsu:CmpOp->Option (D->D->Option D)
 | .Eq=>some gEq | .NotEq=>some gNe | .Lt=>some gLt | .LtE=>some gLe | .Gt=>some gGt | .GtE=>some gGe
 | .Is=>some (Qfw false) | .IsNot=>some (Qfw true)
 | .In=>some (gIn false) | .NotIn=>some (gIn true)
noncomputable def Qvl(x:Str):Option String:=
 if x= "int" then some "int" else if x= "bool" then some "bool" else if x= "list" then some "list" else if x= "tuple" then some "tuple" else if x= "str" then some "str" else none
noncomputable def inner(Θ:Th)(scope:Scope):Th:={N:=(scope.names.filter λy=>Qxf y.2).map (·.1),sc:=scope.names,Γ:=Θ.Γ,cs:=Θ.cs}
noncomputable def QjS(Θ:Th)(scope:Scope):List (Option Nat):=(inner Θ scope).N.map λx=>if((look x scope.names).map isFree).getD false then posOf x Θ.N else none
noncomputable def Ql9(Θ:Th)(scope:Scope)(t:Tg):Bool:=(scope.kind == .function) && decide (inner Θ scope).N.Nodup &&
 (scope.names.all λy=>match y.2 with
  | .cell=>decide (look y.1 scope.names=some .cell)
  | .local =>decide (look y.1 scope.names=some .local)
  | .free=>match look y.1 Θ.sc with
   | some .cell=>true
   | some .free=>true
   | _=>false
  | _=>true) &&
 t.slots.all λj=>match (QjS Θ scope)[j]? with
  | some (some _)=>false
  | _=>true
noncomputable def Qk7(Θ:Th)(x:Str)(a:Expr):Option Expr:=match a with
 | .Call (.Name y _) [b] [] _=>if x= "list" /\y= "range" /\Θ.gl y=true/\(look y Θ.Γ).isNone=true then some b else none
 | _=>none
noncomputable def QBM:List Expr->Bool
 | []=>true | [_]=>true | _=>false
noncomputable def bf1(x:Str)(fa:DE):Option DE:=
 if x= "len" then some (dBf Qaa (Qa fa Qe))else
 if x= "list" then some (dList (Qa fa Qe))else
 if x= "abs" then some (dBf QpL (Qa fa Qe))else
 if x= "min" then some (dBf Qkh (Qa fa Qe))else
 if x= "max" then some (dBf Qh0 (Qa fa Qe))else
 if x= "sum" then some (dBf QfF (Qa fa Qe))else
 if x= "tuple" then some (Qr9 (Qa fa Qe))else
 none
noncomputable def bf2(x:Str)(fa fb:DE):Option DE:=
 if x= "min" then some (dBf QlN (Qa fa (Qa fb Qe)))else
 if x= "max" then some (dBf Qmi (Qa fa (Qa fb Qe)))else
 if x= "divmod" then some (dDm (Qa fa (Qa fb Qe)))else
 none
mutual
noncomputable def Qu(n:Nat)(Θ:Th)(e:Expr):Option DE:=match n with
 | 0=>none
 | n+1=>match e with
  | .Name x _=>match Θ.slot x with
   | some i=>some (Qh i)
   | none=>if Θ.gl x then(look x Θ.cs).map λi=>dC (.int i)else none
  | .Constant (.int i) _ _=>some (dC (.int i))
  | .Constant (.bool b) _ _=>some (dC (.bl b))
  | .Constant .none _ _=>some (dC .non)
  | .Constant (.str x) _ _=>some (dC (.str x))
  | .BinOp a op b _=>(Qu n Θ a).bind λfa=>(Qu n Θ b).bind λfb=>match op with
   | .Add=>some (QS fa fb)
   | .Mult=>some (Q7 fa fb)
   | .Sub=>some (dOp QaG fa fb)
   | .FloorDiv=>some (dOp Qco fa fb)
   | .Mod=>some (dOp Qa0 fa fb)
   | .Pow=>some (dOp Qjh fa fb)
   | .RShift=>some (dOp QoP fa fb)
   | _=>none
  | .UnaryOp .USub a _=>(Qu n Θ a).map Qnb
  | .UnaryOp .Not a _=>(Qu n Θ a).map Qw7
  | .BoolOp .And [a] _=>Qu n Θ a
  | .BoolOp .And (a::b::r) p=>(Qu n Θ a).bind λfa=>(Qu n Θ (.BoolOp .And (b::r) p)).map λfb=>Qgz fa fb
  | .BoolOp .Or [a] _=>Qu n Θ a
  | .BoolOp .Or (a::b::r) p=>(Qu n Θ a).bind λfa=>(Qu n Θ (.BoolOp .Or (b::r) p)).map λfb=>dOr fa fb
  | .Compare a [op] [b] _=>(Qu n Θ a).bind λfa=>(Qu n Θ b).bind λfb=>(Qsu op).map λg=>dOp g fa fb
  | .IfExp c a b _=>(QbD n Θ c).bind λg=>(Qu n Θ a).bind λfa=>(Qu n Θ b).map λfb=>dIf g fa fb
  | .Tuple es _ _=>(Qcl n Θ es).map QaP
  | .List es _=>(Qcl n Θ es).map Qao
  | .Subscript a (.Slice lo hi none _) _=>(Qu n Θ a).bind λfa=>(Qmk n Θ lo).bind λfl=>(Qmk n Θ hi).map λfh=>QbJ fa fl fh
  | .Subscript a b _=>(Qu n Θ a).bind λfa=>(Qu n Θ b).map λfb=>Qn fa fb
  | .Call (.Name x _) args [] _=>if Θ.gl x then(match look x Θ.Γ with
    | some r=>if r.n<=args.length+r.dfl.length/\args.length<=r.n then(Qcl n Θ args).map λfs=>Qm r.n r.den (r.dfl.drop (r.dfl.length-(r.n-args.length))) fs else none
    | none=>Qoy n Θ x args)else none
  | .Call (.Attribute (.Name x p) m apos) [] [] cpos=>if m= "bit_length" /\(apos.endLine == cpos.line)=true then(Qu n Θ (.Name x p)).map Qor else none
  | .ListComp elt [⟨tg,iter,ifs,0⟩] scope _=>(Qk8 (inner Θ scope) tg).bind λt=>if Ql9 Θ scope t && QBM ifs then
    (Qkc n Θ tg iter).bind λfi=>(QhA n (inner Θ scope) ifs).bind λft=>(Qu n (inner Θ scope) elt).map λfe=>QG fi t (QjS Θ scope) ft fe else none
  | _=>none
noncomputable def Qoy(n:Nat)(Θ:Th)(x:Str)(args:List Expr):Option DE:=match n with
  | 0=>none
  | n+1=>match args with
    | [a]=>match Qk7 Θ x a with
     | some b=>(Qu n Θ b).map Qov
     | none=>(Qu n Θ a).bind λfa=>bf1 x fa
    | [a,b]=>if x= "isinstance" then(Qu n Θ a).bind λfa=>match b with
        | .Name y _=>if Θ.gl y then(Qvl y).map λT=>Qhf T fa else none
        | _=>none
      else(Qu n Θ a).bind λfa=>(Qu n Θ b).bind λfb=>bf2 x fa fb
    | _=>none
noncomputable def QbD(n:Nat)(Θ:Th)(e:Expr):Option DT:=match n with
 | 0=>none
 | n+1=>match e with
  | .UnaryOp .Not a _=>(QbD n Θ a).map QbG
  | .BoolOp .And [a] _=>QbD n Θ a
  | .BoolOp .And (a::b::r) p=>(QbD n Θ a).bind λfa=>(QbD n Θ (.BoolOp .And (b::r) p)).map λfb=>Qiy fa fb
  | .BoolOp .Or [a] _=>QbD n Θ a
  | .BoolOp .Or (a::b::r) p=>(QbD n Θ a).bind λfa=>(QbD n Θ (.BoolOp .Or (b::r) p)).map λfb=>bOr fa fb
  | .Compare a [op] [b] _=>(Qu n Θ a).bind λfa=>(Qu n Θ b).bind λfb=>(Qsu op).map λg=>QD (dOp g fa fb)
  | .BoolOp _ _ _=>none
  | .IfExp _ _ _ _=>none
  | .Compare _ _ _ _=>none
  | e=>(Qu n Θ e).map QD
noncomputable def QhA(n:Nat)(Θ:Th)(es:List Expr):Option DT:=match n with
 | 0=>none
 | n+1=>match es with
  | []=>some QO
  | [c]=>QbD n Θ c
  | _=>none
noncomputable def Qcl(n:Nat)(Θ:Th)(es:List Expr):Option DA:=match n with
 | 0=>none
 | n+1=>match es with
  | []=>some Qe
  | e::es=>(Qu n Θ e).bind λfa=>(Qcl n Θ es).map λfs=>Qa fa fs
noncomputable def Qmk(n:Nat)(Θ:Th)(e:Option Expr):Option DO:=match n with
 | 0=>none
 | n+1=>match e with
  | none=>some QbV
  | some e=>(Qu n Θ e).map QaI
noncomputable def Qkc(n:Nat)(Θ:Th)(tg e:Expr):Option DI:=match n with
 | 0=>none
 | n+1=>match e with
  | .Call (.Name x _) args [] _=>if Θ.gl x && (look x Θ.Γ).isNone then(match args with
    | [a]=>if x= "range" then(Qu n Θ a).map QaY else
     if x= "enumerate" then(if isTup tg then(Qu n Θ a).map Qct else none)else
     (Qu n Θ e).map Q2
    | [a,b,c]=>
     if x= "range" then(Qu n Θ a).bind λfa=>(Qu n Θ b).bind λfb=>(Qu n Θ c).map λfc=>Qf0 fa fb fc else
     if x= "zip" then(if isTup tg then(Qu n Θ a).bind λfa=>(Qu n Θ b).bind λfb=>(Qu n Θ c).map λfc=>QhI fa fb fc else none)else
     (Qu n Θ e).map Q2
    | [a,b]=>
     if x= "range" then(Qu n Θ a).bind λfa=>(Qu n Θ b).map λfb=>QeU fa fb else
     if x= "zip" then(if isTup tg then(Qu n Θ a).bind λfa=>(Qu n Θ b).map λfb=>Qak fa fb else none)else
     (Qu n Θ e).map Q2
    | _=>(Qu n Θ e).map Q2)else(Qu n Θ e).map Q2
  | e=>(Qu n Θ e).map Q2
end
theorem Qa9{α β γ:Type}{x:Option α}{y:α->Option β}{k:α->β->γ}{r:γ}(e:(x.bind λa=>(y a).map λb=>k a b)=some r):∃a b,x=some a/\y a=some b/\k a b=r:=by
 refine Qj e λa h1 e=>?_;obtain⟨b,h2,e⟩:=Zk.mp e;exact⟨a,b,h1,h2,e⟩
theorem bindR{α β γ:Type}{x:Option α}{y:α->Option β}{k:α->β->γ}{r:γ}{M:γ->Prop}(e:(x.bind λa=>(y a).map λb=>k a b)=some r)(g:∀a b,x=some a->y a=some b->M (k a b)):M r:=by
 obtain⟨a,b,h1,h2,rfl⟩:=Qa9 e;exact g a b h1 h2
theorem QaE(h:Qu n Θ e=some f)(es:List Expr)(env:Env):starEach (e::es) env=(false,eval e env)::starEach es env:=by
 cases n with
 | zero=>exact nn h
 | succ n=>cases e<;>first | rfl | (exact nn h)
theorem Qrq:∀{n:Nat}{Θ:Th}{es:List Expr}{f:DA},Qcl n Θ es=some f->∀(pos:Pos) (env:Env),(backTo pos (starEach es env)).any (·.1)=false
 | 0,_,_,_,h,_,_=>by simp[Qcl]at h
 | n+1,_,[],_,h,_,_=>rfl
 | n+1,_,e::es,_,h,pos,env=>by
  simp only[Qcl]at h;obtain⟨fa,fs,h1,h2,_⟩:=Qa9 h;rw[QaE h1];have:=Qrq h2 pos env;simpa[backTo]using this
theorem Qro(h:Qu n Θ b=some f):Qj9 b:=by
 cases n with
 | zero=>exact nn h
 | succ n=>cases b<;>first | (intro o i;rfl) | (exact nn h)
theorem QzK(h:Qu n Θ e=some f)(env:Env):∀x,foldedSetIterable e env x=pure x:=by
 cases n with
 | zero=>exact nn h
 | succ n=>cases e<;>first | (intro x;rfl) | (exact nn h)
theorem Qul(h:Qu n Θ e=some f)(op:CmpOp):behindInMarks op e=false:=by
 cases n with
 | zero=>exact nn h
 | succ n=>cases e<;>first | rfl | (exact nn h)
theorem QeH{env:Env}:∀{names:List (Str×NameKind)}{x:Str},names.lookup x=some .cell→
  (names.map λ(n,k)=>if(k == NameKind.free && env.scope.kind == .function && env.kindOf n == some .cell)then(n,NameKind.cell)else(n,k)).lookup x=some .cell
 | [],_,h=>by simp at h
 | (n,k)::r,x,h=>by
  have ih:= @QeH env r x;rw[ZM];cases hx:x == n with
  | true=>
   simp only[Zz,hx]at h;cases h;dsimp only;split<;>simp[Zz,hx]
  | false=>
   simp only[Zz,hx]at h;dsimp only;split<;>(simp only[Zz,hx];exact ih h)
theorem Qpo{X:Cx}{Θ:Th}{scope:Scope}{t:Tg}(ok:QaX X Θ)(h:Ql9 Θ scope t=true):Qfi X (inner Θ scope).N scope/\Qom X (inner Θ scope).N scope (QjS Θ scope) t.slots/\∀cl C fp s3 H3,QaX (cxc X (inner Θ scope).N scope cl C fp s3 H3) (inner Θ scope):=by
 unfold Ql9 at h;simp only[Zg,decide_eq_true_eq]at h;obtain⟨⟨⟨h1,h2⟩,h3⟩,h4⟩:=h;have hk:scope.kind= .function:=by simpa using h1
 have each:∀y∈scope.names,(y.2= .cell->scope.names.lookup y.1=some .cell)/\(y.2= .local ->scope.names.lookup y.1=some .local)/\(y.2= .free->X.env.kindOf y.1=some .cell∨X.env.kindOf y.1=some .free):=λy hy=>by
  have:=ZaK.mp h3 y hy;obtain⟨y,k⟩:=y;cases k with
  | cell=>exact⟨λ_=>(by rw[← QbY];simpa using this),λz=>(by cases z),λz=>(by cases z)⟩
  | «local» =>exact⟨λz=>(by cases z),λ_=>by rw[← QbY];simpa using this,λz=>by cases z⟩
  | free=>
   refine⟨λz=>(by cases z),λz=>(by cases z),λ_=>?_⟩;dsimp only at this;split at this
   ·rename_i q;exact .inl (ok.ce _ q).1
   ·rename_i q;exact ok.fe _ q
   ·cases this
  | _=>exact⟨λz=>(by cases z),λz=>(by cases z),λz=>(by cases z)⟩
 have S:Qfi X (inner Θ scope).N scope:=⟨hk,λy hy=>(each y hy).1,λy hy=>(each y hy).2.1,λy hy=>(each y hy).2.2⟩;refine⟨S,⟨by unfold QjS;simp,λj i e=>?_,λj i e hj=>?_⟩,λcl C fp s3 H3=>⟨⟨rfl,h2,λx e=>?_,λx e=>?_,λx e=>?_,λx e=>?_,ok.units,ok.mg,ok.cs⟩,ok.calm,PassesOwn.never,ok.fns,λ_ _ e=>nomatch e⟩⟩
 ·unfold QjS at e;rw[Zr]at e;cases q:(inner Θ scope).N[j]? with
  | none=>rw[q]at e;cases e
  | some x=>
   rw[q]at e;simp only[ZX,Option.some.injEq]at e;split at e
   ·rename_i hf;cases hl:look x scope.names with
    | none=>rw[hl]at hf;cases hf
    | some k=>
     rw[hl]at hf;cases k with
     | free=>
      rw[QbY]at hl;exact⟨x,rfl,hl,by rw[ok.N];exact QgY e,(each (x,.free) (Zar hl)).2.2 rfl⟩
     | _=>cases hf
   ·cases e
 ·have:=ZaK.mp h4 j hj;rw[e]at this;cases this
 ·have e':scope.names.lookup x=some .local :=by rw[← QbY];exact e
  exact lookup_relabel_local e'
 ·have e':scope.names.lookup x=some .cell:=by rw[← QbY];exact e
  exact⟨QeH e',decide_eq_true e'⟩
 ·have e':scope.names.lookup x=some .free:=by rw[← QbY];exact e
  exact Qc2 e'
 ·have e':scope.names.lookup x=some .globalImplicit:=by rw[← QbY];exact e
  show(relabel scope X.env).names.lookup x=some .globalImplicit;unfold relabel
  have gen:∀{names:List (Str×NameKind)},names.lookup x=some .globalImplicit→
    (names.map λ(n,k)=>if(k == NameKind.free && X.env.scope.kind == .function && X.env.kindOf n == some .cell)then(n,NameKind.cell)else(n,k)).lookup x=some .globalImplicit:=by
   intro names
   induction names with
   | nil=>intro z;simp at z
   | cons y r ih=>
    intro z;obtain⟨n,k⟩:=y;rw[ZM];cases hx:x == n with
    | true=>
     simp only[Zz,hx]at z;cases z;simp[Zz,hx]
    | false=>
     simp only[Zz,hx]at z;dsimp only;split<;>(simp only[Zz,hx];exact ih z)
  exact gen e'
theorem Qot(ok:QaX X Θ)(h:Qk8 Θ tg=some t):SG X tg t:=by
 have hN:X.N.Nodup:=by rw[ok.N];exact ok.nd
 cases tg with
 | Name x pos=>
  change Option.map _ _=_ at h;refine mapR h λi hi=>?_;obtain⟨h1,h2,h3⟩:=QeZ ok.toCtxB hi;exact QxN (QrF hN h1 h2 h3)
 | Tuple es k pos=>
  change Option.map _ _=_ at h;refine mapR h λis hi=>?_;refine Qj hi λxs h1 h2=>?_;have key:∀(es:List Expr) (xs:List Str) (is:List Nat),es.mapM Qfd=some xs->xs.mapM Θ.QdC=some is->PGs X es (Qmc is)/\(assignEach es X.env).length=is.length/\(assignEach es X.env).findIdx? (·.1)=none:=by
   intro es
   induction es with
   | nil=>
    intro xs is h1 h2;cases h1;cases h2;exact⟨QyT,rfl,rfl⟩
   | cons e es ih=>
    intro xs is h1 h2;rw[List.mapM_cons]at h1;refine Qj h1 λx hx h1=>?_;refine Qj h1 λys hy h1=>?_;cases h1;rw[List.mapM_cons]at h2;refine Qj h2 λi hi h2=>?_;refine Qj h2 λjs hj h2=>?_;cases h2;obtain⟨a1,a2,a3⟩:=ih ys js hy hj;cases e with
    | Name y p=>
     cases hx;obtain⟨g1,g2,g3⟩:=QeZ ok.toCtxB hi;refine⟨Qvp (QrF hN g1 g2 g3) a1 rfl,?_,?_⟩
     ·show(assignEach es X.env).length+1=_;rw[a2];rfl
     ·show List.findIdx? (·.1) ((false,assign (.Name x p) X.env)::assignEach es X.env)=none;rw[List.findIdx?_cons];simp only[a3];rfl
    | _=>cases hx
  obtain⟨a1,a2,a3⟩:=key es xs is h1 h2;exact QBl ok.calm a1 a2 a3
 | _=>exact nn h
theorem QrO{f:Int->Int->Bool}:∀a b d,gI (λi j=>some (.bl (f i j))) a b=some d->∃k,d= .bl k:=λa b d h=>by
 obtain⟨i,j,_,_,e⟩:=Qty h;cases e;exact⟨_,rfl⟩
theorem Quw(ok:QaX X Θ)(h:Qsu op=some g):∃r,OpR X (compareOp op) r/\Qce X.K g r/\∀a b d,g a b=some d->∃k,d= .bl k:=by
 cases op<;>cases h
 ·exact⟨_,Qz3 ok.units,QB1,λa b d h=>by unfold gEq at h;split at h<;>cases h;exact⟨_,rfl⟩⟩
 ·exact⟨_,QAf ok.units,QBB,λa b d h=>by unfold gNe at h;split at h<;>cases h;exact⟨_,rfl⟩⟩
 ·exact⟨_,QBF,QB4,QrO⟩
 ·exact⟨_,QBE,QBQ,QrO⟩
 ·exact⟨_,QBH,QBw,QrO⟩
 ·exact⟨_,QBr,QB8,QrO⟩
 ·exact⟨_,QA2.or QBd,Qz5,Qq0⟩
 ·exact⟨_,QxX.or Qyl,Qtk,Qq0⟩
 ·exact⟨_,QA7 ok.units,Qxo,λa b d h=>by unfold gIn at h;split at h<;>first | (split at h<;>cases h;exact⟨_,rfl⟩) | cases h⟩
 ·exact⟨_,QuP ok.units,Qxo,λa b d h=>by unfold gIn at h;split at h<;>first | (split at h<;>cases h;exact⟨_,rfl⟩) | cases h⟩
structure Qmg (n:Nat):Prop where
 E:∀X Θ e f,QaX X Θ->Qu n Θ e=some f->SE X e f
 B:∀X Θ x args f p pos,QaX X Θ->Θ.gl x=true->Qoy n Θ x args=some f->SE X (.Call (.Name x p) args [] pos) f
 T:∀X Θ e f,QaX X Θ->QbD n Θ e=some f->ST X e f
 Ts:∀X Θ e f,QaX X Θ->QhA n Θ e=some f->Qp8 X e f
 A:∀X Θ e f,QaX X Θ->Qcl n Θ e=some f->SA X e f
 O:∀X Θ e f,QaX X Θ->Qmk n Θ e=some f->SO X e f
 I:∀X Θ tg e f,QaX X Θ->Qkc n Θ tg e=some f->SI X tg e f/\∀x,foldedSetIterable e X.env x=pure x
theorem callArgs{X:Cx}{n:Nat}{Θ:Th}{es:List Expr}{fs:DA}(h:Qcl n Θ es=some fs){e:Expr}{es':List Expr}(he:es=e::es')(pos:Pos):starEach (e::es') X.env=(false,eval e X.env)::starEach es' X.env/\(backTo pos (starEach es' X.env)).any (·.1)=false:=by
 subst he;cases n with
 | zero=>simp[Qcl]at h
 | succ n=>
  simp only[Qcl]at h;obtain⟨fa,fs',h1,h2,_⟩:=Qa9 h;exact⟨QaE h1 es' X.env,Qrq h2 pos X.env⟩
theorem QBs(ih:Qmg n):∀X Θ e f,QaX X Θ->Qu (n+1) Θ e=some f->SE X e f:=by
  intro X Θ e f ok h;cases e with
  | Name x pos=>
    (conv at h=>lhs;whnf)
    cases q:Θ.slot x with
    | some i=>rw[q]at h;cases h;exact Qet (QaB ok.toCtxB q)
    | none=>
      rw[q]at h;dsimp only at h;split at h
      · rename_i hg
        refine mapR h λi hi=>?_;obtain⟨g1,g2,g3⟩:=Qh3 ok.toCtxB hg;obtain⟨t,hm⟩:=ok.cs x i hi;exact Qp0 (v:= .int i) (Qyr g1 hm ⟨t,rfl⟩ g2) (λ_ _=> .int_mk) rfl
      · cases h
  | Constant c k pos=>
    cases c with
    | int i=>(conv at h=>lhs;whnf);cases h;exact Qp0 QzB (λ_ _=> .int_mk) rfl
    | bool b=>(conv at h=>lhs;whnf);cases h;exact Qp0 QBL (λ_ _=> .QcC) rfl
    | none=>(conv at h=>lhs;whnf);cases h;exact Qp0 QAJ (λ_ _=> .QlM) rfl
    | str x=>(conv at h=>lhs;whnf);cases h;exact Qp0 QAY (λ_ _=> .str_mk) rfl
    | _=>exact nn h
  | BinOp a op b pos=>
    (conv at h=>lhs;whnf)
    refine Qj h λfa h1 h=>?_;refine Qj h λfb h2 h=>?_;have ha:=ih.E X Θ a fa ok h1;have hb:=ih.E X Θ b fb ok h2;cases op with
    | Add=>cases h;exact QBg ha hb
    | Mult=>cases h;exact QBc ha hb
    | Sub=>cases h;exact QlV Qzt Qtj ha hb
    | FloorDiv=>cases h;exact QlV QxS QA3 ha hb
    | Mod=>cases h;exact QlV QyM QAX ha hb
    | Pow=>cases h;exact QlV Qyo QAF ha hb
    | RShift=>cases h;exact QlV QzR Qz1 ha hb
    | _=>cases h
  | UnaryOp op a pos=>
    cases op with
    | USub=>
      (conv at h=>lhs;whnf)
      refine mapR h λfa h1=>?_;exact QzT (ih.E X Θ a fa ok h1)
    | Not=>
      (conv at h=>lhs;whnf)
      refine mapR h λfa h1=>?_;exact QAo (ih.E X Θ a fa ok h1)
    | _=>exact nn h
  | BoolOp op es pos=>
    cases op with
    | And=>
      match es,h with
      | [],h=>exact nn h
      | [a],h=>(conv at h=>lhs;whnf);exact Quy (ih.E X Θ a f ok h)
      | a::b::r,h=>
        (conv at h=>lhs;whnf)
        refine bindR h λfa fb h1 h2=>?_;exact QAR (ih.E X Θ a fa ok h1) (ih.E X Θ _ fb ok h2)
    | Or=>
      match es,h with
      | [],h=>exact nn h
      | [a],h=>(conv at h=>lhs;whnf);exact Quy (ih.E X Θ a f ok h)
      | a::b::r,h=>
        (conv at h=>lhs;whnf)
        refine bindR h λfa fb h1 h2=>?_;exact QCq (ih.E X Θ a fa ok h1) (ih.E X Θ _ fb ok h2)
  | Compare a ops bs pos=>
    match ops,bs,h with
    | [op],[b],h=>
      (conv at h=>lhs;whnf)
      refine Qj h λfa h1 h=>?_;refine bindR h λfb g h2 h3=>?_;obtain⟨r,o1,o2,_⟩:=Quw ok h3;exact QzA o1 o2 (ih.E X Θ a fa ok h1) (ih.E X Θ b fb ok h2) (Qul h2 op)
    | [],_,h=>exact nn h
    | [_],[],h=>exact nn h
    | [_],_::_::_,h=>exact nn h
    | _::_::_,_,h=>exact nn h
  | IfExp c a b pos=>
    (conv at h=>lhs;whnf)
    refine Qj h λg h1 h=>?_;refine bindR h λfa fb h2 h3=>?_;exact QCf (ih.T X Θ c g ok h1) (ih.E X Θ a fa ok h2) (ih.E X Θ b fb ok h3)
  | Tuple es k pos=>
    (conv at h=>lhs;whnf)
    refine mapR h λfs h1=>?_;exact Qz9 (ih.A X Θ es fs ok h1)
  | List es pos=>
    (conv at h=>lhs;whnf)
    refine mapR h λfs h1=>?_;exact QzG (ih.A X Θ es fs ok h1)
  | Subscript a b pos=>
    by_cases hb:∃lo hi p2,b= .Slice lo hi none p2
    · obtain⟨lo,hi,p2,rfl⟩:=hb
      (conv at h=>lhs;whnf)
      refine Qj h λfa h1 h=>?_;refine bindR h λfl fh h2 h3=>?_;exact Qz7 (ih.E X Θ a fa ok h1) (ih.O X Θ lo fl ok h2) (ih.O X Θ hi fh ok h3)
    · have h':((Qu n Θ a).bind λfa=>(Qu n Θ b).map λfb=>Qn fa fb)=some f:=by
        cases b<;>first
          | (exact h)
          | (rename_i lo hi st p2;cases lo<;>cases hi<;>cases st<;>first | (exact absurd ⟨_,_,_,rfl⟩ hb) | (exact h))
      refine bindR h' λfa fb h1 h2=>?_;exact QAm (ih.E X Θ a fa ok h1) (ih.E X Θ b fb ok h2) (Qro h2)
  | Call fn args kws pos=>
    cases fn with
    | Name x p=>
     cases kws with
     | cons k ks=>exact nn h
     | nil=>
      have h:(if Θ.gl x then(match look x Θ.Γ with | some r=>if r.n<=args.length+r.dfl.length/\args.length<=r.n then(Qcl n Θ args).map λfs=>Qm r.n r.den (r.dfl.drop (r.dfl.length-(r.n-args.length))) fs else none | none=>Qoy n Θ x args)else none)=some f:=h;split at h
      · rename_i hg
        obtain⟨g1,g2,g3⟩:=Qh3 ok.toCtxB hg;split at h
        · rename_i r hr
          split at h
          · rename_i hn
            refine mapR h λfs h1=>?_;obtain⟨k,fa,fd,ps,F1,F2,F3,F4,F5⟩:=ok.fns x r hr;obtain⟨ds,dvs,b1,b2,b3⟩:=F5 (r.n-args.length) ⋯;cases args with
            | nil=>
              cases n with
              | zero=>simp[Qcl]at h1
              | succ n=>
                simp only[Qcl]at h1;cases h1;exact Qu2 F1 F2 g1 F3 F4 b1 b2 b3 g2
            | cons e es=>
              obtain⟨s1,s2⟩:=callArgs (X:=X) h1 rfl pos;exact QxQ F1 F2 g1 F3 F4 b1 b2 b3 (ih.A X Θ _ fs ok h1) g2 s1 s2
          · cases h
        · exact ih.B X Θ x args f p pos ok hg h
      · cases h
    | Attribute o m apos=>
      cases o with
      | Name x p=>
        cases args with
        | nil=>
          cases kws with
          | nil=>
            have h:(if m= "bit_length" /\(apos.endLine == pos.line)=true then(Qu n Θ (.Name x p)).map Qor else none)=some f:=h;split at h
            · rename_i hc
              refine mapR h λfa h1=>?_;obtain⟨rfl,hl⟩:=hc;exact Qyi (ih.E X Θ _ fa ok h1) rfl hl
            · cases h
          | cons _ _=>exact nn h
        | cons _ _=>exact nn h
      | _=>exact nn h
    | _=>exact nn h
  | ListComp elt gens scope pos=>
    match gens,h with
    | [⟨tg,iter,ifs,k⟩],h=>
      by_cases hk:k=0
      · subst hk
        (conv at h=>lhs;whnf)
        refine Qj h λt ht h=>?_;split at h
        · rename_i hc
          simp only[Zg]at hc;refine Qj h λfi h1 h=>?_;refine bindR h λft fe h2 h3=>?_;obtain⟨S,cap,inn⟩:=Qpo ok hc.1;obtain⟨i1,i2⟩:=ih.I X Θ tg iter fi ok h1;exact QyF ok.calm S i1 cap (λcl C fp s3 H3=>⟨Qot (inn cl C fp s3 H3) ht,ih.Ts _ _ ifs ft (inn cl C fp s3 H3) h2,ih.E _ _ elt fe (inn cl C fp s3 H3) h3⟩) i2
        · cases h
      · exfalso
        cases k with
        | ofNat k=>
          cases k with
          | zero=>exact hk rfl
          | succ k=>exact nn h
        | negSucc k=>exact nn h
    | [],h=>exact nn h
    | ⟨_,_,_,.ofNat 0⟩::_::_,h=>exact nn h
    | ⟨_,_,_,.ofNat (k+1)⟩::_::_,h=>exact nn h
    | ⟨_,_,_,.negSucc k⟩::_::_,h=>exact nn h
  | _=>exact nn h
theorem QAx(ok:QaX X Θ)(g1:Gl X x)(sa:SA X [a] (Qa fa Qe))(st:starEach [a] X.env=(false,eval a X.env)::starEach [] X.env)(h:bf1 x fa=some f):SE X (.Call (.Name x p) [a] [] pos) f:=by
 unfold bf1 at h;by_cases e:x= "len"
 ·rw[if_pos e]at h;cases h;subst e;have hm:=ok.mg "len" (by decide+kernel);exact QiC Qp4 Qzw g1 hm PySem.boot_len sa (by decide) (by decide) st rfl
 rw[if_neg e]at h;clear e;by_cases e:x= "list"
 ·rw[if_pos e]at h;cases h;subst e;have hm:=ok.mg "list" (by decide+kernel);exact Qyx g1 hm sa st rfl
 rw[if_neg e]at h;clear e;by_cases e:x= "abs"
 ·rw[if_pos e]at h;cases h;subst e;have hm:=ok.mg "abs" (by decide+kernel);exact QiC Qv0 QAy g1 hm PyProof.Rows.boot_abs sa (by decide) (by decide) st rfl
 rw[if_neg e]at h;clear e;by_cases e:x= "min"
 ·rw[if_pos e]at h;cases h;subst e;have hm:=ok.mg "min" (by decide+kernel);exact QiC (QtT ok.calm) Qzi g1 hm PyProof.Rows.boot_min sa (by decide) (by decide) st rfl
 rw[if_neg e]at h;clear e;by_cases e:x= "max"
 ·rw[if_pos e]at h;cases h;subst e;have hm:=ok.mg "max" (by decide+kernel);exact QiC (QtL ok.calm) Qyb g1 hm PyProof.Rows.boot_max sa (by decide) (by decide) st rfl
 rw[if_neg e]at h;clear e;by_cases e:x= "sum"
 ·rw[if_pos e]at h;cases h;subst e;have hm:=ok.mg "sum" (by decide+kernel);exact QiC (Qtf ok.calm) Qy3 g1 hm PyProof.Rows.boot_sum sa (by decide) (by decide) st rfl
 rw[if_neg e]at h;clear e;by_cases e:x= "tuple"
 ·rw[if_pos e]at h;cases h;subst e;have hm:=ok.mg "tuple" (by decide+kernel);exact Qy2 g1 hm sa st rfl
 rw[if_neg e]at h;clear e;cases h
theorem QzL(ok:QaX X Θ)(g1:Gl X x)(sa:SA X [a,b] (Qa fa (Qa fb Qe)))(st:starEach [a,b] X.env=(false,eval a X.env)::starEach [b] X.env)(pl:(backTo pos (starEach [b] X.env)).any (·.1)=false)(h:bf2 x fa fb=some f):SE X (.Call (.Name x p) [a,b] [] pos) f:=by
 unfold bf2 at h;by_cases e:x= "min"
 ·rw[if_pos e]at h;cases h;subst e;have hm:=ok.mg "min" (by decide+kernel);exact QiC (QuG ok.calm) QyU g1 hm PyProof.Rows.boot_min sa (by decide) (by decide) st pl
 rw[if_neg e]at h;clear e;by_cases e:x= "max"
 ·rw[if_pos e]at h;cases h;subst e;have hm:=ok.mg "max" (by decide+kernel);exact QiC (QuM ok.calm) Qx5 g1 hm PyProof.Rows.boot_max sa (by decide) (by decide) st pl
 rw[if_neg e]at h;clear e;by_cases e:x= "divmod"
 ·rw[if_pos e]at h;cases h;subst e;have hm:=ok.mg "divmod" (by decide+kernel);exact QCt (x:= "divmod") g1 hm sa st pl
 rw[if_neg e]at h;clear e;cases h
theorem QBy(ih:Qmg n):∀X Θ x args f p pos,QaX X Θ->Θ.gl x=true->Qoy (n+1) Θ x args=some f->SE X (.Call (.Name x p) args [] pos) f:=by
 intro X Θ x args f p pos ok hg h;obtain⟨g1,g2,g3⟩:=Qh3 ok.toCtxB hg
 match args,h with
 | [],h=>exact nn h
 | [a],h=>
  change(match Qk7 Θ x a with | some b=>(Qu n Θ b).map Qov | none=>(Qu n Θ a).bind λfa=>bf1 x fa)=some f at h;split at h
  ·rename_i b hr;refine mapR h λfb h1=>?_;unfold Qk7 at hr;split at hr
   ·rename_i y p' b' pos';split at hr
    ·rename_i hc;cases hr;obtain⟨c1,c2,c3,_⟩:=hc;subst c1;subst c2;obtain⟨y1,y2,y3⟩:=Qh3 ok.toCtxB c3;exact QyJ g1 (ok.mg _ (by decide+kernel)) y1 (ok.mg _ (by decide+kernel)) ok.calm (ih.E X Θ b fb ok h1) (QaE h1 [] X.env)
    ·cases hr
   ·cases hr
  refine Qj h λfa h1 h=>?_;have ha:=ih.E X Θ a fa ok h1;have st:=QaE h1 [] X.env;exact QAx ok g1 (QhU ha QlC st) st h
 | [a,b],h=>
  change(if x= "isinstance" then(Qu n Θ a).bind λfa=>(match b with | .Name y _=>if Θ.gl y then(Qvl y).map λT=>Qhf T fa else none | _=>none)else(Qu n Θ a).bind λfa=>(Qu n Θ b).bind λfb=>bf2 x fa fb)=some f at h;split at h
  ·rename_i e;refine Qj h λfa h1 h=>?_;have ha:=ih.E X Θ a fa ok h1;split at h
   ·rename_i y p2;split at h
    ·rename_i hy;refine mapR h λT hT=>?_;obtain⟨y1,y2,y3⟩:=Qh3 ok.toCtxB hy;clear h;subst e;refine Qzr g1 (ok.mg _ (by decide+kernel)) ha ?_ (QaE h1 _ X.env);unfold Qvl at hT;split at hT
     ·rename_i e;cases hT;subst e;exact QhN y1 (ok.mg _ (by decide+kernel)) PyProof.Rows.boot_int rfl
     ·split at hT
      ·rename_i e;cases hT;subst e;exact QhN y1 (ok.mg _ (by decide+kernel)) PyProof.Rows.boot_bool rfl
      ·split at hT
       ·rename_i e;cases hT;subst e;exact QhN y1 (ok.mg _ (by decide+kernel)) ZbD rfl
       ·split at hT
        ·rename_i e;cases hT;subst e;exact QhN y1 (ok.mg _ (by decide+kernel)) Zci rfl
        ·split at hT
         ·rename_i e;cases hT;subst e;exact QhN y1 (ok.mg _ (by decide+kernel)) PyProof.Rows.boot_str rfl
         ·cases hT
    ·cases h
   ·cases h
  ·refine Qj h λfa h1 h=>?_;refine Qj h λfb h2 h=>?_;have ha:=ih.E X Θ a fa ok h1;have hb:=ih.E X Θ b fb ok h2;have sb:SA X [b] (Qa fb Qe):=QhU hb QlC (QaE h2 [] X.env);have sa:SA X [a,b] (Qa fa (Qa fb Qe)):=QhU ha sb (QaE h1 [b] X.env);have pl:(backTo pos (starEach [b] X.env)).any (·.1)=false:=by rw[QaE h2 [] X.env];rfl
   exact QzL ok g1 sa (QaE h1 [b] X.env) pl h
 | _::_::_::_,h=>exact nn h
theorem QBS{n:Nat}(ih:Qmg n):∀X Θ e f,QaX X Θ->QbD (n+1) Θ e=some f->ST X e f:=by
 intro X Θ e f ok h;have dflt:(Qu n Θ e).map QD=some f->(∀whole,isTrue e X.env whole=(do let v ← whole;standAt e.pos;holding [v] (truthy v)))->ST X e f:=λh he=>by
  refine mapR h λfa h1=>?_;exact QBm (ih.E X Θ e fa ok h1) he
 cases e with
 | UnaryOp op a pos=>
  cases op with
  | Not=>
   change(QbD n Θ a).map QbG=some f at h;refine mapR h λfa h1=>?_;exact QAM (ih.T X Θ a fa ok h1)
  | _=>exact dflt h λ_=>rfl
 | BoolOp op es pos=>
  cases op with
  | And=>
   match es,h with
   | [],h=>exact nn h
   | [a],h=>exact(Qx6 (ih.T X Θ a f ok h)).st
   | a::b::r,h=>
    change((QbD n Θ a).bind λfa=>(QbD n Θ (.BoolOp .And (b::r) pos)).map λfb=>Qiy fa fb)=some f at h;refine bindR h λfa fb h1 h2=>?_;have hb:=ih.T X Θ _ fb ok h2;exact(QBe (ih.T X Θ a fa ok h1) (λH0 A0 wh pins s σ H Q I q=>by have:=hb H0 A0 pins s σ H Q I q;exact this)).st
  | Or=>
   match es,h with
   | [],h=>exact nn h
   | [a],h=>exact(Qzq (ih.T X Θ a f ok h)).st
   | a::b::r,h=>
    change((QbD n Θ a).bind λfa=>(QbD n Θ (.BoolOp .Or (b::r) pos)).map λfb=>bOr fa fb)=some f at h;refine bindR h λfa fb h1 h2=>?_;have hb:=ih.T X Θ _ fb ok h2;exact(QBv (ih.T X Θ a fa ok h1) (λH0 A0 wh pins s σ H Q I q=>by have:=hb H0 A0 pins s σ H Q I q;exact this)).st
 | Compare a ops bs pos=>
  match ops,bs,h with
  | [op],[b],h=>
   change((Qu n Θ a).bind λfa=>(Qu n Θ b).bind λfb=>(Qsu op).map λg=>QD (dOp g fa fb))=some f at h;refine Qj h λfa h1 h=>?_;refine bindR h λfb g h2 h3=>?_;obtain⟨r,o1,o2,o3⟩:=Quw ok h3;exact QAP o1 o2 o3 (ih.E X Θ a fa ok h1) (ih.E X Θ b fb ok h2) (Qul h2 op)
  | [],_,h=>exact nn h
  | [_],[],h=>exact nn h
  | [_],_::_::_,h=>exact nn h
  | _::_::_,_,h=>exact nn h
 | IfExp c a b pos=>exact nn h
 | _=>exact dflt h λ_=>rfl
theorem QBP(ih:Qmg n):∀X Θ tg e f,QaX X Θ->Qkc (n+1) Θ tg e=some f->SI X tg e f/\∀x,foldedSetIterable e X.env x=pure x:=by
 intro X Θ tg e f ok h;have dflt:(Qu n Θ e).map Q2=some f->SI X tg e f/\∀x,foldedSetIterable e X.env x=pure x:=λh=>by
  obtain⟨fa,h1,rfl⟩:=Zk.mp h;exact⟨QzW (ih.E X Θ e fa ok h1),QzK h1 X.env⟩
 cases e with
 | Call fn args kws pos=>
  cases fn with
  | Name x p=>
   cases kws with
   | cons k ks=>exact dflt h
   | nil=>
    change @ite _ _ _ _ _=_ at h;split at h
    ·rename_i hg;simp only[Zg]at hg;obtain⟨g1,g2,g3⟩:=Qh3 ok.toCtxB hg.1
     match args,h with
     | [],h=>exact dflt h
     | [a],h=>
      dsimp only at h;by_cases er:x= "range"
      ·rw[if_pos er]at h;obtain⟨fa,h1,rfl⟩:=Zk.mp h;subst er;exact⟨Qtu g1 (ok.mg _ (by decide+kernel)) (ih.E X Θ a fa ok h1) (QaE h1 [] X.env),λ_=>rfl⟩
      rw[if_neg er]at h;by_cases ez:x= "enumerate"
      ·rw[if_pos ez]at h;split at h
       ·rename_i ht;obtain⟨fa,h1,rfl⟩:=Zk.mp h;subst ez;cases tg with
        | Tuple es k tp=>exact⟨Qxv g1 (ok.mg _ (by decide+kernel)) (ih.E X Θ a fa ok h1) (QaE h1 [] X.env),λ_=>rfl⟩
        | _=>exact nomatch (show false=true from ht)
       ·cases h
      rw[if_neg ez]at h;exact dflt h
     | [a,b],h=>
      dsimp only at h;by_cases er:x= "range"
      ·rw[if_pos er]at h;obtain⟨fa,fb,h1,h2,rfl⟩:=Qa9 h;subst er;exact⟨Qt0 g1 (ok.mg _ (by decide+kernel)) (ih.E X Θ a fa ok h1) (ih.E X Θ b fb ok h2) (by rw[QaE h1 [b] X.env,QaE h2 [] X.env];rfl) (QaE h2 [] X.env),λ_=>rfl⟩
      rw[if_neg er]at h;by_cases ez:x= "zip"
      ·rw[if_pos ez]at h;split at h
       ·rename_i ht;obtain⟨fa,fb,h1,h2,rfl⟩:=Qa9 h;subst ez;cases tg with
        | Tuple es k tp=>exact⟨QzN g1 (ok.mg _ (by decide+kernel)) (ih.E X Θ a fa ok h1) (ih.E X Θ b fb ok h2) (by rw[QaE h1 [b] X.env,QaE h2 [] X.env];rfl) (QaE h2 [] X.env),λ_=>rfl⟩
        | _=>exact nomatch (show false=true from ht)
       ·cases h
      rw[if_neg ez]at h;exact dflt h
     | [a,b,c],h=>
      dsimp only at h;by_cases er:x= "range"
      ·rw[if_pos er]at h;refine Qj h λfa h1 h=>?_;obtain⟨fb,fc,h2,h3,rfl⟩:=Qa9 h;subst er;exact⟨Qtp g1 (ok.mg _ (by decide+kernel)) (ih.E X Θ a fa ok h1) (ih.E X Θ b fb ok h2) (ih.E X Θ c fc ok h3) (QaE h1 [b,c] X.env) (QaE h2 [c] X.env) (QaE h3 [] X.env),λ_=>rfl⟩
      rw[if_neg er]at h;by_cases ez:x= "zip"
      ·rw[if_pos ez]at h;split at h
       ·rename_i ht;refine Qj h λfa h1 h=>?_;obtain⟨fb,fc,h2,h3,rfl⟩:=Qa9 h;subst ez;cases tg with
        | Tuple es k tp=>exact⟨Qx3 g1 (ok.mg _ (by decide+kernel)) (ih.E X Θ a fa ok h1) (ih.E X Θ b fb ok h2) (ih.E X Θ c fc ok h3) (QaE h1 [b,c] X.env) (QaE h2 [c] X.env) (QaE h3 [] X.env),λ_=>rfl⟩
        | _=>exact nomatch (show false=true from ht)
       ·cases h
      rw[if_neg ez]at h;exact dflt h
     | _::_::_::_::_,h=>exact dflt h
    ·exact dflt h
  | _=>exact dflt h
 | _=>exact dflt h
theorem Qb6:∀n,Qmg n
 | 0=>⟨λ_ _ _ _ _ h=>(nn h),λ_ _ _ _ _ _ _ _ _ h=>(nn h),λ_ _ _ _ _ h=>(nn h),λ_ _ _ _ _ h=>(nn h),λ_ _ _ _ _ h=>(nn h),λ_ _ _ _ _ h=>(nn h),λ_ _ _ _ _ _ h=>(nn h)⟩
 | n+1=>by
  have ih:=Qb6 n;refine⟨QBs ih,QBy ih,QBS ih,λX Θ e f ok h=>?_,λX Θ e f ok h=>?_,λX Θ e f ok h=>?_,QBP ih⟩
  ·match e,h with
   | [],h=>simp only[QhA]at h;cases h;exact QwB
   | [c],h=>simp only[QhA]at h;exact Qww (ih.T X Θ c f ok h)
   | _::_::_,h=>simp only[QhA]at h;cases h
  ·match e,h with
   | [],h=>simp only[Qcl]at h;cases h;exact QlC
   | e::es,h=>
    simp only[Qcl]at h;refine bindR h λfa fs h1 h2=>?_;exact QhU (ih.E X Θ e fa ok h1) (ih.A X Θ es fs ok h2) (QaE h1 es X.env)
  ·match e,h with
   | none,h=>simp only[Qmk]at h;cases h;exact Qxw
   | some e,h=>
    simp only[Qmk]at h;refine mapR h λfa h1=>?_;exact QyH (ih.E X Θ e fa ok h1)
section
noncomputable def Qy:DS:=λ_=>none
theorem QwC:S1 X st Qy:=λH0 A0=>Qwz.mono λE σ H ⟨ρ,hs,F,o,rel,e,q⟩=>by cases e
theorem Qis:∀{n:Nat}{ρ:En}{o:Out},Qbz g fb n ρ=some o->Qbz g fb (n+1) ρ=some o
 | 0,_,_,h=>by cases h
 | n+1,ρ,o,h=>by
  unfold Qbz at h ⊢;refine Qj h λb hb h=>?_;rw[hb];cases b with
  | false=>exact h
  | true=>
   rw[if_pos rfl]at h;refine Qj h λo1 ho h=>?_;rw[Za,if_pos rfl,ho];cases o1 with
   | nx ρ2=>exact Qis h
   | ct ρ2=>exact Qis h
   | bk ρ2=>exact h
   | rt d fr=>exact h
theorem Qpp(h:Qbz g fb n ρ=some o)(hm:n<=m):Qbz g fb m ρ=some o:=by
 induction hm with
 | refl=>exact h
 | step _ ih=>exact Qis ih
open Classical in
noncomputable def Qca(g:DT)(fb:DS):DS:=λρ=>if h:∃n,(Qbz g fb n ρ).isSome=true then Qbz g fb h.choose ρ else none
theorem QdI:Qca g fb ρ=some o↔∃n,Qbz g fb n ρ=some o:=by
 unfold Qca;constructor
 ·intro h;split at h
  ·exact⟨_,h⟩
  ·cases h
 ·rintro⟨n,h⟩;have hx:∃n,(Qbz g fb n ρ).isSome=true:=⟨n,by rw[h];rfl⟩;rw[dif_pos hx];obtain⟨o',ho'⟩:=Zca.mp hx.choose_spec;have h1:=Qpp h (Nat.le_max_left n hx.choose);have h2:=Qpp ho' (Nat.le_max_right n hx.choose);rw[h1]at h2;rw[ho',← h2]
theorem Qt6(hp:PassesOwn (model X.prog X.w) X.A X.env X.xe)(hc:ST X c gc)(hb:SS X body f):S1 X (.While c body [] pos) (Qca gc f):=λH0 A0 pins s σ H D I h=>by
 obtain⟨ρ,hs,F,o,rel,e,q⟩:=h;obtain⟨n,hn⟩:=QdI.mp e;exact Qv3 (n:=n) hp hc hb H0 A0 pins s σ H D I ⟨ρ,hs,F,o,rel,hn,q⟩
theorem Qtv(g:DT)(fb:DS)(ρ:En):Qca g fb ρ=(g ρ).bind λb=>if b=true then(fb ρ).bind λo=>match o with
  | .nx ρ2=>Qca g fb ρ2
  | .ct ρ2=>Qca g fb ρ2
  | .bk ρ2=>some (.nx ρ2)
  | .rt d fr=>some (.rt d fr)
  else some (.nx ρ):=by
 apply Option.ext;intro o;rw[QdI];constructor
 ·rintro⟨n,h⟩;cases n with
  | zero=>cases h
  | succ n=>
   unfold Qbz at h;refine Qj h λb hb h=>?_;rw[hb];cases b with
   | false=>exact h
   | true=>
    rw[if_pos rfl]at h;refine Qj h λo1 ho h=>?_;rw[Za,if_pos rfl,ho];cases o1 with
    | nx ρ2=>exact QdI.mpr ⟨n,h⟩
    | ct ρ2=>exact QdI.mpr ⟨n,h⟩
    | bk ρ2=>exact h
    | rt d fr=>exact h
 ·intro h;refine Qj h λb hb h=>?_;cases b with
  | false=>exact⟨1,by unfold Qbz;rw[hb];exact h⟩
  | true=>
   rw[if_pos rfl]at h;refine Qj h λo1 ho h=>?_;cases o1 with
   | nx ρ2=>
    obtain⟨n,hn⟩:=QdI.mp h;exact⟨n+1,by unfold Qbz;rw[hb];rw[Za,if_pos rfl,ho];exact hn⟩
   | ct ρ2=>
    obtain⟨n,hn⟩:=QdI.mp h;exact⟨n+1,by unfold Qbz;rw[hb];rw[Za,if_pos rfl,ho];exact hn⟩
   | bk ρ2=>exact⟨1,by unfold Qbz;rw[hb];rw[Za,if_pos rfl,ho];exact h⟩
   | rt d fr=>exact⟨1,by unfold Qbz;rw[hb];rw[Za,if_pos rfl,ho];exact h⟩
noncomputable def Qfa(t:Tg)(fa:DE):DS:=λρ=>(fa ρ).bind λr=>(Qch t r.d (Qbr r.norm.M ρ)).map .nx
theorem Qy7(he:SE X e fa)(hg:SG X tg t)(hs:swapsWithSole [tg] e pos.line X.env=pure false)(hw:swappedStores [tg] e X.env=pure none)(h1:(assignEach [tg] X.env).map (·.2)=[assign tg X.env]):
  S1 X (.Assign [tg] e pos) (Qfa t fa):=λH0 A0=>(Qff (he H0 A0) (hg H0 A0) hs hw h1).mono λE σ H=>exK λρ hs F o rel e q=>by
 refine Qj e λr e1 e=>?_;obtain⟨ρ',e2,rfl⟩:=Zk.mp e;refine⟨ρ,hs,F,r,rel,e1,λv H' G p=>?_⟩;have p':=p.norm;have rp:=p'.rp;rw[r.QcN]at rp;exact⟨Qbr r.norm.M ρ,hs,F,r.d,G,ρ',(rel.ext p'.same).weak (Qby _ _),rp,Shr.of rel p'.src,e2,λσ' F' rel' _ _=>q _ _ F' rel'⟩
theorem QyV(hN:X.N.Nodup)(hx1:X.N[i]? =some x)(hx:Loc X.env.scope x)(hf:X.fn x=true∨X.env.scope.names.lookup x=some .local)
  (hcalm:X.calm=true) (S:Qfi X N' scope) (hi:SI X tg iter fi) (hcap:Qom X N' scope cap t.slots)
  (hin:∀cl C fp s3 H3,SG (cxc X N' scope cl C fp s3 H3) tg t/\Qp8 (cxc X N' scope cl C fp s3 H3) ifs ft/\SE (cxc X N' scope cl C fp s3 H3) elt fe) (hs:∀x,foldedSetIterable iter X.env x=pure x):
  S1 X (.Assign [.Name x pos'] (.ListComp elt [⟨tg,iter,ifs,0⟩] scope pos) spos) (Qs i (QG fi t cap ft fe)):=
 Qqn λH0 A0=>(Qxu hN hx1 hx hf hcalm S (hi H0 A0) (λcl C fp s3 H3=>⟨(hin cl C fp s3 H3).1 _ _,(hin cl C fp s3 H3).2.1 _ _,(hin cl C fp s3 H3).2.2 _ _⟩) hs).mono λE σ H h=>QnI hcap h
end
end HS
namespace HS
open PySem PySem.Spec L2 PyProof.Rows
section
variable {X:Cx}{a b e:Expr}{fa fb:DE}{pf:DP}{x:Nat}{pos apos:Pos}
theorem Qj8{X:Cx}{H:Hp}{ds:List D}{w:V}{Gm:LAd}(h:Rp X.K H (.lst ds) w Gm):tyV X.K "list" w H:=by
 obtain⟨l,ws,L,rfl,hl,_⟩:=h.lst_inv;exact .inl ⟨rfl,ws,Q6 hl⟩
theorem Qaj.unit{K:Fgg}{ρ:En}{F:Nat->List Addr}{H:Hp}:Qaj K ρ F H H ⟨.non,true,[]⟩ .non []:= .flat (QU.refl _) .QlM
noncomputable def QvJ(x:Nat)(pf:DP):DS:=λρ=>match ρ[x]? with
 | some (some (d,true))=>(pf ρ).bind λis=>match Qbf d is with
  | some (.lst _)=>some (.nx (ρ.set x (some (Qbi is d (.lst []),true))))
  | _=>none
 | _=>none
theorem Qv1{H0:Hp}{A0:LAd}{E:Ends}{σ:L2.St}{H:Hp}:tS X.K H0 A0 (QvJ x pf) E σ H->Qkj (QzP X.K "list" Quu (tP X.K H0 A0 x pf)) E σ H:=exK λρ hs F o rel e q=>by
 unfold QvJ at e;split at e
 ·rename_i d hx;refine Qj e λis e2 e=>?_;split at e
  ·rename_i ds hp;cases e;refine⟨ρ,hs,F,d,true,is,.lst ds,rel,hx,e2,hp,λv0 w H2 Gm s2 hv0 fo=>⟨Qj8 fo.rp,?_⟩⟩;obtain⟨l,vsm,Gp,rfl,g1,g2,g3,g4,g5,g6,g7⟩:=(rel.ext s2).write .unit rfl ZaA hx (by simp) hv0 fo;refine⟨l,vsm,rfl,rfl,g1,?_⟩;obtain⟨F',rel'⟩:=g7 [] [] [] (by simp[Rps]) (Zai _) rfl (λa=>by simp);exact q _ _ F' rel'
  ·cases e
 ·cases e
noncomputable def Qba(xs:List α)(k:Nat)(y:α):List α:=xs.take k++y::xs.drop k
noncomputable def QAB:V->List V->Hp->VK->Prop:=λx vs H Q=>∃l xs i y,x= .ref l/\vs=[.int i,y]/\H l=some (.lst xs)/\0<=i/\i<2^62/\xs.length<sizeLine/\Q .non (upd H l (.lst (Qba xs (min i.toNat xs.length) y)))
theorem QBj:MtM X "list.insert" QAB:=by
 intro pins s σ H x vs v us Q I rx rv h;obtain⟨l,xs,i,y,rfl,rfl,hH,h0,h1,hz,q⟩:=h;cases rx;obtain⟨u,w',rfl,⟨t,rfl⟩,rw'⟩:=vals2 rv;obtain⟨z,its,n,r,hl,e⟩:=I.QoN hH;have hfit:¬(!Builtin.List.listFitsIndex i)=true:=by
  unfold Builtin.List.listFitsIndex;simp only[ZaM,Bool.and_eq_false_iff,decide_eq_false_iff_not];omega
 refine call_meets F.slot_list_insert ⟨_,e,rfl⟩ F.entry_list_insert (F.args_list_insert_3 _ _ _) (AutoSeq1.list_insert_list_int_val_1 l its.toArray n i t w' hfit (by rw[Zv];omega)) ⟨e,?_⟩;refine⟨.non,_,I.QsS (its':=Qba its (min i.toNat its.length) w') hH e ?_ ?_ ?_,rfl,q⟩
 ·dsimp only;rw[if_neg ⋯];apply Array.ext';simp[Qba];rw[Zav (by simp)]
 ·rw[hl];unfold Qba;exact(r.take _).append (.cons rw' (r.drop _))
 ·unfold Qba;rw[Zx,ZJ,ZaJ,ZaR];omega
theorem Rps.QAD{K:Fgg}{H:Hp}{d:D}{v:V}(hd:Rp K H d v []):∀{ds:List D}{vs:List V}{F:LAd}(k:Nat),Rps K H ds vs F->Rps K H (Qba ds k d) (Qba vs k v) F
 | ds,vs,F,0,h=>by
  simp only[Qba,List.take_zero,ZbX,Zbk,Rps];exact⟨v,vs,[],F,rfl,rfl,hd,h⟩
 | [],vs,F,k+1,h=>by
  simp only[Rps]at h;obtain⟨rfl,rfl⟩:=h;simp only[Qba,List.take_nil,List.drop_nil,Zbk,Rps];exact⟨v,[],[],[],rfl,rfl,hd,rfl,rfl⟩
 | d'::ds,vs,F,k+1,h=>by
  simp only[Rps]at h;obtain⟨w,ws,F1,F2,rfl,rfl,r,q⟩:=h;have ih:=Rps.QAD hd k q;simp only[Qba,ZbS,List.drop_succ_cons,ZbK,Rps]at ih ⊢;exact⟨w,_,F1,F2,rfl,rfl,r,ih⟩
theorem Qzf(hd:d.flat=true)(ds:List D)(k:Nat):nls (Qba ds k d)=nls ds:=by
 unfold Qba;rw[Qb9];simp only[nls,Qdm d hd];have:=congrArg nls (ZaH k ds);rw[Qb9]at this;omega
noncomputable def Qlm(x:Nat)(pf:DP)(fi fa:DE):DS:=λρ=>match ρ[x]? with
 | some (some (d,true))=>(pf ρ).bind λis=>(fi ρ).bind λri=>(fa ρ).bind λr0=>match Qbf d is,ri.d with
  | some (.lst ds),.int i=>if r0.d.flat=true/\0<=i/\i<2^62/\ds.length<sizeLine then some (.nx (ρ.set x (some (Qbi is d (.lst (Qba ds (min i.toNat ds.length) r0.d)),true))))else none
  | _,_=>none
 | _=>none
theorem Qvr{fi:DE}{H0:Hp}{A0:LAd}{E:Ends}{σ:L2.St}{H:Hp}:tS X.K H0 A0 (Qlm x pf fi fa) E σ H->Qkj (tBM X.K "list" QAB (tP X.K H0 A0 x pf) (QcF (tV X.K H0 A0 fi) (QcF (tV X.K H0 A0 fa) Qgo))) E σ H:=exK λρ hs F o rel e q=>by
 unfold Qlm at e;split at e
 ·rename_i d hx;refine Qj e λis e2 e=>?_;refine Qj e λri e3 e=>?_;refine Qj e λr0 e1 e=>?_;split at e
  ·rename_i ds i hp hr;split at e
   ·rename_i hc;cases e;refine⟨ρ,hs,F,d,true,is,.lst ds,rel,hx,e2,hp,λv0 w H2 Gm s2 hv0 fo=>⟨Qj8 fo.rp,ρ,hs,F,ri,rel.ext s2,e3,λvi H3 Gi pi=>⟨ρ,hs,F,r0,(rel.ext s2).ext pi.same,e1,λvn H4 Gn p=>?_⟩⟩⟩;have rel4:=((rel.ext s2).ext pi.same).ext p.same;obtain⟨l,vsm,Gp,rfl,g1,g2,g3,g4,g5,g6,g7⟩:=rel4.write .unit rfl ZaA hx (by simp) hv0 ((fo.same pi.same).same p.same);have ri':=pi.rp;rw[hr]at ri';have rn:=p.rp;have z:=rn.QbK hc.1;subst z;have n1:=g2.length;rw[ri'.int_inv];refine⟨l,vsm,i,vn,rfl,rfl,g1,hc.2.1,hc.2.2.1,⋯,?_⟩;obtain⟨F',rel'⟩:=g7 (Qba ds (min i.toNat ds.length) r0.d) (Qba vsm (min i.toNat vsm.length) vn) Gp (by rw[← n1];exact Rps.QAD (rn.upd g1 (by simp)) _ (g2.upd g1 g4)) (by unfold Qba;rw[Zx,ZJ,ZaJ,ZaR];omega) (by rw[Qzf hc.1,g3]) (λa=> ⋯);exact q _ _ F' rel'
   ·cases e
  ·cases e
 ·cases e
theorem Rps.erase{K:Fgg}{H:Hp}:∀{ds:List D}{vs:List V}{F:LAd}(k:Nat),QY ds=true->Rps K H ds vs F->Rps K H (ds.eraseIdx k) (vs.eraseIdx k) []
 | [],vs,F,k,_,h=>by
  simp only[Rps]at h;obtain⟨rfl,rfl⟩:=h;simp[Rps]
 | d::ds,vs,F,0,hf,h=>by
  have hF:=h.QbK hf;subst hF;simp only[Rps]at h;obtain⟨w,ws,F1,F2,rfl,eF,r,q⟩:=h;have:F2=[]:=(Zcn.mp eF.symm).2;subst this;simpa using q
 | d::ds,vs,F,k+1,hf,h=>by
  have hF:=h.QbK hf;subst hF;simp only[Rps]at h;obtain⟨w,ws,F1,F2,rfl,eF,r,q⟩:=h;obtain⟨rfl,rfl⟩:=Zcn.mp eF.symm;simp only[QY,Zg]at hf;have ih:=Rps.erase k hf.2 q;simp only[Zbg,Rps];exact⟨w,_,[],[],rfl,rfl,r,ih⟩
theorem QkK:∀(ds:List D) (k:Nat),QY ds=true->QY (ds.eraseIdx k)=true
 | [],_,_=>rfl
 | d::ds,0,h=>by simp only[QY,Zg]at h;exact h.2
 | d::ds,k+1,h=>by
  simp only[QY,Zg]at h;simp only[Zbg,QY,Zg];exact⟨h.1,QkK ds k h.2⟩
noncomputable def QfV(x y:Nat)(fi:DE):DS:=λρ=>match ρ[x]?,ρ[y]? with
 | some (some (.lst xs,true)),some (some (.lst ys,true))=>(fi ρ).bind λri=>match ri.d with
  | .int i=>if x≠y/\QY ys=true/\0<=i/\i<2^62/\xs.length<sizeLine then(ys[i.toNat]?).map λd=> .nx ((ρ.set y (some (.lst (ys.eraseIdx i.toNat),true))).set x (some (.lst (xs++[d]),true)))else none
  | _=>none
 | _,_=>none
theorem QqU{y:Nat}{fi:DE}{H0:Hp}{A0:LAd}{E:Ends}{σ:L2.St}{H:Hp}:tS X.K H0 A0 (QfV x y fi) E σ H->Qkj (tBM X.K "list" Qm4 (tP X.K H0 A0 x Qaf) (QcF (tBM X.K "list" Qqo (tP X.K H0 A0 y Qaf) (QcF (tV X.K H0 A0 fi) Qgo)) Qgo)) E σ H:=exK λρ hs F o rel e q=>by
 unfold QfV at e;split at e
 ·rename_i xs ys hx hy;refine Qj e λri e3 e=>?_;split at e
  ·rename_i i hr;split at e
   ·rename_i hc;obtain⟨hxy,hfl,h0,h1,hz⟩:=hc;obtain⟨d,hd,rfl⟩:=Zk.mp e;refine⟨ρ,hs,F,.lst xs,true,[],.lst xs,rel,hx,rfl,rfl,λv0 w H2 Gm s2 hv0 fo=>⟨Qj8 fo.rp,ρ,hs,F,.lst ys,true,[],.lst ys,rel.ext s2,hy,rfl,rfl,λv1 w1 H3 Gm1 s3 hv1 fo1=>⟨Qj8 fo1.rp,ρ,hs,F,ri,(rel.ext s2).ext s3,e3,λvi H4 Gi pi=>?_⟩⟩⟩;have rel4:=((rel.ext s2).ext s3).ext pi.same;obtain⟨l,vsm,Gp,rfl,g1,g2,g3,g4,g5,g6,g7⟩:=rel4.write .unit rfl ZaA hy (by simp) hv1 (fo1.same pi.same);have ri':=pi.rp;rw[hr]at ri';rw[ri'.int_inv];have n1:=g2.length;have hil:i.toNat<ys.length:=(Zi.mp hd).1;obtain⟨yv,Gy,hyv,ryv,_⟩:=g2.nth hd;have gz:=ryv.QbK (by
     have gen:∀(l:List D) (k:Nat) (d:D),QY l=true->l[k]? =some d->d.flat=true:=by
      intro l
      induction l with
      | nil=>intro k d _ h;simp at h
      | cons a l ih=>
       intro k d hf h;simp only[QY,Zg]at hf;cases k with
       | zero=>simp at h;rw[← h];exact hf.1
       | succ k=>exact ih k d hf.2 (by simpa using h)
     exact gen ys _ _ hfl hd)
    subst gz;refine⟨l,vsm,i,i.toNat,yv,rfl,rfl,g1,⋯,⋯,?_,hyv,?_⟩
    ·unfold seqIndex?;simp only[if_neg (by omega:¬i<0)];rw[if_pos (by simp;omega)]
    obtain⟨F',rel'⟩:=g7 (ys.eraseIdx i.toNat) (vsm.eraseIdx i.toNat) [] (Rps.erase i.toNat hfl (g2.upd g1 g4)) (by rw[List.length_eraseIdx];split<;>omega) (by rw[QiA _ (QkK ys _ hfl)];rfl) (λa=>by simp);simp only[Qbi,kill]at rel';have hx':(ρ.set y (some (.lst (ys.eraseIdx i.toNat),true)))[x]? =some (some (.lst xs,true)):=by rw[Zd (Ne.symm hxy)];exact hx
    obtain⟨v0',hv0',rp0⟩:=rel'.val x _ _ hx';rw[hv0]at hv0';cases hv0';have hw:w=v0:=fo.2.1;subst hw;obtain⟨l2,vs2,Gp2,el2,k1,k2,k3,k4,k5,k6,k7⟩:=rel'.write .unit rfl ZaA hx' (by simp) hv0 (is:=[]) ⟨rfl,rfl,rfl,rp0⟩;cases el2;refine⟨l2,vs2,yv,rfl,rfl,k1,by rw[← k2.length];exact hz,?_⟩;have ryv':Rps X.K (upd (upd H4 l (.lst (vsm.eraseIdx i.toNat))) l2 (.lst (vs2++[yv]))) [d] [yv] []:=by
     simp only[Rps];exact⟨yv,[],[],[],rfl,rfl,(ryv.upd g1 (by simp)).upd k1 (by simp),rfl,rfl⟩
    have hfd:d.flat=true:=by
     have gen:∀(l:List D) (k:Nat) (d:D),QY l=true->l[k]? =some d->d.flat=true:=by
      intro l
      induction l with
      | nil=>intro k d _ h;simp at h
      | cons a l ih=>
       intro k d hf h;simp only[QY,Zg]at hf;cases k with
       | zero=>simp at h;rw[← h];exact hf.1
       | succ k=>exact ih k d hf.2 (by simpa using h)
     exact gen ys _ _ hfl hd
    obtain⟨F'',rel''⟩:=k7 (xs++[d]) (vs2++[yv]) (Gp2++[]) ((k2.upd k1 k4).append ryv') (by rw[Zx,Zbn];omega) (by rw[Zbj,Qb9,k3];simp[nls,Qdm d hfd]) (λa=>by rw[Zbj];omega);exact q _ _ F'' rel''
   ·cases e
  ·cases e
 ·cases e
end
noncomputable def QhS:Expr->Bool
 | .ListComp .. =>false
 | .SetComp .. =>false
 | .DictComp .. =>false
 | _=>true
theorem Qfh(h:QhS e=true):swapsWith e t l env=pure false:=by
 cases e<;>first | rfl | cases h
noncomputable def QuT:Expr->Bool
 | .Tuple .. =>true
 | _=>false
noncomputable def QdO(n:Nat)(Θ:Th)(e:Expr):Option (Nat×DP):=match n with
 | 0=>none
 | n+1=>match e with
  | .Name x _=>(Θ.slot x).map λi=>(i,Qaf)
  | .Subscript a b _=>(QdO n Θ a).bind λq=>(Qu n Θ b).map λfb=>(q.1,Qci q.2 fb)
  | _=>none
theorem Qib:∀(n:Nat) (X:Cx) (Θ:Th) (e:Expr) (q:Nat×DP),QaX X Θ->QdO n Θ e=some q->SPa X e q.1 q.2/\attributeBase e=λ_ env w=>w
 | 0,_,_,_,_,_,h=>(nn h)
 | n+1,X,Θ,e,q,ok,h=>by
  cases e with
  | Name x pos=>
   change Option.map _ _=_ at h;obtain⟨i,hi,rfl⟩:=Zk.mp h;exact⟨QdZ (QaB ok.toCtxB hi),by funext a b c;rfl⟩
  | Subscript a b pos=>
   change Option.bind _ _=_ at h;obtain⟨q',fb,h1,h2,rfl⟩:=Qa9 h;exact⟨Qht (Qib n X Θ a q' ok h1).1 ((Qb6 n).E X Θ b fb ok h2) (Qro h2),by funext a b c;rfl⟩
  | _=>exact nn h
noncomputable def QmO:Expr->Bool
 | .Name .. =>true
 | .Subscript _ (.Slice ..) _=>false
 | .Subscript (.Call ..) _ _=>false
 | .Subscript .. =>true
 | _=>false
noncomputable def QvC:Operator->Option (D->D->Option D)
 | .Add=>some (gI λi j=>some (.int (i+j)))
 | .Sub=>some QaG
 | _=>none
theorem QAe(h:QvC op=some g):∃r,OpR X (inplaceOp op) r/\Qce X.K g r:=by
 cases op<;>cases h
 ·exact⟨_,QxU,Qhd (λi j d e=>by cases e;rfl) λi j d e H Q q=>by cases e;exact⟨i,j,rfl,rfl,q _ λ_=> .int_mk⟩⟩
 ·exact⟨_,QyE,Qtj⟩
noncomputable def QxW:Expr->Bool
 | .Slice .. =>true
 | _=>false
noncomputable def QlI(n:Nat)(Θ:Th)(o:Expr)(m:Str)(args:List Expr):Option DS:=match args with
  | []=>(QdO n Θ o).bind λq=>if m= "clear" then some (QvJ q.1 q.2)else
    none
  | [e]=>if m= "append" then
     (match o,e with
      | .Name x _,.Call (.Attribute (.Name y _) pm apos) [i] [] cpos=>if pm= "pop" /\(apos.endLine == cpos.line)=true then(Θ.slot x).bind λsx=>(Θ.slot y).bind λsy=>(Qu n Θ i).map λfi=>QfV sx sy fi else none
      | o,e=>(QdO n Θ o).bind λq=>(Qu n Θ e).map λfa=>Qil q.1 q.2 fa)
    else
    none
  | [i,e]=>if m= "insert" then(QdO n Θ o).bind λq=>(Qu n Θ i).bind λfi=>(Qu n Θ e).map λfa=>Qlm q.1 q.2 fi fa else none
  | _=>none
theorem QvI(ok:QaX X Θ)(h:QlI n Θ o m args=some f)(hl:(apos.endLine == cpos.line)=true):
  S1 X (.Expr (.Call (.Attribute o m apos) args [] cpos) pos) f:=by
 have base:∀{q:Nat×DP},QdO n Θ o=some q->SPa X o q.1 q.2/\attributeBase o m X.env (eval o X.env)=eval o X.env:=λ{q} h1=>by
  obtain⟨sp,ab⟩:=Qib n X Θ o _ ok h1;exact⟨sp,by rw[ab]⟩
 have app:∀{e:Expr}{f:DS},m= "append" ->((QdO n Θ o).bind λq=>(Qu n Θ e).map λfa=>Qil q.1 q.2 fa)=some f->S1 X (.Expr (.Call (.Attribute o m apos) [e] [] cpos) pos) f:=λ{e f} em h=>by
  obtain⟨q,fa,h1,h2,rfl⟩:=Qa9 h;obtain⟨sp,hb⟩:=base h1;subst em;have he:=(Qb6 n).E X Θ e fa ok h2;have st:=QaE h2 [] X.env;have sa:∀H0 A0,PA X [e] (QcF (tV X.K H0 A0 fa) Qgo):=λH0 A0=>Qag (he H0 A0) Qb8 st;exact λH0 A0=>(QhT (Qol ZaN Zcb Zcc Qi6 (sp H0 A0) (sa H0 A0) hb (by rw[st];rfl) hl st rfl) rfl).mono λE σ H q=>QwD q
 match args,h with
 | [],h=>
  unfold QlI at h;dsimp only at h;obtain⟨⟨x,pf⟩,h1,h⟩:=bind1 h;obtain⟨sp,hb⟩:=base h1;by_cases e:m= "clear"
  ·rw[if_pos e]at h;cases h;subst e;exact λH0 A0=>(QhT (Qtt ZaN PySem.F.slot_list_clear PySem.F.type_list_clear QwQ (sp H0 A0) hb hl) rfl).mono λE σ H q=>Qv1 q
  rw[if_neg e]at h;cases h
 | [e],h=>
  unfold QlI at h;dsimp only at h;by_cases em:m= "append"
  ·rw[if_pos em]at h;split at h
   ·rename_i x p y p' pm apos' i cpos' hz;split at h
    ·rename_i hc;refine Qj h λsx h1 h=>?_;obtain⟨sy,fi,h2,h3,rfl⟩:=Qa9 h;obtain⟨rfl,hl2⟩:=hc;subst em;have spx:=QdZ (QaB ok.toCtxB h1 (pos:=p));have spy:=QdZ (QaB ok.toCtxB h2 (pos:=p'));have hi:=(Qb6 n).E X Θ i fi ok h3;have st:=QaE h3 [] X.env;have sa:∀H0 A0,PA X [i] (QcF (tV X.K H0 A0 fi) Qgo):=λH0 A0=>Qag (hi H0 A0) Qb8 st;have pop:∀H0 A0,PE X (.Call (.Attribute (.Name y p') "pop" apos') [i] [] cpos') (tBM X.K "list" Qqo (tP X.K H0 A0 sy Qaf) (QcF (tV X.K H0 A0 fi) Qgo)):=λH0 A0=>
      Qol ZaN PySem.F.slot_list_pop PySem.F.type_list_pop QvP (spy H0 A0) (sa H0 A0) rfl (by rw[st];rfl) hl2 st rfl
     exact λH0 A0=>(QhT (Qol ZaN Zcb Zcc Qi6 (spx H0 A0) (Qag (pop H0 A0) Qb8 rfl) rfl rfl hl rfl rfl) rfl).mono λE σ H q=>QqU q
    ·cases h
   ·exact app em h
  rw[if_neg em]at h;clear em;clear app;cases h
 | [i,e],h=>
  change(if m= "insert" then(QdO n Θ o).bind λq=>(Qu n Θ i).bind λfi=>(Qu n Θ e).map λfa=>Qlm q.1 q.2 fi fa else none)=some f at h;split at h
  ·rename_i em;refine Qj h λq h1 h=>?_;obtain⟨fi,fa,h2,h3,rfl⟩:=Qa9 h;obtain⟨sp,hb⟩:=base h1;subst em;have hi:=(Qb6 n).E X Θ i fi ok h2;have he:=(Qb6 n).E X Θ e fa ok h3;have st2:=QaE h3 [] X.env;have st:=QaE h2 [e] X.env;have sa:∀H0 A0,PA X [i,e] (QcF (tV X.K H0 A0 fi) (QcF (tV X.K H0 A0 fa) Qgo)):=λH0 A0=>Qag (hi H0 A0) (Qag (he H0 A0) Qb8 st2) st;exact λH0 A0=>(QhT (Qol ZaN PySem.F.slot_list_insert PySem.F.type_list_insert QBj (sp H0 A0) (sa H0 A0) hb (by rw[st,st2];rfl) hl st (by rw[st2];rfl)) rfl).mono λE σ H q=>Qvr q
  ·cases h
 | _::_::_::_,h=>exact nn h
end HS
namespace HS
open PySem PySem.Spec L2 PyProof.Rows
noncomputable def QsN(x:Nat)(fy f1 g1 f2 g2:DE)(ρ:En):Option Out:=if x<ρ.length then(fy ρ).bind λry=>match ry.d with
 | .lst ds=>(g1 ρ).bind λr1=>(f1 ρ).bind λk1=>(g2 ρ).bind λr2=>(f2 ρ).bind λk2=>match k1.d,k2.d with
  | .int i1,.int i2=>(ixN ds.length i1).bind λj1=>(ixN ds.length i2).bind λj2=>some (.nx ((Qbr (ry.M++(r1.M++r2.M)) ρ).set x (some (.lst ((ds.set j1 r1.d).set j2 r2.d),false))))
  | _,_=>none
 | _=>none else none
noncomputable def QkZ(x:Nat)(fy f1 g1 f2 g2:DE):DS:=λρ=>QsN x fy f1 g1 f2 g2 (ρ.set x none)
section
variable {K:Fgg}{H0 H H':Hp}{A0:LAd}{hs:List (V×D×List Addr)}{ρ:En}{F:Nat->List Addr}{σ:L2.St}
theorem Rel.Qj3(rel:Rel K H0 A0 hs ρ F σ H){a:Addr}{zs ys:List V}(ha:H a=some (.lst zs))(h0:H0 a=none)(hn:∀(i:Nat) d b,ρ[i]? =some (some (d,b))->a∉F i)(hh:∀t∈hs,a∉t.2.2):Rel K H0 A0 hs ρ F σ (upd H a (.lst ys)) where
 len:=rel.len
 val:=λi d b e=>by
  obtain⟨v,h1,h2⟩:=rel.val i d b e;exact⟨v,h1,h2.upd ha (hn i d b e)⟩
 own:=rel.own
 src:=rel.src
 held:=λt ht=>⟨(rel.held t ht).1.upd ha (hh t ht),(rel.held t ht).2⟩
 same:=λb o hb=>by
  have:b≠a:=λz=>by rw[z,h0]at hb;cases hb
  rw[Q0 this];exact rel.same b o hb
theorem Rel.put(rel:Rel K H0 A0 hs ρ F σ H){i:Nat}{v:V}(hi:∀d b,ρ[i]? ≠some (some (d,b))):Rel K H0 A0 hs ρ F (σ.set i (some v)) H:=
 ⟨by simpa using rel.len,λj d b e=>by
  obtain⟨w,h1,h2⟩:=rel.val j d b e;have hj:i≠j:=λz=>hi d b (z▸e);exact⟨w,by rw[Zd hj];exact h1,h2⟩,rel.own,rel.src,rel.held,rel.same⟩
theorem Src.more(s:Src ρ F H M G)(h:∀i∈M,i∈M'):Src ρ F H M' G:=λa ha=>by
 rcases s a ha with z | ⟨i,d,b,e,m,w⟩
 ·exact .inl z
 ·exact .inr ⟨i,d,b,e,m,λhb=>h i (w hb)⟩
end
section
variable {X:Cx}{st1 st2 st3:Stmt}{sts:List Stmt}{x:Nat}{fy f1 g1 f2 g2:DE}{g:DS}
theorem QAj(p1:∀H0 A0,PS X st1 (QeS (λσ H Q=>tVA X.K H0 A0 (Qa fy Qe) σ H λxs H1=>∃p ys,xs=[.ref p]/\(SqL X.K H1 p ys∨SqT X.K H1 p ys)/\∀l,H1 l=none->Q (.ref l) (upd H1 l (.lst ys))) (QgV x)))
  (p2:∀H0 A0,PS X st2 (QeS (tV X.K H0 A0 g1) (L2.QaG (Qhb x) (tV X.K H0 A0 f1) QgQ))) (p3:∀H0 A0,PS X st3 (QeS (tV X.K H0 A0 g2) (L2.QaG (Qhb x) (tV X.K H0 A0 f2) QgQ))) (h:SS X sts g):
  SS X (st1::st2::st3::sts) (Qd (QkZ x fy f1 g1 f2 g2) g):=λH0 A0=>
 (QcG (p1 H0 A0) (QcG (p2 H0 A0) (QcG (p3 H0 A0) (h H0 A0)))).mono λE σ H=>exK λρ hs F o rel e q=>by
 refine Qj e λo1 e1 e=>?_;unfold QkZ QsN at e1;split at e1
 case isFalse=>cases e1
 rename_i hx;have hr0:∀d b,(ρ.set x none)[x]? ≠some (some (d,b)):=λd b z=>by
  rw[Zs (by simpa using hx)]at z;cases z
 have rel0:=rel.weak (Qd8 (ρ:=ρ) x);generalize ρ.set x none=ρ0 at *;refine Qj e1 λry ey e1=>?_;split at e1
 case h_2=>cases e1
 rename_i ds hds;refine Qj e1 λr1 eg1 e1=>?_;refine Qj e1 λk1 ef1 e1=>?_;refine Qj e1 λr2 eg2 e1=>?_;refine Qj e1 λk2 ef2 e1=>?_;split at e1
 case h_2=>cases e1
 rename_i i1 i2 hk1 hk2;refine Qj e1 λj1 ej1 e1=>?_;refine Qj e1 λj2 ej2 e1=>?_;cases e1;refine⟨ρ0,hs,F,⟨[ry.d],ry.fr && true,ry.M++[]⟩,rel0,by simp[Qa,Qe,ey],λvs H1 G q1=>?_⟩;have rp:=q1.rp;dsimp only at rp;rw[hds]at rp;obtain⟨v,rfl,rq⟩:=rp.one;obtain⟨l,ws,L,rfl,hl,rl,zl,el⟩:=rq.lst_inv;have memL:∀a∈L,a∈G:=λa ha=>by
  rcases el with rfl | rfl
  ·exact Zc _ ha
  ·exact ha
 refine⟨l,ws,rfl,.inl (Q6 hl),λc hc=>?_⟩;have relx:=rel0.ext q1.same;have nfr:∀(i:Nat) d b,ρ0[i]? =some (some (d,b))->c∉F i:=λi d b ei hci=>by
  obtain⟨zs,z⟩:=relx.mem ei hci;rw[hc]at z;cases z
 have nhs:∀t∈hs,c∉t.2.2:=λt ht hct=>by
  obtain⟨zs,z⟩:=(relx.held t ht).1.mem c hct;rw[hc]at z;cases z
 have h0c:H0 c=none:=relx.same.free hc;have nL:c∉L:=λz=>by
  obtain⟨zs,y⟩:=rl.mem c z;rw[hc]at y;cases y
 have sU:QU H1 (upd H1 c (.lst ws)):=λb o eb=>by
  have:b≠c:=λz=>by rw[z,hc]at eb;cases eb
  rw[Q0 this];exact eb
 have relA:=(relx.ext sU).put (i:=x) (v:= .ref c) hr0;have hσ:(σ.set x (some (.ref c)))[x]? =some (some (.ref c)):=Zs (by rw[← rel0.len];exact hx);generalize hσ':σ.set x (some (V.ref c))=σ1 at relA hσ;show Qu8 _ _ E (σ.set x (some (.ref c))) _;rw[hσ'];have hc2:upd H1 c (.lst ws) c=some (.lst ws):=Qau;have rl2:=rl.same sU;generalize upd H1 c (.lst ws)=H2 at relA hc2 rl2;refine⟨ρ0,hs,F,r1,relA,eg1,λv1 H3 G1 q2=>⟨.ref c,hσ,ρ0,hs,F,k1,relA.ext q2.same,ef1,λu1 H4 Gi q3=>?_⟩⟩;have hc4:=q3.same _ _ (q2.same _ _ hc2);have ru:=q3.rp;rw[hk1]at ru;refine⟨c,ws,i1,j1,rfl,ru.int_inv,hc4,by rw[← rl.length];exact ej1,?_⟩;have nG1:c∉G1:=λz=>by
  rcases q2.src c z with y | ⟨i,d,b,ei,m,_⟩
  ·rw[hc2]at y;cases y
  ·exact nfr i d b ei m
 have hj1:=(Qcw ej1).2.1;obtain⟨G',m1,m2⟩:=Qnc hc4 ((rl2.same q2.same).same q3.same) nL nG1 (q2.rp.same q3.same) hj1;have relB:=((relA.ext q2.same).ext q3.same).Qj3 (ys:=ws.set j1 v1) hc4 h0c nfr nhs;have hc5:upd H4 c (.lst (ws.set j1 v1)) c=some (.lst (ws.set j1 v1)):=Qau;generalize upd H4 c (.lst (ws.set j1 v1))=H5 at relB hc5 m1;refine⟨ρ0,hs,F,r2,relB,eg2,λv2 H6 G2 q4=>⟨.ref c,hσ,ρ0,hs,F,k2,relB.ext q4.same,ef2,λu2 H7 Gj q5=>?_⟩⟩;have hc7:=q5.same _ _ (q4.same _ _ hc5);have rw2:=q5.rp;rw[hk2]at rw2;refine⟨c,ws.set j1 v1,i2,j2,rfl,rw2.int_inv,hc7,by rw[Zaf,← rl.length];exact ej2,?_⟩;have nG2:c∉G2:=λz=>by
  rcases q4.src c z with y | ⟨i,d,b,ei,m,_⟩
  ·rw[hc5]at y;cases y
  ·exact nfr i d b ei m
 have nG':c∉G':=λz=>(m2 c z).elim nL nG1;have hj2:=(Qcw ej2).2.1;obtain⟨G'',n1,n2⟩:=Qnc hc7 ((m1.same q4.same).same q5.same) nG' nG2 (q4.rp.same q5.same) (by rw[Zaf];exact hj2);have relC:=((relB.ext q4.same).ext q5.same).Qj3 (ys:=(ws.set j1 v1).set j2 v2) hc7 h0c nfr nhs;have hc8:upd H7 c (.lst ((ws.set j1 v1).set j2 v2)) c=some (.lst ((ws.set j1 v1).set j2 v2)):=Qau;generalize upd H7 c (.lst ((ws.set j1 v1).set j2 v2))=H8 at relC hc8 n1;have sh0:=Shr.of rel0 (q1.src.more (M':=ry.M++(r1.M++r2.M)) λi hi=>by
  have hi:i∈ry.M++[]:=hi;rw[Zbj]at hi;exact Zl _ hi)
 have sh1:=Shr.of relA (q2.src.more (M':=ry.M++(r1.M++r2.M)) λi hi=>Zf _ (Zl _ hi));have sh2:=Shr.of relB (q4.src.more (M':=ry.M++(r1.M++r2.M)) λi hi=>Zf _ (Zf _ hi));have sh:Shr H0 A0 (Qbr (ry.M++(r1.M++r2.M)) ρ0) F (c::G''):=λa ha=>by
  rcases Zo.mp ha with rfl | ha
  ·refine⟨.inl h0c,λi d ei hm=>?_⟩;obtain⟨b',e',_⟩:=(Qby _ ρ0).2 i d true ei;exact nfr i d b' e' hm
  ·rcases n2 a ha with z | z
   ·rcases m2 a z with y | y
    ·exact sh0 a (memL a y)
    ·exact sh1 a y
   ·exact sh2 a z
 have relD:=(relC.weak (Qby (ry.M++(r1.M++r2.M)) ρ0)).Qp7 (i:=x) (d:= .lst ((ds.set j1 r1.d).set j2 r2.d)) (v:= .ref c) (Rp.Qep hc8 n1 (by rw[Zaf,Zaf];exact zl)) sh;have hs1:σ1.set x (some (.ref c))=σ1:=by rw[← hσ',List.set_set]
 rw[hs1]at relD;exact⟨_,hs,_,o,relD,e,q⟩
end
structure Swp where
 x:Str
 y:Expr
 i1:Expr
 e1:Expr
 i2:Expr
 e2:Expr
 r:List Stmt
noncomputable def QrR:Stmt->Option (Expr×Expr)
 | .Assign [t] e _=>some (t,e)
 | _=>none
noncomputable def Qsw:Expr->Option (Expr×Expr)
 | .Subscript a i _=>some (a,i)
 | _=>none
noncomputable def aName(st:Stmt):Option (Str×Expr):=(QrR st).bind λz=>(Qfd z.1).bind λx=>some (x,z.2)
noncomputable def QvX(st:Stmt):Option (Str×Expr×Expr):=(QrR st).bind λz=>(Qsw z.1).bind λy=>(Qfd y.1).bind λx=>some (x,y.2,z.2)
noncomputable def QrU:Expr->Option (Str×Expr)
 | .Call (.Name f _) [y] [] _=>some (f,y)
 | _=>none
theorem Qp1{st:Stmt}(h:QrR st=some z):∃p,st= .Assign [z.1] z.2 p:=by
 unfold QrR at h;split at h
 ·cases h;exact⟨_,rfl⟩
 ·cases h
theorem QoJ(h:Qsw e=some z):∃p,e= .Subscript z.1 z.2 p:=by
 unfold Qsw at h;split at h
 ·cases h;exact⟨_,rfl⟩
 ·cases h
theorem QgK(h:Qfd e=some x):∃p,e= .Name x p:=by
 unfold Qfd at h;split at h
 ·cases h;exact⟨_,rfl⟩
 ·cases h
theorem QnX{st:Stmt}(h:aName st=some (x,e)):∃p q,st= .Assign [.Name x p] e q:=by
 refine Qj h λz h1 h=>?_;refine Qj h λy h2 h=>?_;cases h;obtain⟨p,e1⟩:=Qp1 h1;obtain⟨q,e2⟩:=QgK h2;exact⟨q,p,by rw[e1,e2]⟩
theorem Qps{st:Stmt}(h:QvX st=some (x,i,e)):∃a b c,st= .Assign [.Subscript (.Name x a) i b] e c:=by
 refine Qj h λz h1 h=>?_;refine Qj h λy h2 h=>?_;refine Qj h λw h3 h=>?_;cases h;obtain⟨p,e1⟩:=Qp1 h1;obtain⟨q,e2⟩:=QoJ h2;obtain⟨r,e3⟩:=QgK h3;exact⟨r,q,p,by rw[e1,e2,e3]⟩
theorem QuD(h:QrU e=some (f,y)):∃p q,e= .Call (.Name f p) [y] [] q:=by
 unfold QrU at h;split at h
 ·cases h;exact⟨_,_,rfl⟩
 ·cases h
noncomputable def QsI:List Stmt->Option Swp
 | a::b::c::r=>(aName a).bind λz=>(QrU z.2).bind λy=>(QvX b).bind λu=>(QvX c).bind λv=>if y.1= "list" /\u.1=z.1/\v.1=z.1 then some ⟨z.1,y.2,u.2.1,u.2.2,v.2.1,v.2.2,r⟩else none
 | _=>none
theorem QvK{sts:List Stmt}{q:Swp}(h:QsI sts=some q):∃p1 p2 p3 p4 a1 a2 a3 b1 b2 b3,sts= .Assign [.Name q.x p1] (.Call (.Name "list" p2) [q.y] [] p3) p4:: .Assign [.Subscript (.Name q.x a1) q.i1 a2] q.e1 a3:: .Assign [.Subscript (.Name q.x b1) q.i2 b2] q.e2 b3::q.r:=by
 refine(λh:∀G:Prop,(_->G)->G=>h _ id) λGG kk=>?_;unfold QsI at h;split at h
 ·rename_i a b c r;refine Qj h λz h1 h=>?_;refine Qj h λy h2 h=>?_;refine Qj h λu h3 h=>?_;refine Qj h λv h4 h=>?_;split at h
  ·rename_i hc;obtain⟨g1,g2,g3⟩:=hc;obtain⟨p1,p4,e1⟩:=QnX h1;obtain⟨p2,p3,e2⟩:=QuD h2;obtain⟨a1,a2,a3,e3⟩:=Qps h3;obtain⟨b1,b2,b3,e4⟩:=Qps h4;have h:=Option.some.inj h;subst h;exact kk ⟨p1,p2,p3,p4,a1,a2,a3,b1,b2,b3,by rw[e1,e2,e3,e4,g1,g2,g3]⟩
  ·cases h
 ·cases h
end HS
namespace HS
open PySem PySem.Spec L2 PyProof.Rows
noncomputable def Qfp(r:R):Bool:=r.norm.fr && r.norm.M.isEmpty
noncomputable def Qiw(t b ln:Nat)(ρ:En):En:=((ρ.set t none).set b none).set ln none
noncomputable def Qpf(t1 t2 b1 b2:D):Option (D×Bool):=some (.tup [t1,t2,b1,b2],(D.tup [t1,t2,b1,b2]).flat)
noncomputable def QjQ(t b:Nat)(ts bs:List D)(i k:Int)(j1 j2 l1 l2:Nat)(fi fk g1 g2 g3 g4:DE)(ρ0 ρ1:En):Option Out:=
 (fi ρ1).bind λri=>(fk ρ1).bind λrk=>(g1 ρ1).bind λr1=>(g2 ρ1).bind λr2=>(g3 ρ1).bind λr3=>(g4 ρ1).bind λr4=>match ri.d,rk.d with
  | .int i',.int k'=>if i'=i/\k'=k/\Qfp r1=true/\Qfp r2=true/\Qfp r3=true/\Qfp r4=true then
    some (.nx ((ρ0.set t (some (.lst ((ts.set j1 r1.d).set j2 r2.d),true))).set b (some (.lst ((bs.set l1 r3.d).set l2 r4.d),true))))else none
  | _,_=>none
noncomputable def QjF(t b ln:Nat)(fi fk g1 g2 g3 g4:DE):DS:=λρ=>match ρ[t]?,ρ[b]? with
 | some (some (.lst ts,true)),some (some (.lst bs,true))=>if t≠b/\ln≠t/\ln≠b/\ln<ρ.length then
   (fi ρ).bind λri=>(fk ρ).bind λrk=>match ri.d,rk.d with
    | .int i,.int k=>(ixN ts.length i).bind λj1=>(ixN ts.length k).bind λj2=>(ixN bs.length i).bind λl1=>(ixN bs.length k).bind λl2=>
      (ts[j1]?).bind λt1=>(ts[j2]?).bind λt2=>(bs[l1]?).bind λb1=>(bs[l2]?).bind λb2=>
       QjQ t b ts bs i k j1 j2 l1 l2 fi fk g1 g2 g3 g4 (Qiw t b ln ρ) ((Qiw t b ln ρ).set ln (Qpf t1 t2 b1 b2))
    | _,_=>none
   else none
 | _,_=>none
theorem Qv7(h:Qfp r=true):r.norm.fr=true/\r.norm.M=[]:=by
 unfold Qfp at h;simp only[Zg,List.isEmpty_iff]at h;exact h
structure Spn (K:Fgg) (H0 H:Hp) (hs:List (V×D×List Addr)) (ρ:En) (F:Nat->List Addr) (a:Addr) (ds:List D) (ws:List V) (G:LAd):Prop where
 at':H a=some (.lst ws)
 rp:Rps K H ds ws G
 len:G.length=nls ds
 na:a∉G
 nd:G.Nodup
 h0:∀c,c=a∨c∈G->H0 c=none
 out:∀(i:Nat) d b,ρ[i]? =some (some (d,b))->∀c,c=a∨c∈G->c∉F i
 hld:∀t∈hs,∀c,c=a∨c∈G->c∉t.2.2
 sz:ds.length<=sizeLine
section
variable {K:Fgg}{H0 H H':Hp}{A0:LAd}{hs:List (V×D×List Addr)}{ρ:En}{F:Nat->List Addr}{σ:L2.St}{a:Addr}{ds:List D}{ws:List V}{G:LAd}
theorem Spn.mem(s:Spn K H0 H hs ρ F a ds ws G){c:Addr}(h:c=a∨c∈G):∃vs,H c=some (.lst vs):=by
 rcases h with rfl | h
 ·exact⟨ws,s.at'⟩
 ·exact s.rp.mem c h
theorem Spn.same(s:Spn K H0 H hs ρ F a ds ws G)(e:QU H H'):Spn K H0 H' hs ρ F a ds ws G:=⟨e _ _ s.at',s.rp.same e,s.len,s.na,s.nd,s.h0,s.out,s.hld,s.sz⟩
theorem Spn.QrV(s:Spn K H0 H hs ρ F a ds ws G){p:Addr}{zs ys:List V}(hp:H p=some (.lst zs))(hn:¬(p=a∨p∈G)):Spn K H0 (upd H p (.lst ys)) hs ρ F a ds ws G:=
 ⟨by rw[Q0 λz=>hn (.inl z.symm)];exact s.at',s.rp.upd hp λz=>hn (.inr z),s.len,s.na,s.nd,s.h0,s.out,s.hld,s.sz⟩
theorem Spn.put(s:Spn K H0 H hs ρ F a ds ws G){ρ1:En}{F1:Nat->List Addr}(rel0:Rel K H0 A0 hs ρ F σ H)(rel:Rel K H0 A0 hs ρ1 F1 σ H){r:R}{v:V}{Gn:LAd}(p:Qaj K ρ1 F1 H H' r v Gn)(ho:Qfp r=true){j:Nat}(hj:j<ds.length)(h1:∀(i:Nat) d b,ρ1[i]? =some (some (d,b))->a∉F1 i):
  ∃G',Spn K H0 (upd H' a (.lst (ws.set j v))) hs ρ F a (ds.set j r.d) (ws.set j v) G'/\Rel K H0 A0 hs ρ1 F1 σ (upd H' a (.lst (ws.set j v)))/\Rel K H0 A0 hs ρ F σ (upd H' a (.lst (ws.set j v)))/\∀c∈G',c∈G∨H c=none:=by
 have p':=p.norm;obtain⟨f1,f2⟩:=Qv7 ho;have cn:=p'.cnt f1;rw[f2]at cn;have hnl:=cn.2;rw[r.QcN]at hnl;have hrp:=p'.rp;rw[r.QcN]at hrp;have hcn:∀c,Gn.count c<=nw H c:=λc=>by have:=cn.1 c;simpa using this
 have gN:∀c∈Gn,H c=none:=λc hc=>by
  have h2:=hcn c;have h3:0<Gn.count c:=Zap.mpr hc;cases q:H c with
  | none=>rfl
  | some o=>rw[Qdt q]at h2;omega
 have aN:a∉Gn:=λz=>by have:=gN a z;rw[s.at']at this;cases this
 obtain⟨G',m1,m2,m3⟩:=set_mk (p'.same _ _ s.at') (s.rp.same p'.same) s.len s.na aN hrp hnl hj;have mem:∀c∈G',c∈G∨c∈Gn:=λc hc=>by
  have h2:=m3 c;have h3:0<G'.count c:=Zap.mpr hc;by_cases z:c∈G
  ·exact .inl z
  ·rw[ZW.mpr z]at h2;exact .inr (Zap.mp ⋯)
 have relE:=rel.ext p'.same;have relE0:=rel0.ext p'.same;have a0:=s.h0 a (.inl rfl);have nfr:∀(i:Nat) d b,ρ[i]? =some (some (d,b))->a∉F i:=λi d b e=>s.out i d b e a (.inl rfl);refine⟨G',⟨Qau,m1,m2,λz=>(mem a z).elim s.na aN,Zau.mpr λc=>?_,λc hc=>?_,λi d b e c hc=>?_,λt ht c hc=>?_,by rw[Zaf];exact s.sz⟩,?_,?_,λc hc=>(mem c hc).imp_right (gN c)⟩
 ·have h2:=m3 c;have h3:=Zau.mp s.nd c;have h4:=hcn c;by_cases z:c∈G
  ·obtain⟨vs,q⟩:=s.mem (.inr z);rw[Qdt q]at h4;omega
  ·rw[ZW.mpr z]at h2;have:nw H c<=1:=by unfold nw;split<;>decide
   omega
 ·rcases hc with rfl | hc
  ·exact a0
  ·rcases mem c hc with z | z
   ·exact s.h0 c (.inr z)
   ·exact rel.same.free (gN c z)
 ·rcases hc with rfl | hc
  ·exact nfr i d b e
  ·rcases mem c hc with z | z
   ·exact s.out i d b e c (.inr z)
   ·intro hm;obtain⟨vs,q⟩:=rel0.mem e hm;rw[gN c z]at q;cases q
 ·rcases hc with rfl | hc
  ·exact s.hld t ht _ (.inl rfl)
  ·rcases mem c hc with z | z
   ·exact s.hld t ht c (.inr z)
   ·intro hm;obtain⟨vs,q⟩:=(rel.held t ht).1.mem c hm;rw[gN c z]at q;cases q
 ·exact relE.Qj3 (p'.same _ _ s.at') a0 h1 λt ht=>s.hld t ht a (.inl rfl)
 ·exact relE0.Qj3 (p'.same _ _ s.at') a0 nfr λt ht=>s.hld t ht a (.inl rfl)
theorem Spn.back(s:Spn K H0 H hs ρ F a ds ws G)(rel:Rel K H0 A0 hs ρ F σ H){x:Nat}(hx:σ[x]? =some (some (.ref a)))(hn:∀d b,ρ[x]? ≠some (some (d,b))):Rel K H0 A0 hs (ρ.set x (some (.lst ds,true))) (λj=>if j=x then a::G else F j) σ H:=by
 have lt:∀{z:Option (D×Bool)}{y:D×Bool},(ρ.set x z)[x]? =some (some y)->x<ρ.length:=λ{z y} e=>by
  by_cases hl:x<ρ.length
  ·exact hl
  ·rw[Zu (by simp;omega)]at e;cases e
 refine⟨by simp[rel.len],λj d b e=>?_,λj d e=>?_,λj d b e c hc=>?_,rel.held,rel.same⟩
 ·by_cases hj:j=x
  ·subst hj;rw[Zs (lt e)]at e;cases e;exact⟨_,hx,by rw[if_pos rfl];exact Rp.Qep s.at' s.rp s.sz⟩
  ·rw[Zd (Ne.symm hj)]at e;obtain⟨w,h1,h2⟩:=rel.val j d b e;exact⟨w,h1,by rw[if_neg hj];exact h2⟩
 ·by_cases hj:j=x
  ·subst hj;rw[Zs (lt e)]at e;cases e;rw[if_pos rfl];refine⟨by simp only[ZJ,D.nl,s.len],ZaF.mpr ⟨s.na,s.nd⟩,λc hc=>s.h0 c (Zo.mp hc),λk d' b hk ek c hc=>?_,λt ht c hc=>s.hld t ht c (Zo.mp hc)⟩;rw[Zd (Ne.symm hk)]at ek;rw[if_neg hk];exact s.out k d' b ek c (Zo.mp hc)
  ·rw[Zd (Ne.symm hj)]at e;obtain⟨h1,h2,h3,h4,h5⟩:=rel.own j d e;rw[if_neg hj];refine⟨h1,h2,h3,λk d' b hk ek c hc=>?_,h5⟩;by_cases hkx:k=x
   ·subst hkx;rw[if_pos rfl];exact λhm=>s.out j d true e c (Zo.mp hm) hc
   ·rw[Zd (Ne.symm hkx)]at ek;rw[if_neg hkx];exact h4 k d' b hk ek c hc
 ·by_cases hj:j=x
  ·subst hj;rw[if_pos rfl]at hc;exact .inl (s.h0 c (Zo.mp hc))
  ·rw[Zd (Ne.symm hj)]at e;rw[if_neg hj]at hc;exact rel.src j d b e c hc
theorem Spn.weak(s:Spn K H0 H hs ρ F a ds ws G){ρ':En}{F':Nat->List Addr}(h:∀(i:Nat) d b,ρ'[i]? =some (some (d,b))->∀c,c=a∨c∈G->c∉F' i):Spn K H0 H hs ρ' F' a ds ws G:=⟨s.at',s.rp,s.len,s.na,s.nd,s.h0,h,s.hld,s.sz⟩
theorem Spn.of(rel:Rel K H0 A0 hs ρ F σ H){x:Nat}(hx:ρ[x]? =some (some (.lst ds,true))):∃a ws G,σ[x]? =some (some (.ref a))/\F x=a::G/\Spn K H0 H hs (ρ.set x none) F a ds ws G:=by
 obtain⟨v,h1,h2⟩:=rel.val x _ _ hx;obtain⟨ol,on,o0,oap,oh⟩:=rel.own x _ hx;simp only[Rp]at h2;obtain⟨hz,a,vs,rfl,⟨G,eF,q,r⟩ | ⟨q,r⟩⟩:=h2
 ·rw[eF]at ol on o0 oap oh;obtain⟨n1,n2⟩:=ZaF.mp on;refine⟨a,vs,G,h1,eF,q,r,by simp only[ZJ,D.nl]at ol;omega,n1,n2,λc hc=>o0 c (Zo.mpr hc),λi d b e c hc=>?_,λt ht c hc=>oh t ht c (Zo.mpr hc),hz⟩;obtain⟨b',e',_⟩:=(Qd8 (ρ:=ρ) x).2 i d b e;have hi:i≠x:=λz=>by
   subst z;by_cases hl:i<ρ.length
   ·rw[Zs hl]at e;cases e
   ·rw[Zu (by simp;omega)]at e;cases e
  exact oap i d b' hi e' c (Zo.mpr hc)
 ·have:=r.QaR;simp only[D.nl]at ol;omega
theorem QfH{i:Int}{d':D}{v':V}{Gm:LAd}(f:Focus K H [i] (.lst ds) (.ref a) (a::G) d' v' Gm)(hl:G.length=nls ds):(∀c∈Gm,c∈G)/\Rp K H d' v' Gm:=by
 obtain⟨es,a',vs,j',F1,G',F2,d2,v2,e1,h2,h3,h4,h5,h6,h7,h8,h9⟩:=f;cases e1;obtain⟨rfl,rfl,rfl,h9⟩:=h9;refine⟨λc hc=>?_,h9⟩;rcases h3 with⟨e,z,⟨eF,q⟩ | ⟨eF,q⟩⟩ | ⟨e,_⟩
 ·obtain⟨_,rfl⟩:=List.cons.inj eF;exact Zf _ (Zl _ hc)
 ·exfalso;have l1:=h4.QaR;have l2:=h9.QaR;have l3:=h5.QaR;have ex:=congrArg List.length eF;have e2:=congrArg nls (ZaH j' es);have hj:j'<es.length:=(Zi.mp h6).1;have hd:es[j']=d':=(Zi.mp h6).2;rw[Qb9,Zax hj,hd]at e2;simp only[nls]at e2;cases e;simp only[ZJ,Zx]at ex;omega
 ·cases e
end
theorem get_none{ρ:En}{x:Nat}{p:D×Bool}(h:(ρ.set x none)[x]? =some (some p)):False:=by
 by_cases hl:x<ρ.length
 ·rw[Zs hl]at h;cases h
 ·rw[Zu (by rw[Zaf];exact Nat.le_of_not_lt hl)]at h;cases h
theorem QgP{K:Fgg}{H0 H:Hp}{A0:LAd}{f:DE}{σ:L2.St}{Q:V->Hp->Prop}{ρ:En}{hs:List (V×D×List Addr)}{F:Nat->List Addr}{r:R}(rel:Rel K H0 A0 hs ρ F σ H)(e:f ρ=some r)(q:∀v H' G,Qaj K ρ F H H' r v G->Q v H'):tV K H0 A0 f σ H Q:=⟨ρ,hs,F,r,rel,e,q⟩
theorem Qoo{K:Fgg}{H0 H:Hp}{A0:LAd}{x:Nat}{pf:DP}{σ:L2.St}{Q:V->Hp->Prop}{ρ:En}{hs:List (V×D×List Addr)}{F:Nat->List Addr}{d:D}{b:Bool}{is:List Int}{dm:D}(rel:Rel K H0 A0 hs ρ F σ H)(hx:ρ[x]? =some (some (d,b)))(hp:pf ρ=some is)(hd:Qbf d is=some dm)(q:∀v0 v H' Gm,QU H H'->σ[x]? =some (some v0)->Focus K H' is d v0 (F x) dm v Gm->Q v H'):tP K H0 A0 x pf σ H Q:=⟨ρ,hs,F,d,b,is,dm,rel,hx,hp,hd,q⟩
section
theorem Qsz{G:Prop}(e1:QjQ t b ts bs i k j1 j2 l1 l2 fi fk g1 g2 g3 g4 ρ0 ρ1=some o)
  (kk:∀ri rk q1 q2 q3 q4,fi ρ1=some ri->fk ρ1=some rk->g1 ρ1=some q1->g2 ρ1=some q2->g3 ρ1=some q3->g4 ρ1=some q4->ri.d= .int i->rk.d= .int k->Qfp q1=true->Qfp q2=true->Qfp q3=true->Qfp q4=true→
   o= .nx ((ρ0.set t (some (.lst ((ts.set j1 q1.d).set j2 q2.d),true))).set b (some (.lst ((bs.set l1 q3.d).set l2 q4.d),true)))->G):G:=by
 unfold QjQ at e1;refine Qj e1 λri ei e1=>?_;refine Qj e1 λrk ek e1=>?_;refine Qj e1 λq1 c1 e1=>?_;refine Qj e1 λq2 c2 e1=>?_;refine Qj e1 λq3 c3 e1=>?_;refine Qj e1 λq4 c4 eE=>?_;clear e1;have kk:=kk ri rk q1 q2 q3 q4 ei ek c1 c2 c3 c4;split at eE
 case h_2=>cases eE
 rename_i i' k' hi hk;split at eE
 case isFalse=>cases eE
 rename_i hc;obtain⟨rfl,rfl,w1,w2,w3,w4⟩:=hc;exact kk hi hk w1 w2 w3 w4 (Option.some.inj eE).symm
theorem QwJ{G:Prop}(e1:QjF t b ln fi fk g1 g2 g3 g4 ρ=some o)
  (kk:∀ts bs ri rk i k j1 j2 l1 l2 t1 t2 b1 b2,ρ[t]? =some (some (.lst ts,true))->ρ[b]? =some (some (.lst bs,true))->(t≠b/\ln≠t/\ln≠b/\ln<ρ.length)->fi ρ=some ri->fk ρ=some rk->ri.d= .int i->rk.d= .int k→
   ixN ts.length i=some j1->ixN ts.length k=some j2->ixN bs.length i=some l1->ixN bs.length k=some l2->ts[j1]? =some t1->ts[j2]? =some t2->bs[l1]? =some b1->bs[l2]? =some b2→
   QjQ t b ts bs i k j1 j2 l1 l2 fi fk g1 g2 g3 g4 (Qiw t b ln ρ) ((Qiw t b ln ρ).set ln (Qpf t1 t2 b1 b2))=some o->G):G:=by
 unfold QjF at e1;split at e1
 case h_2=>cases e1
 rename_i ts bs ht hb;split at e1
 case isFalse=>cases e1
 rename_i hc;refine Qj e1 λri ei e1=>?_;refine Qj e1 λrk ek eE=>?_;clear e1;have kk:=λi k j1 j2 l1 l2 t1 t2 b1 b2=>kk ts bs ri rk i k j1 j2 l1 l2 t1 t2 b1 b2 ht hb hc ei ek;split at eE
 case h_2=>cases eE
 rename_i i k hi hk;refine Qj eE λj1 x1 e1=>?_;refine Qj e1 λj2 x2 e1=>?_;refine Qj e1 λl1 x3 e1=>?_;refine Qj e1 λl2 x4 e1=>?_;refine Qj e1 λt1 y1 e1=>?_;refine Qj e1 λt2 y2 e1=>?_;refine Qj e1 λb1 y3 e1=>?_;refine Qj e1 λb2 y4 e1=>?_;exact kk i k j1 j2 l1 l2 t1 t2 b1 b2 hi hk x1 x2 x3 x4 y1 y2 y3 y4 e1
theorem QwS{x:Nat}(e:(Qiw t b ln ρ)[x]? =some (some p)):x≠t/\x≠b/\x≠ln/\(ρ.set t none)[x]? =some (some p)/\(ρ.set b none)[x]? =some (some p):=by
 unfold Qiw at e;have h3:x≠ln:=λz=>by rw[z]at e;exact get_none e
 rw[Zd (Ne.symm h3)]at e;have h2:x≠b:=λz=>by rw[z]at e;exact get_none e
 rw[Zd (Ne.symm h2)]at e;have h1:x≠t:=λz=>by rw[z]at e;exact get_none e
 refine⟨h1,h2,h3,e,?_⟩;rw[Zd (Ne.symm h2)];rwa[Zd (Ne.symm h1)]at e
theorem Qz8(p0:∀H0 A0,PS X st0 (QeS (QAI (QcF (tP X.K H0 A0 t (Qci Qaf fi)) (QcF (tP X.K H0 A0 t (Qci Qaf fk)) (QcF (tP X.K H0 A0 b (Qci Qaf fi)) (QcF (tP X.K H0 A0 b (Qci Qaf fk)) Qgo))))) (QgV ln)))
  (p1:∀H0 A0,PS X st1 (QeS (tV X.K H0 A0 g1) (L2.QaG (Qhb t) (tV X.K H0 A0 fi) QgQ))) (p2:∀H0 A0,PS X st2 (QeS (tV X.K H0 A0 g2) (L2.QaG (Qhb t) (tV X.K H0 A0 fk) QgQ)))
  (p3:∀H0 A0,PS X st3 (QeS (tV X.K H0 A0 g3) (L2.QaG (Qhb b) (tV X.K H0 A0 fi) QgQ))) (p4:∀H0 A0,PS X st4 (QeS (tV X.K H0 A0 g4) (L2.QaG (Qhb b) (tV X.K H0 A0 fk) QgQ))) (h:SS X sts g):
  SS X (st0::st1::st2::st3::st4::sts) (Qd (QjF t b ln fi fk g1 g2 g3 g4) g):=λH0 A0=>
 (QcG (p0 H0 A0) (QcG (p1 H0 A0) (QcG (p2 H0 A0) (QcG (p3 H0 A0) (QcG (p4 H0 A0) (h H0 A0)))))).mono λE σ H=>exK λρ hs F o rel e q=>by
 refine Qj e λo1 e1 e=>?_;refine QwJ e1 λts bs ri rk i k j1 j2 l1 l2 t1 t2 b1 b2 ht hb hc ei ek hi hk x1 x2 x3 x4 y1 y2 y3 y4 e1=>?_;have wA:QcM ρ (Qiw t b ln ρ):=((Qd8 t).trans (Qd8 b)).trans (Qd8 ln);have c3:=λx p=>QwS (t:=t) (b:=b) (ln:=ln) (x:=x) (ρ:=ρ) (p:=p);obtain⟨htb,hlt,hlb,hll⟩:=hc;generalize hρ0:Qiw t b ln ρ=ρ0 at e1 wA c3;generalize hρ1:ρ0.set ln (Qpf t1 t2 b1 b2)=ρ1 at e1;refine Qsz e1 λri' rk' q1 q2 q3 q4 ei' ek' d1 d2 d3 d4 hi' hk' w1' w2' w3' w4' eE=>?_;subst eE;clear e1 hρ0;obtain⟨a,ws,Gt,st,Ft,sp⟩:=Spn.of rel ht;obtain⟨a',ws',Gb,sb,Fb,sp'⟩:=Spn.of rel hb;have pf:∀{f:DE}{r:HS.R}{z:Int},f ρ=some r->r.d= .int z->Qci Qaf f ρ=some [z]:=λ{f r z} h1 h2=>by
  unfold Qci Qaf;rw[Za,h1,Za,h2];rfl
 have dp:∀{zs:List D}{z:Int}{j:Nat}{d:D},ixN zs.length z=some j->zs[j]? =some d->Qbf (.lst zs) [z]=some d:=λ{zs z j d} h1 h2=>by
  unfold Qbf;simp only[D.items,Za];unfold atI;rw[h1,Za,h2];rfl
 refine Qoo (rel) ht (pf ei hi) (dp x1 y1) λv0 v1 H1 M1 s1 hv0 f1=>?_;rw[Option.some.inj (Option.some.inj (hv0.symm.trans st))]at f1;refine Qoo (rel.ext s1) ht (pf ek hk) (dp x2 y2) λv0 v2 H2 M2 s2 hv0 f2=>?_;rw[Option.some.inj (Option.some.inj (hv0.symm.trans st))]at f2;refine Qoo ((rel.ext s1).ext s2) hb (pf ei hi) (dp x3 y3) λv0 v3 H3 M3 s3 hv0 f3=>?_;rw[Option.some.inj (Option.some.inj (hv0.symm.trans sb))]at f3;refine Qoo (((rel.ext s1).ext s2).ext s3) hb (pf ek hk) (dp x4 y4) λv0 v4 H4 M4 s4 hv0 f4=>?_;rw[Option.some.inj (Option.some.inj (hv0.symm.trans sb))]at f4;refine⟨QfC (by simp),λc hcn=>?_⟩;have sU:QU H4 (upd H4 c (.tup [v1,v2,v3,v4])):=Qbt hcn;have hct:upd H4 c (.tup [v1,v2,v3,v4]) c=some (.tup [v1,v2,v3,v4]):=Qau;have s14:QU H H4:=((s1.trans s2).trans s3).trans s4;have f1':=f1.same (((s2.trans s3).trans s4).trans sU);have f2':=f2.same ((s3.trans s4).trans sU);have f3':=f3.same (s4.trans sU);have f4':=f4.same sU;have relx:=rel.ext (s14.trans sU);have sp:=sp.same (s14.trans sU);have sp':=sp'.same (s14.trans sU);generalize upd H4 c (.tup [v1,v2,v3,v4])=H5 at f1' f2' f3' f4' relx sp sp' hct;rw[Ft]at f1' f2';rw[Fb]at f3' f4';refine(λh:∀G:Prop,(_->G)->G=>h _ id) λGG kk=>?_;obtain⟨m1,r1⟩:=QfH f1' sp.len;obtain⟨m2,r2⟩:=QfH f2' sp.len;obtain⟨m3,r3⟩:=QfH f3' sp'.len;obtain⟨m4,r4⟩:=QfH f4' sp'.len;refine kk ?_;have rT:Rp X.K H5 (.tup [t1,t2,b1,b2]) (.ref c) (M1++(M2++(M3++(M4++[])))):=by
  refine Rp.Qgr hct ?_;simp only[Rps];exact⟨v1,_,M1,_,rfl,rfl,r1,v2,_,M2,_,rfl,rfl,r2,v3,_,M3,_,rfl,rfl,r3,v4,_,M4,_,rfl,rfl,r4,rfl,rfl⟩
 have hM:∀z∈M1++(M2++(M3++(M4++[]))),z∈Gt∨z∈Gb:=λz hz=>by
  simp only[ZH,Zcf,or_false]at hz;rcases hz with h | h | h | h
  ·exact .inl (m1 z h)
  ·exact .inl (m2 z h)
  ·exact .inr (m3 z h)
  ·exact .inr (m4 z h)
 generalize M1++(M2++(M3++(M4++[])))=M at rT hM;have rel0:=relx.weak wA;have apart:∀z,z=a∨z∈Gt->¬(z=a'∨z∈Gb):=λz hz hz'=>by
  have h1:=(rel.own t _ ht).2.2.2.1 b _ _ (λe=>htb e.symm) hb;rw[Ft,Fb]at h1;exact h1 z (Zo.mpr hz) (Zo.mpr hz')
 have sh:Shr H0 A0 ρ0 F M:=λz hz=>by
  rcases hM z hz with h | h
  ·exact⟨.inl (sp.h0 z (.inr h)),λx d ex=>sp.out x d true (c3 x _ ex).2.2.2.1 z (.inr h)⟩
  ·exact⟨.inl (sp'.h0 z (.inr h)),λx d ex=>sp'.out x d true (c3 x _ ex).2.2.2.2 z (.inr h)⟩
 have relL:=rel0.Qp7 (i:=ln) rT sh;have sp0:Spn X.K H0 H5 hs ρ0 F a ts ws Gt:=sp.weak λx d bb ex=>sp.out x d bb (c3 x _ ex).2.2.2.1;have sp0':Spn X.K H0 H5 hs ρ0 F a' bs ws' Gb:=sp'.weak λx d bb ex=>sp'.out x d bb (c3 x _ ex).2.2.2.2;have rel0:=rel0.put (i:=ln) (v:= .ref c) λd bb ex=>(c3 _ _ ex).2.2.1 rfl;have st1':(σ.set ln (some (.ref c)))[t]? =some (some (.ref a)):=by rw[Zd hlt];exact st
 have sb1':(σ.set ln (some (.ref c)))[b]? =some (some (.ref a')):=by rw[Zd hlb];exact sb
 show Qu8 _ _ E (σ.set ln (some (.ref c))) _;generalize hσ:σ.set ln (some (V.ref c))=σ1 at relL rel0 st1' sb1';change Rel _ _ _ _ (ρ0.set ln (Qpf t1 t2 b1 b2)) _ _ _ at relL;rw[hρ1]at relL;generalize hF1:(λj=>if j=ln then M else F j)=F1 at relL;have out1:∀z,(z=a∨z=a')->∀(x:Nat) d bb,ρ1[x]? =some (some (d,bb))->z∉F1 x:=λz hz x d bb ex=>by
  subst hF1;dsimp only;by_cases hx:x=ln
  ·rw[if_pos hx];intro hm;rcases hz with rfl | rfl
   ·rcases hM z hm with h | h
    ·exact sp.na h
    ·exact apart z (.inl rfl) (.inr h)
   ·rcases hM z hm with h | h
    ·exact apart z (.inr h) (.inl rfl)
    ·exact sp'.na h
  ·rw[if_neg hx];subst hρ1;rw[Zd (Ne.symm hx)]at ex;rcases hz with rfl | rfl
   ·exact sp0.out x d bb ex z (.inl rfl)
   ·exact sp0'.out x d bb ex z (.inl rfl)
 have jl1:=(Qcw x1).2.1;have jl2:=(Qcw x2).2.1;have ll1:=(Qcw x3).2.1;have ll2:=(Qcw x4).2.1;refine QgP relL d1 λu1 H6 N1 z1=>⟨.ref a,st1',QgP (relL.ext z1.same) ei' λy1' H7 N1' z1'=>?_⟩;have ru:=z1'.rp;rw[hi']at ru;refine⟨a,ws,i,j1,rfl,ru.int_inv,z1'.same _ _ (z1.same _ _ sp0.at'),by rw[← sp0.rp.length];exact x1,?_⟩;refine(λh:∀G:Prop,(_->G)->G=>h _ id) λGG kk=>?_;obtain⟨G1,spA,relA,rel0A,mA⟩:=sp0.put rel0 relL (z1.Qg1 z1'.same) w1' jl1 λx d bb ex=>out1 a (.inl rfl) x d bb ex;refine kk ?_;have apA:¬(a=a'∨a∈Gb):=apart a (.inl rfl);have spA':Spn X.K H0 (upd H7 a (.lst (ws.set j1 u1))) hs ρ0 F a' bs ws' Gb:=(sp0'.same (z1.same.trans z1'.same)).QrV (z1'.same _ _ (z1.same _ _ sp0.at')) apA;generalize upd H7 a (.lst (ws.set j1 u1))=H8 at spA relA rel0A spA';have apartA:∀z,z∈G1->¬(z=a'∨z∈Gb):=λz hz hz'=>by
  rcases mA z hz with h | h
  ·exact apart z (.inr h) hz'
  ·obtain⟨vs,w⟩:=sp0'.mem hz';rw[h]at w;cases w
 refine QgP relA d2 λu2 H9 N2 z2=>⟨.ref a,st1',QgP (relA.ext z2.same) ek' λy2' H10 N2' z2'=>?_⟩;have ru2:=z2'.rp;rw[hk']at ru2;refine⟨a,ws.set j1 u1,k,j2,rfl,ru2.int_inv,z2'.same _ _ (z2.same _ _ spA.at'),by rw[← spA.rp.length,Zaf];exact x2,?_⟩;refine(λh:∀G:Prop,(_->G)->G=>h _ id) λGG kk=>?_;obtain⟨G2,spB,relB,rel0B,mB⟩:=spA.put rel0A relA (z2.Qg1 z2'.same) w2' (by rw[Zaf];exact jl2) λx d bb ex=>out1 a (.inl rfl) x d bb ex;refine kk ?_;have spB':Spn X.K H0 (upd H10 a (.lst ((ws.set j1 u1).set j2 u2))) hs ρ0 F a' bs ws' Gb:=(spA'.same (z2.same.trans z2'.same)).QrV (z2'.same _ _ (z2.same _ _ spA.at')) apA;generalize upd H10 a (.lst ((ws.set j1 u1).set j2 u2))=H11 at spB relB rel0B spB';have apartB:∀z,z=a∨z∈G2->¬(z=a'∨z∈Gb):=λz hz hz'=>by
  rcases hz with rfl | hz
  ·exact apA hz'
  ·rcases mB z hz with h | h
   ·exact apartA z h hz'
   ·obtain⟨vs,w⟩:=spA'.mem hz';rw[h]at w;cases w
 refine QgP relB d3 λu3 H12 N3 z3=>⟨.ref a',sb1',QgP (relB.ext z3.same) ei' λy3' H13 N3' z3'=>?_⟩;have ru3:=z3'.rp;rw[hi']at ru3;refine⟨a',ws',i,l1,rfl,ru3.int_inv,z3'.same _ _ (z3.same _ _ spB'.at'),by rw[← spB'.rp.length];exact x3,?_⟩;refine(λh:∀G:Prop,(_->G)->G=>h _ id) λGG kk=>?_;obtain⟨G3,spC',relC,rel0C,mC⟩:=spB'.put rel0B relB (z3.Qg1 z3'.same) w3' ll1 λx d bb ex=>out1 a' (.inr rfl) x d bb ex;refine kk ?_;have apB:¬(a'=a∨a'∈G2):=λh=>apartB a' h (.inl rfl);have spC:Spn X.K H0 (upd H13 a' (.lst (ws'.set l1 u3))) hs ρ0 F a _ _ G2:=(spB.same (z3.same.trans z3'.same)).QrV (z3'.same _ _ (z3.same _ _ spB'.at')) apB;generalize upd H13 a' (.lst (ws'.set l1 u3))=H14 at spC relC rel0C spC';have apartC:∀z,z∈G3->¬(z=a∨z∈G2):=λz hz hz'=>by
  rcases mC z hz with h | h
  ·exact apartB z hz' (.inr h)
  ·obtain⟨vs,w⟩:=spB.mem hz';rw[h]at w;cases w
 refine QgP relC d4 λu4 H15 N4 z4=>⟨.ref a',sb1',QgP (relC.ext z4.same) ek' λy4' H16 N4' z4'=>?_⟩;have ru4:=z4'.rp;rw[hk']at ru4;refine⟨a',ws'.set l1 u3,k,l2,rfl,ru4.int_inv,z4'.same _ _ (z4.same _ _ spC'.at'),by rw[← spC'.rp.length,Zaf];exact x4,?_⟩;refine(λh:∀G:Prop,(_->G)->G=>h _ id) λGG kk=>?_;obtain⟨G4,spD',relD,rel0D,mD⟩:=spC'.put rel0C relC (z4.Qg1 z4'.same) w4' (by rw[Zaf];exact ll2) λx d bb ex=>out1 a' (.inr rfl) x d bb ex;refine kk ?_;have spD:Spn X.K H0 (upd H16 a' (.lst ((ws'.set l1 u3).set l2 u4))) hs ρ0 F a _ _ G2:=(spC.same (z4.same.trans z4'.same)).QrV (z4'.same _ _ (z4.same _ _ spC'.at')) apB;generalize upd H16 a' (.lst ((ws'.set l1 u3).set l2 u4))=H17 at spD relD rel0D spD';have apartD:∀z,z=a'∨z∈G4->¬(z=a∨z∈G2):=λz hz hz'=>by
  rcases hz with rfl | hz
  ·exact apB hz'
  ·rcases mD z hz with h | h
   ·exact apartC z h hz'
   ·obtain⟨vs,w⟩:=spC.mem hz';rw[h]at w;cases w
 have nt:∀d bb,ρ0[t]? ≠some (some (d,bb)):=λd bb ex=>(c3 _ _ ex).1 rfl;have nb:∀d bb,ρ0[b]? ≠some (some (d,bb)):=λd bb ex=>(c3 _ _ ex).2.1 rfl;have relE:=spD.back rel0D st1' nt;have spE:=spD'.weak (ρ':=ρ0.set t (some (.lst ((ts.set j1 q1.d).set j2 q2.d),true))) (F':=λj=>if j=t then a::G2 else F j) λx d bb ex z hz=>by
  by_cases hx:x=t
  ·rw[if_pos hx];exact λhm=>apartD z hz (Zo.mp hm)
  ·rw[if_neg hx];rw[Zd (Ne.symm hx)]at ex;exact spD'.out x d bb ex z hz
 have relF:=spE.back relE sb1' (by rw[Zd htb];exact nb);exact⟨_,hs,_,o,relF,e,q⟩
end
noncomputable def QbT(e:Expr):Option (Str×Str):=(Qsw e).bind λz=>(Qfd z.1).bind λx=>(Qfd z.2).bind λy=>some (x,y)
theorem Qdd(h:QbT e=some (x,y)):∃p1 p2 p3,e= .Subscript (.Name x p1) (.Name y p2) p3:=by
 refine Qj h λz h1 h=>?_;refine Qj h λu h2 h=>?_;refine Qj h λw h3 h=>?_;cases h;obtain⟨p,e1⟩:=QoJ h1;obtain⟨q,e2⟩:=QgK h2;obtain⟨r,e3⟩:=QgK h3;exact⟨q,r,p,by rw[e1,e2,e3]⟩
noncomputable def Qvf:Expr->Option (List Expr)
 | .Tuple l _ _=>some l
 | _=>none
theorem Qwf(h:Qvf e=some l):∃k p,e= .Tuple l k p:=by
 unfold Qvf at h;split at h
 ·cases h;exact⟨_,_,rfl⟩
 ·cases h
noncomputable def four(l:List Expr):Option ((Str×Str)×(Str×Str)×(Str×Str)×(Str×Str)):=match l with
 | [a,b,c,d]=>(QbT a).bind λa=>(QbT b).bind λb=>(QbT c).bind λc=>(QbT d).map λd=>(a,b,c,d)
 | _=>none
theorem QvH(h:four l=some (a,b,c,d)):∃ea eb ec ed,l=[ea,eb,ec,ed]/\QbT ea=some a/\QbT eb=some b/\QbT ec=some c/\QbT ed=some d:=by
 unfold four at h;split at h
 ·refine Qj h λa' h1 h=>?_;refine Qj h λb' h2 h=>?_;obtain⟨c',d',h3,h4,h5⟩:=Qa9 h;cases h5;exact⟨_,_,_,_,rfl,h1,h2,h3,h4⟩
 ·cases h
noncomputable def Qse(st:Stmt):Option (Str×(Str×Str)×(Str×Str)×(Str×Str)×(Str×Str)):=(aName st).bind λz=>(Qvf z.2).bind λl=>(four l).map λq=>(z.1,q)
theorem QuA{st:Stmt}{x:Str}{a b c d:Str×Str}(h:Qse st=some (x,a,b,c,d)):∃p ea eb ec ed k p1 p2,st= .Assign [.Name x p] (.Tuple [ea,eb,ec,ed] k p1) p2/\QbT ea=some a/\QbT eb=some b/\QbT ec=some c/\QbT ed=some d:=by
 unfold Qse at h;obtain⟨⟨x',e⟩,h1,h⟩:=bind1 h;obtain⟨l,q,h2,h3,h⟩:=Qa9 h;cases h;obtain⟨p,p2,e1⟩:=QnX h1;obtain⟨k,p1,e2⟩:=Qwf h2;have e2:e= .Tuple l k p1:=e2;obtain⟨ea,eb,ec,ed,e3,n⟩:=QvH h3;exact⟨p,ea,eb,ec,ed,k,p1,p2,by rw[e1,e2,e3],n⟩
noncomputable def QhD:Stmt->Option ((Str×Str)×Expr)
 | .Assign [t] e _=>(QbT t).map λs=>(s,e)
 | _=>none
theorem QfB{st:Stmt}{s:Str×Str}{e:Expr}(h:QhD st=some (s,e)):∃t p,st= .Assign [t] e p/\QbT t=some s:=by
 unfold QhD at h;split at h
 ·obtain⟨s',h1,h2⟩:=Zk.mp h;cases h2;exact⟨_,_,rfl,h1⟩
 ·cases h
structure Col where
 ln:Str
 t:Str
 b:Str
 i:Str
 k:Str
 e1:Expr
 e2:Expr
 e3:Expr
 e4:Expr
 r:List Stmt
noncomputable def Qsb:List Stmt->Option Col
 | s0::s1::s2::s3::s4::r=>(Qse s0).bind λz=>(QhD s1).bind λz1=>(QhD s2).bind λz2=>(QhD s3).bind λz3=>(QhD s4).bind λz4=>
  if z.2.2.1=(z.2.1.1,z.2.2.1.2)/\z.2.2.2.1=(z.2.2.2.1.1,z.2.1.2)/\z.2.2.2.2=(z.2.2.2.1.1,z.2.2.1.2)/\z1.1=z.2.1/\z2.1=z.2.2.1/\z3.1=z.2.2.2.1/\z4.1=z.2.2.2.2 then some ⟨z.1,z.2.1.1,z.2.2.2.1.1,z.2.1.2,z.2.2.1.2,z1.2,z2.2,z3.2,z4.2,r⟩else none
 | _=>none
theorem QwM{sts:List Stmt}{q:Col}(h:Qsb sts=some q):∃p ea eb ec ed k p1 p2 t1 t2 t3 t4 p3 p4 p5 p6,sts= .Assign [.Name q.ln p] (.Tuple [ea,eb,ec,ed] k p1) p2:: .Assign [t1] q.e1 p3:: .Assign [t2] q.e2 p4:: .Assign [t3] q.e3 p5:: .Assign [t4] q.e4 p6::q.r∧
  QbT ea=some (q.t,q.i)/\QbT eb=some (q.t,q.k)/\QbT ec=some (q.b,q.i)/\QbT ed=some (q.b,q.k)/\QbT t1=some (q.t,q.i)/\QbT t2=some (q.t,q.k)/\QbT t3=some (q.b,q.i)/\QbT t4=some (q.b,q.k):=by
 refine(λh:∀G:Prop,(_->G)->G=>h _ id) λGG kk=>?_;unfold Qsb at h;split at h
 ·rename_i s0 s1 s2 s3 s4 r;refine Qj h λz h0 h=>?_;refine Qj h λz1 h1 h=>?_;refine Qj h λz2 h2 h=>?_;refine Qj h λz3 h3 h=>?_;refine Qj h λz4 h4 h=>?_;split at h
  ·rename_i hc;obtain⟨g1,g2,g3,g4,g5,g6,g7⟩:=hc;obtain⟨p,ea,eb,ec,ed,k,p1,p2,e0,n1,n2,n3,n4⟩:=QuA h0;obtain⟨t1,p3,e1,m1⟩:=QfB h1;obtain⟨t2,p4,e2,m2⟩:=QfB h2;obtain⟨t3,p5,e3,m3⟩:=QfB h3;obtain⟨t4,p6,e4,m4⟩:=QfB h4;have h:=Option.some.inj h;subst h;exact kk ⟨p,ea,eb,ec,ed,k,p1,p2,t1,t2,t3,t4,p3,p4,p5,p6,by rw[e0,e1,e2,e3,e4],n1,n2.trans (congrArg some g1),n3.trans (congrArg some g2),n4.trans (congrArg some g3),m1.trans (congrArg some g4),m2.trans (congrArg some (g5.trans g1)),m3.trans (congrArg some (g6.trans g2)),m4.trans (congrArg some (g7.trans g3))⟩
  ·cases h
 ·cases h
end HS
namespace HS
open PySem PySem.Spec L2 PyProof.Rows
section
variable {K:Fgg}{H0 H H':Hp}{A0:LAd}{hs:List (V×D×List Addr)}{ρ:En}{F:Nat->List Addr}{σ:L2.St}{x i j:Nat}{ds es:List D}{a:Addr}{vs:List V}{v vn:V}{dn:D}
end
end HS
namespace HS
open PySem PySem.Spec L2 PyProof.Rows
mutual
noncomputable def Qos(n:Nat)(Θ:Th)(st:Stmt):Option DS:=match n with
 | 0=>none
 | n+1=>match st with
  | .Pass _=>some Qo
  | .Break _=>some Qsm
  | .Continue _=>some Qr2
  | .Raise _ _ _=>some Qy
  | .Return none _=>some QsE
  | .Return (some e) _=>(Qu n Θ e).map QH
  | .Expr (.Constant (.str _) _ _) _=>some Qo
  | .Expr (.Call (.Attribute o m apos) args [] cpos) _=>if(apos.endLine == cpos.line)=true then QlI n Θ o m args else none
  | .Expr (.Call (.Name x p) args [] cpos) _=>(Qu n Θ (.Call (.Name x p) args [] cpos)).map Qdp
  | .Assign [.Name x _] e _=>(Θ.QdC x).bind λi=>(Qu n Θ e).map λfa=>Qs i (if QmO e=true then QaA fa else fa)
  | .Assign [.Tuple es k p] e _=>if QhS e=true/\QuT e=false then(Qk8 Θ (.Tuple es k p)).bind λt=>(Qu n Θ e).map λfa=>Qfa t fa else none
  | .Assign [.Subscript a i _] e _=>(QdO n Θ a).bind λq=>(Qu n Θ i).bind λfi=>(Qu n Θ e).map λfa=>QbW q.1 q.2 fi fa
  | .AugAssign (.Subscript a i _) op e _=>(QdO n Θ a).bind λq=>(Qu n Θ i).bind λfi=>(QvC op).bind λg=>(Qu n Θ e).map λfa=>Qej g q.1 q.2 fi fa
  | .If c a b _=>(QbD n Θ c).bind λg=>(Qbj n Θ a).bind λf1=>(Qbj n Θ b).map λf2=>sIf g f1 f2
  | .For tg iter body [] _=>(Qk8 Θ tg).bind λt=>(Qkc n Θ tg iter).bind λfi=>(Qbj n Θ body).map λfb=>Qa7 fi t fb
  | .While c body [] _=>(QbD n Θ c).bind λg=>(Qbj n Θ body).map λfb=>Qca g fb
  | .Try a b c d p=>Θ.tr (.Try a b c d p)
  | _=>none
noncomputable def Qbj(n:Nat)(Θ:Th)(sts:List Stmt):Option DS:=match n with
  | 0=>none
  | n+1=>match sts with
    | []=>some Qo
    | st::r=>
     match Qsb (st::r)with
     | some q=>(Θ.QdC q.ln).bind λln=>(Θ.slot q.t).bind λt=>(Θ.slot q.b).bind λb=>(Θ.slot q.i).bind λi=>(Θ.slot q.k).bind λk=>(Qu n Θ q.e1).bind λg1=>(Qu n Θ q.e2).bind λg2=>(Qu n Θ q.e3).bind λg3=>(Qu n Θ q.e4).bind λg4=>(Qbj n Θ q.r).map λg=>Qd (QjF t b ln (Qh i) (Qh k) g1 g2 g3 g4) g
     | none=>
      match QsI (st::r)with
      | some q=>if Θ.gl "list" =true then(Θ.QdC q.x).bind λx=>(Θ.slot q.x).bind λx'=>if x'=x then(Qu n Θ q.y).bind λfy=>(Qu n Θ q.i1).bind λf1=>(Qu n Θ q.e1).bind λg1=>(Qu n Θ q.i2).bind λf2=>(Qu n Θ q.e2).bind λg2=>(Qbj n Θ q.r).map λg=>Qd (QkZ x fy f1 g1 f2 g2) g else none else none
      | none=>(Qos n Θ st).bind λf=>(Qbj n Θ r).map λg=>Qd f g
end
theorem Qko(h:Qu n Θ e=some f):QxW e=false:=by
 cases n with
 | zero=>exact nn h
 | succ n=>cases e<;>first | rfl | (exact nn h)
theorem QxZ(h:Qu n Θ (.ListComp elt gens scope pos)=some f):∃m tg iter ifs t fi ft fe,n=m+1/\gens=[⟨tg,iter,ifs,0⟩]/\Qk8 (inner Θ scope) tg=some t/\Ql9 Θ scope t=true∧
  Qkc m Θ tg iter=some fi/\QhA m (inner Θ scope) ifs=some ft/\Qu m (inner Θ scope) elt=some fe/\f=QG fi t (QjS Θ scope) ft fe:=by
 cases n with
 | zero=>exact nn h
 | succ n=>
  match gens,h with
  | [⟨tg,iter,ifs,k⟩],h=>
   by_cases hk:k=0
   ·subst hk
    (conv at h=>lhs;whnf)
    refine Qj h λt ht h=>?_;split at h
    ·rename_i hc;simp only[Zg]at hc;refine Qj h λfi h1 h=>?_;obtain⟨ft,fe,h2,h3,rfl⟩:=Qa9 h;exact⟨n,tg,iter,ifs,t,fi,ft,fe,rfl,rfl,ht,hc.1,h1,h2,h3,rfl⟩
    ·cases h
   ·exfalso;cases k with
    | ofNat k=>
     cases k with
     | zero=>exact hk rfl
     | succ k=>exact nn h
    | negSucc k=>exact nn h
  | [],h=>exact nn h
  | ⟨_,_,_,.ofNat 0⟩::_::_,h=>exact nn h
  | ⟨_,_,_,.ofNat (k+1)⟩::_::_,h=>exact nn h
  | ⟨_,_,_,.negSucc k⟩::_::_,h=>exact nn h
theorem Qyt(ok:QaX X Θ)(hx:Θ.QdC x=some i)(h:Qu n Θ e=some fa):S1 X (.Assign [.Name x p] e pos) (Qs i fa):=by
 have hN:X.N.Nodup:=by rw[ok.N];exact ok.nd
 obtain⟨h1,h2,h3⟩:=QeZ ok.toCtxB hx;by_cases hc:QhS e=true
 ·have he:=(Qb6 n).E X Θ e fa ok h;exact Qqn λH0 A0=>QjI hN h1 h2 (he H0 A0) (Qfh hc) h3
 ·cases e with
  | ListComp elt gens scope cpos=>
   obtain⟨m,tg,iter,ifs,t,fi,ft,fe,rfl,rfl,ht,hco,g1,g2,g3,rfl⟩:=QxZ h;obtain⟨S,cap,inn⟩:=Qpo ok hco;obtain⟨i1,i2⟩:=(Qb6 m).I X Θ tg iter fi ok g1;exact QyV hN h1 h2 h3 ok.calm S i1 cap (λcl C fp s3 H3=>⟨Qot (inn cl C fp s3 H3) ht,(Qb6 m).Ts _ _ ifs ft (inn cl C fp s3 H3) g2,(Qb6 m).E _ _ elt fe (inn cl C fp s3 H3) g3⟩) i2
  | SetComp _ _ _ _=>cases n<;>exact nn h
  | DictComp _ _ _ _ _=>cases n<;>exact nn h
  | _=>exact absurd rfl hc
theorem Qwn(ok:QaX X Θ)(hx:Θ.QdC x=some i)(h:Qu n Θ e=some fa)(ha:QmO e=true):S1 X (.Assign [.Name x p] e pos) (Qs i (QaA fa)):=by
 have hN:X.N.Nodup:=by rw[ok.N];exact ok.nd
 obtain⟨h1,h2,h3⟩:=QeZ ok.toCtxB hx;have hc:QhS e=true:=by cases e<;>first | rfl | cases ha
 have he:=Qwg ((Qb6 n).E X Θ e fa ok h);exact Qqn λH0 A0=>QjI hN h1 h2 (he H0 A0) (Qfh hc) h3
theorem Qdh:swapsWithSole [.Subscript a i p] e l env=pure false:=by
 cases e<;>rfl
structure Qzy (n:Nat):Prop where
 S:∀X Θ st f,QaX X Θ->Qos n Θ st=some f->S1 X st f
 Ss:∀X Θ sts f,QaX X Θ->Qbj n Θ sts=some f->SS X sts f
theorem QzS(ih:Qzy n):∀X Θ st f,QaX X Θ->Qos (n+1) Θ st=some f->S1 X st f:=by
 intro X Θ st f ok h;have hN:X.N.Nodup:=by rw[ok.N];exact ok.nd
 have E:=Qb6 n;cases st with
 | Pass pos=>change some Qo=some f at h;cases h;exact Qze
 | Break pos=>change some Qsm=some f at h;cases h;exact QvQ
 | Continue pos=>change some Qr2=some f at h;cases h;exact QyK
 | Raise a b pos=>change some Qy=some f at h;cases h;exact QwC
 | Return e pos=>
  cases e with
  | none=>change some QsE=some f at h;cases h;exact Qy9
  | some e=>
   change(Qu n Θ e).map QH=some f at h;obtain⟨fa,h1,rfl⟩:=Zk.mp h;exact QAK (E.E X Θ e fa ok h1)
 | Expr e pos=>
  cases e with
  | Constant c k p=>
   cases c with
   | str x=>
    change some Qo=some f at h;cases h;exact λH0 A0=>QzZ.mono λE σ H ⟨ρ,hs,F,o,rel,e,q⟩=>by cases e;exact q σ H F rel
   | _=>exact nn h
  | Call fn args kws cpos=>
   cases fn with
   | Attribute o m apos=>
    cases kws with
    | nil=>
     change(if(apos.endLine == cpos.line)=true then QlI n Θ o m args else none)=some f at h;split at h
     ·rename_i hl;exact QvI ok h hl
     ·cases h
    | cons _ _=>exact nn h
   | Name x p=>
    cases kws with
    | nil=>
     change(Qu n Θ (.Call (.Name x p) args [] cpos)).map Qdp=some f at h;obtain⟨fa,h1,rfl⟩:=Zk.mp h;exact λH0 A0=>QyL (QhT (E.E X Θ _ fa ok h1 H0 A0) rfl)
    | cons _ _=>exact nn h
   | _=>exact nn h
  | _=>exact nn h
 | Assign ts e pos=>
  match ts,h with
  | [t],h=>
   cases t with
   | Name x p=>
    change((Θ.QdC x).bind λi=>(Qu n Θ e).map λfa=>Qs i (if QmO e=true then QaA fa else fa))=some f at h;obtain⟨i,fa,h1,h2,rfl⟩:=Qa9 h;split
    ·rename_i ha;exact Qwn ok h1 h2 ha
    ·exact Qyt ok h1 h2
   | Tuple es k p=>
    change(if QhS e=true/\QuT e=false then(Qk8 Θ (.Tuple es k p)).bind λt=>(Qu n Θ e).map λfa=>Qfa t fa else none)=some f at h;split at h
    ·rename_i hc;obtain⟨t,fa,h1,h2,rfl⟩:=Qa9 h;refine Qy7 (E.E X Θ e fa ok h2) (Qot ok h1) (by show swapsWith e (some (.Tuple es k p)) pos.line X.env=pure false;exact Qfh hc.1) ?_ rfl;cases e<;>first | rfl | (cases hc.2)
    ·cases h
   | Subscript a i p=>
    change((QdO n Θ a).bind λq=>(Qu n Θ i).bind λfi=>(Qu n Θ e).map λfa=>QbW q.1 q.2 fi fa)=some f at h;refine Qj h λq h1 h=>?_;obtain⟨fi,fa,h2,h3,rfl⟩:=Qa9 h;obtain⟨sp,_⟩:=Qib n X Θ a q ok h1;have ns:=Qko h2;refine QAa (E.E X Θ e fa ok h3) sp (E.E X Θ i fi ok h2) λte to ti he ho hi=>Qff he (Qgs ho hi set_list ?_) Qdh ?_ rfl
    ·intro v;cases i<;>first | rfl | (cases ns)
    ·cases e<;>rfl
   | _=>exact nn h
  | [],h=>exact nn h
  | t::_::_,h=>cases t<;>exact nn h
 | AugAssign t op e pos=>
  cases t with
  | Subscript a i p=>
   change((QdO n Θ a).bind λq=>(Qu n Θ i).bind λfi=>(QvC op).bind λg=>(Qu n Θ e).map λfa=>Qej g q.1 q.2 fi fa)=some f at h;refine Qj h λq h1 h=>?_;refine Qj h λfi h2 h=>?_;obtain⟨g,fa,h3,h4,rfl⟩:=Qa9 h;obtain⟨r,o1,o2⟩:=QAe (X:=X) h3;obtain⟨sp,_⟩:=Qib n X Θ a q ok h1;have ns:=Qko h2;exact Qx0 o1 o2 (E.E X Θ e fa ok h4) sp (E.E X Θ i fi ok h2) λov iv new=>by cases i<;>first | rfl | (cases ns)
  | _=>exact nn h
 | If c a b pos=>
  change((QbD n Θ c).bind λg=>(Qbj n Θ a).bind λf1=>(Qbj n Θ b).map λf2=>sIf g f1 f2)=some f at h;refine Qj h λg h1 h=>?_;obtain⟨f1,f2,h2,h3,rfl⟩:=Qa9 h;exact QCh (E.T X Θ c g ok h1) (ih.Ss X Θ a f1 ok h2) (ih.Ss X Θ b f2 ok h3)
 | For tg iter body els pos=>
  cases els with
  | nil=>
   change((Qk8 Θ tg).bind λt=>(Qkc n Θ tg iter).bind λfi=>(Qbj n Θ body).map λfb=>Qa7 fi t fb)=some f at h;refine Qj h λt h1 h=>?_;obtain⟨fi,fb,h2,h3,rfl⟩:=Qa9 h;obtain⟨i1,i2⟩:=E.I X Θ tg iter fi ok h2;exact QzE ok.pass ok.calm i1 (Qot ok h1) (ih.Ss X Θ body fb ok h3) i2
  | cons _ _=>exact nn h
 | While c body els pos=>
  cases els with
  | nil=>
   change((QbD n Θ c).bind λg=>(Qbj n Θ body).map λfb=>Qca g fb)=some f at h;obtain⟨g,fb,h1,h2,rfl⟩:=Qa9 h;exact Qt6 ok.pass (E.T X Θ c g ok h1) (ih.Ss X Θ body fb ok h2)
  | cons _ _=>exact nn h
 | Try a b c d pos=>exact ok.tr _ _ h
 | _=>exact nn h
theorem Qw8:∀n,Qzy n
 | 0=>⟨λ_ _ _ _ _ h=>(nn h),λ_ _ _ _ _ h=>(nn h)⟩
 | n+1=>by
  have ih:=Qw8 n;refine⟨QzS ih,λX Θ sts f ok h=>?_⟩
  match sts,h with
  | [],h=>change some Qo=some f at h;cases h;exact Qz0
  | st::r,h=>
   change(match Qsb (st::r)with
    | some q=>(Θ.QdC q.ln).bind λln=>(Θ.slot q.t).bind λt=>(Θ.slot q.b).bind λb=>(Θ.slot q.i).bind λi=>(Θ.slot q.k).bind λk=>(Qu n Θ q.e1).bind λg1=>(Qu n Θ q.e2).bind λg2=>(Qu n Θ q.e3).bind λg3=>(Qu n Θ q.e4).bind λg4=>(Qbj n Θ q.r).map λg=>Qd (QjF t b ln (Qh i) (Qh k) g1 g2 g3 g4) g
    | none=>_)=some f at h
   split at h
   ·rename_i q hq;refine Qj h λln hln h=>?_;refine Qj h λt ht h=>?_;refine Qj h λb hb h=>?_;refine Qj h λi hi h=>?_;refine Qj h λk hk h=>?_;refine Qj h λg1 h1 h=>?_;refine Qj h λg2 h2 h=>?_;refine Qj h λg3 h3 h=>?_;obtain⟨g4,g,h4,h5,rfl⟩:=Qa9 h;obtain⟨p,ea,eb,ec,ed,kk,p1,p2,t1,t2,t3,t4,p3,p4,p5,p6,hs,n1,n2,n3,n4,m1,m2,m3,m4⟩:=QwM hq;rw[hs];obtain⟨_,_,_,rfl⟩:=Qdd n1;obtain⟨_,_,_,rfl⟩:=Qdd n2;obtain⟨_,_,_,rfl⟩:=Qdd n3;obtain⟨_,_,_,rfl⟩:=Qdd n4;obtain⟨_,_,_,rfl⟩:=Qdd m1;obtain⟨_,_,_,rfl⟩:=Qdd m2;obtain⟨_,_,_,rfl⟩:=Qdd m3;obtain⟨_,_,_,rfl⟩:=Qdd m4;have E:=Qb6 n;have hN:X.N.Nodup:=by rw[ok.N];exact ok.nd
    obtain⟨l1,l2,l3⟩:=QeZ ok.toCtxB hln;have B:=ok.toCtxB;refine Qz8 (λH0 A0=>QjI hN l1 l2 (QtF (Qag (Qht (QdZ (QaB B ht)) (Qet (QaB B hi)) (λ_ _=>rfl) H0 A0) (Qag (Qht (QdZ (QaB B ht)) (Qet (QaB B hk)) (λ_ _=>rfl) H0 A0) (Qag (Qht (QdZ (QaB B hb)) (Qet (QaB B hi)) (λ_ _=>rfl) H0 A0) (Qag (Qht (QdZ (QaB B hb)) (Qet (QaB B hk)) (λ_ _=>rfl) H0 A0) Qb8))))) (Qfh rfl) l3) (λH0 A0=>Qff (E.E X Θ q.e1 g1 ok h1 H0 A0) (Qgs (QaB B ht) (Qet (QaB B hi) H0 A0) set_list λv=>rfl) Qdh ?_ rfl) (λH0 A0=>Qff (E.E X Θ q.e2 g2 ok h2 H0 A0) (Qgs (QaB B ht) (Qet (QaB B hk) H0 A0) set_list λv=>rfl) Qdh ?_ rfl) (λH0 A0=>Qff (E.E X Θ q.e3 g3 ok h3 H0 A0) (Qgs (QaB B hb) (Qet (QaB B hi) H0 A0) set_list λv=>rfl) Qdh ?_ rfl) (λH0 A0=>Qff (E.E X Θ q.e4 g4 ok h4 H0 A0) (Qgs (QaB B hb) (Qet (QaB B hk) H0 A0) set_list λv=>rfl) Qdh ?_ rfl) (ih.Ss X Θ q.r g ok h5)
    ·cases q.e1<;>rfl
    ·cases q.e2<;>rfl
    ·cases q.e3<;>rfl
    ·cases q.e4<;>rfl
   change(match QsI (st::r)with
    | some q=>if Θ.gl "list" =true then(Θ.QdC q.x).bind λx=>(Θ.slot q.x).bind λx'=>if x'=x then(Qu n Θ q.y).bind λfy=>(Qu n Θ q.i1).bind λf1=>(Qu n Θ q.e1).bind λg1=>(Qu n Θ q.i2).bind λf2=>(Qu n Θ q.e2).bind λg2=>(Qbj n Θ q.r).map λg=>Qd (QkZ x fy f1 g1 f2 g2) g else none else none
    | none=>(Qos n Θ st).bind λf=>(Qbj n Θ r).map λg=>Qd f g)=some f at h
   split at h
   ·rename_i q hq;split at h
    case isFalse=>cases h
    rename_i hg;refine Qj h λx hx h=>?_;refine Qj h λx' hx' h=>?_;split at h
    case isFalse=>cases h
    rename_i hxx;subst hxx;refine Qj h λfy h1 h=>?_;refine Qj h λf1 h2 h=>?_;refine Qj h λg1 h3 h=>?_;refine Qj h λf2 h4 h=>?_;obtain⟨g2,g,h5,h6,rfl⟩:=Qa9 h;obtain⟨p1,p2,p3,p4,a1,a2,a3,b1,b2,b3,hs⟩:=QvK hq;rw[hs];have E:=Qb6 n;have hN:X.N.Nodup:=by rw[ok.N];exact ok.nd
    obtain⟨g1',g2',g3'⟩:=Qh3 ok.toCtxB hg;obtain⟨l1,l2,l3⟩:=QeZ ok.toCtxB hx;have n1:=Qko h2;have n2:=Qko h4;refine QAj (λH0 A0=>QjI hN l1 l2 (QjJ Qi9 g1' (ok.mg _ (by decide+kernel)) ZbD (QhU (E.E X Θ q.y fy ok h1) QlC (QaE h1 _ _) H0 A0) (by decide) (by decide) (QaE h1 _ _) rfl) (Qfh rfl) l3) (λH0 A0=>Qff (E.E X Θ q.e1 g1 ok h3 H0 A0) (Qgs (QaB ok.toCtxB hx') (E.E X Θ q.i1 f1 ok h2 H0 A0) set_list ?_) Qdh ?_ rfl) (λH0 A0=>Qff (E.E X Θ q.e2 g2 ok h5 H0 A0) (Qgs (QaB ok.toCtxB hx') (E.E X Θ q.i2 f2 ok h4 H0 A0) set_list ?_) Qdh ?_ rfl) (ih.Ss X Θ q.r g ok h6)
    ·intro v;cases hi:q.i1<;>first | rfl | (rw[hi]at n1;cases n1)
    ·cases q.e1<;>rfl
    ·intro v;cases hi:q.i2<;>first | rfl | (rw[hi]at n2;cases n2)
    ·cases q.e2<;>rfl
   ·obtain⟨fs,fr,h1,h2,rfl⟩:=Qa9 h;exact QxR (ih.S X Θ st fs ok h1) (ih.Ss X Θ r fr ok h2)
noncomputable def QaQ(k:Nat)(ds:List D):En:=ds.map (λd=>some (d,d.flat))++List.replicate (k-ds.length) none
noncomputable def outD:Out->Option (D×Bool)
 | .rt d fr=>some (d,fr)
 | .nx _=>some (.non,true)
 | _=>none
noncomputable def Qq(k:Nat)(f:DS):Den:=λds=>(f (QaQ k ds)).bind outD
theorem Rps.parts{K:Fgg}{H:Hp}:∀{ds:List D}{vs:List V}{F:LAd},Rps K H ds vs F→
  ∃Fs:List (List Addr),(∀L∈Fs,∀a∈L,a∈F)/\∀(i:Nat) (d:D),ds[i]? =some d->∃v,vs[i]? =some v/\Rp K H d v (Fs.getD i [])
 | [],_,_,h=>⟨[],λL hL=>by simp at hL,λi d e=>by simp at e⟩
 | d::ds,_,_,h=>by
  simp only[Rps]at h;obtain⟨v,ws,F1,F2,rfl,rfl,r,q⟩:=h;obtain⟨Fs,h1,h2⟩:=Rps.parts q;refine⟨F1::Fs,λL hL a ha=>?_,λi d' e=>?_⟩
  ·rcases Zo.mp hL with rfl | hL
   ·exact Zl _ ha
   ·exact Zf _ (h1 L hL a ha)
  ·cases i with
   | zero=>simp at e;subst e;exact⟨v,by simp,by simpa using r⟩
   | succ i=>obtain⟨w,hw,hr⟩:=h2 i d' (by simpa using e);exact⟨w,by simpa using hw,by simpa using hr⟩
theorem Qkz{k:Nat}{ds:List D}{i:Nat}{d:D}{b:Bool}(h:(QaQ k ds)[i]? =some (some (d,b))):ds[i]? =some d/\b=d.flat:=by
 unfold QaQ at h;by_cases hi:i<ds.length
 ·rw[Zaw (by simpa using hi),Zr]at h;cases e:ds[i]? with
  | none=>rw[e]at h;cases h
  | some a=>rw[e]at h;cases h;exact⟨rfl,rfl⟩
 ·rw[Zbo (by simpa using hi),Zce]at h;split at h<;>cases h
theorem Qs8{K:Fgg}{H:Hp}{ds:List D}{vs:List V}{F:LAd}{N:List Str}(r:Rps K H ds vs F):∃F0,Rel K H F [] (QaQ N.length ds) F0 (start N vs) H:=by
 obtain⟨Fs,h1,h2⟩:=r.parts;have hl:=r.length;have src:∀i a,a∈Fs.getD i []->a∈F:=λi a ha=>by
  by_cases hi:i<Fs.length
  ·have:Fs.getD i []∈Fs:=by rw[ZaS,Zae hi];exact List.getElem_mem hi
   exact h1 _ this a ha
  ·rw[ZaS,Zu ⋯]at ha;simp at ha
 refine⟨λi=>Fs.getD i [],?_,λi d b e=>?_,λi d e=>?_,λi d b e a ha=> .inr (src i a ha),λt ht=>absurd ht (by simp),QU.refl _⟩
 ·unfold QaQ L2.start;simp[hl]
 ·obtain⟨e1,_⟩:=Qkz e;obtain⟨v,hv,hr⟩:=h2 i d e1;refine⟨v,?_,hr⟩;have hi:i<vs.length:=(Zi.mp hv).1;unfold L2.start;rw[Zaw (by simpa using hi),Zr,hv];rfl
 ·obtain⟨e1,e2⟩:=Qkz e;obtain⟨v,hv,hr⟩:=h2 i d e1;have z:Fs.getD i []=[]:=hr.QbK e2.symm;simp only[z];exact⟨(Qdm d e2.symm).symm,ZaA,λa ha=>by simp at ha,λ_ _ _ _ _ a ha=>by simp at ha,λ_ _ a ha=>by simp at ha⟩
section
variable (P:Program) (w:World) (K:Fgg) (mg:Str->Option Value) (base:Heap)
def Known(k:Nat)(x:Str)(r:FnR):Prop:=∃f fd ps,QdK P w K mg base CX0 k f fd ps (spV K r.n r.den)/\mg x=some (.ref f)/\PySem.W.keepIn K (.ref f)=true∧
 ∀m,m<=r.dfl.length->∃ds dvs,Binds K fd ps ds/\QL dvs ds/\∀H,Rps K H (r.dfl.drop (r.dfl.length-m)) dvs []
def Qdv(k:Nat)(Γ:List (Str×FnR)):Prop:=∀x r,look x Γ=some r->Known P w K mg base k x r
structure Qg8 (cs:List (Str×Int)):Prop where
 bn:∀x∈Qo8,mg x=none
 cs:∀x i,look x cs=some i->∃t,mg x=some (.int i t)
end
section
variable {P:Program}{w:World}{K:Fgg}{mg:Str->Option Value}{base:Heap}
theorem Qdv.nil{k:Nat}:Qdv P w K mg base k []:=λx r h=>by cases h
theorem Known.mono{j k:Nat}{x:Str}{r:FnR}(h:Known P w K mg base j x r)(hk:j<=k):Known P w K mg base k x r:=by
 obtain⟨f,fd,ps,h1,h2⟩:=h;exact⟨f,fd,ps,h1.mono hk,h2⟩
theorem Qdv.cons{k:Nat}{Γ:List (Str×FnR)}{x:Str}{r:FnR}(t:Qdv P w K mg base k Γ)(h:Known P w K mg base (k+1) x r):Qdv P w K mg base (k+1) ((x,r)::Γ):=λy q e=>by
 unfold look at e;split at e
 ·rename_i z;cases e;subst z;exact h
 ·exact(t y q e).mono (ZbN _)
noncomputable def namesOf(sc:Scope):List Str:=(sc.names.filter λy=>Qxp y.2).map (·.1)
noncomputable def Qmv(st:Stmt)(Γ:List (Str×FnR))(cs:List (Str×Int)):Th:=⟨namesOf (QJ st),(QJ st).names,Γ,cs,λ_=>none⟩
theorem Qyq{CX:CXT}{xe:Value->Shared->Prop}{st:Stmt}{ps:List Str}{qual:Str}{f:Addr}{cdv:Value}{A:Around}{outer:List Env}{s:Shared}{H:Hp}{E:XK}{k:Nat}{Γ:List (Str×FnR)}{cs:List (Str×Int)}(S:QdB (namesOf (QJ st)) ps (QJ st))(M:Qg8 mg cs)(tab:Qdv P w K mg base k Γ)
  (hr:QbS k (A.deeper (envOfC qual (QJ st) s.heap.objs.size f cdv))) (hp:PassesOwn (model P w) (A.deeper (envOfC qual (QJ st) s.heap.objs.size f cdv)) (envOfC qual (QJ st) s.heap.objs.size f cdv) xe):
  QaX ((Qjz CX P w K mg base (namesOf (QJ st)) qual (QJ st) f cdv A outer s H E).Qgi xe) (Qmv st Γ cs) where
 N:=rfl
 nd:=S.nd
 lc:=λx h=>by rw[QbY]at h;exact h
 ce:=λx h=>by rw[QbY]at h;exact⟨h,rfl⟩
 fe:=λx h=>by rw[QbY]at h;exact absurd rfl (S.nofree _ (Zar h))
 gl:=λx h=>by rw[QbY]at h;exact h
 calm:=decide_eq_true hr.hd
 pass:=hp
 tr:=λ_ _ h=>by cases h
 units:=hr.units
 mg:=M.bn
 fns:=λx r h=>by
  obtain⟨f',fd,ps',h1,h2,h3,h4⟩:=tab x r h;exact⟨k,f',fd,ps',h1,hr,h2,h3,h4⟩
 cs:=M.cs
theorem QAu{st:Stmt}{ps:List Str}{qual:Str}{f:Addr}{cdv:Value}{A:Around}{outer:List Env}{s:Shared}{H:Hp}{E:XK}{k:Nat}{Γ:List (Str×FnR)}{cs:List (Str×Int)}(S:QdB (namesOf (QJ st)) ps (QJ st))(M:Qg8 mg cs)(tab:Qdv P w K mg base k Γ)
  (hr:QbS k (A.deeper (envOfC qual (QJ st) s.heap.objs.size f cdv))):QaX (Qjz CX0 P w K mg base (namesOf (QJ st)) qual (QJ st) f cdv A outer s H E).nox (Qmv st Γ cs):=Qyq S M tab hr PassesOwn.never
theorem QtY{x qual:Str}{st:Stmt}{f:Addr}{fd:FuncData}{ps:List Str}{k n:Nat}{Γ:List (Str×FnR)}{cs:List (Str×Int)}{g:DS}(F:Fun K x qual st f fd)(S:QdB (namesOf (QJ st)) ps (QJ st))(M:Qg8 mg cs)(tab:Qdv P w K mg base k Γ)
  (hc:Qbj n (Qmv st Γ cs) (Qcy st)=some g):QdK P w K mg base CX0 (k+1) f fd ps (spV K ps.length (Qq (namesOf (QJ st)).length g)):=by
 refine F.ok S (QyS rfl) λcdv A outer s H vs Q E hr h=>?_;obtain⟨ds,L,d,fr,rps,hl,hd,q⟩:=h;refine⟨_,(Qw8 n).Ss _ _ _ g (QAu S M tab hr) hc H L,?_⟩;obtain⟨F0,rel⟩:=Qs8 (N:=namesOf (QJ st)) rps;unfold Qq at hd;refine Qj hd λo ho hd=>?_;refine⟨_,[],F0,o,rel,ho,?_⟩;cases o with
 | nx ρ=>
  cases hd;exact λσ H' F' rel'=>q .non H' [] ⟨rel'.same,.QlM,λa ha=>by simp at ha,λ_=>⟨ZaA,rfl,λa ha=>by simp at ha⟩⟩
 | bk ρ=>cases hd
 | ct ρ=>cases hd
 | rt d' fr'=>
  cases hd;exact λv H' G r=>q v H' G r
structure Fact (K:Fgg) (x:Str) (st:Stmt):Prop where
 ex:∃f fd,Fun K x x st f fd/\PySem.W.nsIn K mainGlobals x=some (some (.ref f))
theorem fact_mk{x:Str}{st:Stmt}{f:Addr}{oc:Value}{od an:Option Addr}{osl:Array (Option Value)}{kV doc pm cdv ct:Value}(a:PySem.W.nsIn K mainGlobals x=some (some (.ref f)))(l:K.lookup f=some ⟨oc,od,.func (PySem.W.fnOf x x (QfY st) (Qcy st) (QJ st) .none kV doc pm an cdv ct),osl⟩)
  (c:PySem.W.codeIn K cdv x=true) (k:PySem.W.keepIn K (.ref f)=true):Fact K x st:=⟨f,_,QBa l c k,a⟩
theorem l0{α:Type}{P:List α->Prop}(h:P []):∀l:List α,l.length=0->P l:=λl e=>(List.length_eq_zero_iff.mp e).symm▸h
theorem lc{α:Type}{n:Nat}{P:List α->Prop}(h:∀a,∀l:List α,l.length=n->P (a::l)):∀l:List α,l.length=n+1->P l
 | a::l,e=>h a l (Nat.succ.inj e)
def Qik(x:Str)(st:Stmt)(ps:List Str):Prop:=∀(kV doc pm:Value) (an:Option Addr) (cdv ct:Value) (us:List Value),us.length=ps.length->bindArgs (PySem.W.fnOf x x (QfY st) (Qcy st) (QJ st) .none kV doc pm an cdv ct) ⟨us,[]⟩=pure (ps.zip us)
theorem Qwv{h:Heap}{x:Str}{st:Stmt}{ps:List Str}{k n:Nat}{Γ:List (Str×FnR)}{cs:List (Str×Int)}{g:DS}(X:K.In h)(G:h.Ns mainGlobals mg)(F:Fact K x st)(S:QdB (namesOf (QJ st)) ps (QJ st))(B:Qik x st ps)(M:Qg8 mg cs)(tab:Qdv P w K mg base k Γ)
  (hc:Qbj n (Qmv st Γ cs) (Qcy st)=some g):Known P w K mg base (k+1) x ⟨ps.length,[],Qq (namesOf (QJ st)).length g⟩:=by
 obtain⟨f,fd,Fn,a⟩:=F.ex;refine⟨f,fd,ps,QtY Fn S M tab hc,PySem.W.mg_of X G a,Fn.kp,λm hm=>⟨[],[],Fn.binds (B ·),.nil,λH=>by simp[Rps]⟩⟩
end
end HS
namespace HS
open PySem PySem.Spec L2 PyProof.Rows
theorem QvR{l:PySem.W.OpenLaw}{k:Nat}{q:Program}{loose:List Str}{XP:(Str->Option Value)->Heap->Prop}{YP:World->Heap->Prop}{d:DefRec}{K:Params->PySem.W.Frag}{den:Den}{x:Str}
  (hn:l.most=some 63) (hdf:d.params.defaults=[]) (hr:QbS k callerA) (hY:∀(w:World) (h:Heap),YP w h->(K w.params).In h)
  (hden:∀ns:List Int,ns.length<=63->∃fr,den [.lst (ns.map .int)]=some (.bl true,fr))
  (F:∀(w:World) (mg:Str->Option Value) (fa:Addr) (h:Heap),(K w.params).In h->h.Ns mainGlobals mg->mg d.name=some (.ref fa)→
   ∃fd:FuncData,(∀(s:Shared) (u:Value),BindsTo s fd ⟨[u],[]⟩ [(x,u)])∧
    ∀base:Heap,(K w.params).In base->base.Ns mainGlobals mg->QdK l.prog w (K w.params) mg base CX0 k fa fd [x] (spV (K w.params) 1 den)):
  PySem.W.WalkO q loose XP YP l.row.toRowW d [] (λf vs=>PySem.call f vs):=by
 refine Att.Qqy hn hdf λw s₀ s₁ mg mb fa o pm cd doc a vs ns G Y ho hd hcd hmg hobj hints hlen hg=>?_;have KX:=hY w _ Y;obtain⟨fd,hb,hF⟩:=F w mg fa _ KX G.T.g hmg;have h63:(63:Nat)<=sizeLine:=by decide
 refine QvY KX G.T.g G.T.b G.T.builtins G.T.nolimit hg hobj hints (Zp hlen h63) hr hF hb (λH hO hS=>?_) λH e s' z=>z;have fx:Fix (K w.params) H a (ns.map V.int):=by
  rcases hS with(h | ⟨o,h⟩) | ⟨o,its,n,hk,hc,hdn,hda,hz,rv⟩
  ·rcases hO a with z | ⟨o,xs,z⟩<;>rw[h]at z<;>cases z
  ·exact .inl ⟨o,h⟩
  ·have e:=KX a o hk;rw[hobj]at e;cases e;cases hda;exact .inr ⟨vs,_,hk,by rw[Zj];exact Zp hlen h63,by simpa using rv⟩
 obtain⟨fr,hfr⟩:=hden ns hlen;have rp:Rp (K w.params) H (.lst (ns.map .int)) (.ref a) []:=by
  simp only[Rp];refine⟨by rw[Zj];exact Zp hlen h63,a,_,rfl,.inr ⟨fx,?_⟩⟩;have gen:∀ns:List Int,Rps (K w.params) H (ns.map .int) (ns.map .int) []:=by
   intro ns
   induction ns with
   | nil=>simp[Rps]
   | cons n ns ih=>simp only[ZM,Rps];exact⟨_,_,[],[],rfl,rfl,.int_mk,ih⟩
  exact gen ns
 refine⟨[.lst (ns.map .int)],[],.bl true,fr,?_,rfl,hfr,λv H' G r=>r.rp.QdL⟩;simp only[Rps];exact⟨_,_,[],[],rfl,rfl,rp,rfl,rfl⟩
theorem QCk{P:Program}{w:World}{K:Fgg}{mg:Str->Option Value}{h:Heap}{x y:Str}{st:Stmt}{fa:Addr}{k n:Nat}{Γ:List (Str×FnR)}{cs:List (Str×Int)}{g:DS}(X:K.In h)(G:h.Ns mainGlobals mg)(hmg:mg x=some (.ref fa))
  (F:Fact K x st) (S:QdB (namesOf (QJ st)) [y] (QJ st)) (B:Qik x st [y]) (M:Qg8 mg cs) (tab:∀base:Heap,Qdv P w K mg base k Γ) (hc:Qbj n (Qmv st Γ cs) (Qcy st)=some g):
  ∃fd:FuncData,(∀(s:Shared) (u:Value),BindsTo s fd ⟨[u],[]⟩ [(y,u)])∧
    ∀base:Heap,K.In base->base.Ns mainGlobals mg->QdK P w K mg base CX0 (k+1) fa fd [y] (spV K 1 (Qq (namesOf (QJ st)).length g)):=by
 obtain⟨f,fd,Fn,a⟩:=F.ex;have e:=hmg.symm.trans (PySem.W.mg_of X G a);cases e;refine⟨fd,λs u=>?_,λbase _ _=>QtY Fn S M (tab base) hc⟩;obtain⟨oc,od,kV,doc,pm,an,cdv,ct,osl,rfl,lk,hcd⟩:=Fn.ex;exact .of_eq (B kV doc pm an cdv ct [u] rfl)
end HS
namespace HS
open PySem PySem.Spec PyProof.Rows L2
section
variable {P:Program}{w:World}{K:Fgg}{mg:Str->Option Value}{base:Heap}
end
end HS
namespace HS
open PySem PySem.Spec L2 PyProof.Rows
section
variable {P:Program}{w:World}{H H':Hp}{h0 h h' B:Heap}{fs:LAd}
end
end HS
namespace HS
open PySem PySem.Spec L2 PyProof.Rows
section
variable {X:Cx}{st:Stmt}{sts:List Stmt}{e:Expr}{es:List Expr}{fs:DA}{f:DS}{fx fr fy:DX}{g:DT}{pos p np cpos:Pos}{x:Str}{k n:Nat}{fa:Addr}{fd:FuncData}{ps:List Str}{xd:List D->Option Str}
end
section
variable {X:Cx}{e:Expr}{fs:DA}{x:Str}{np cpos pos:Pos}
end
end HS
namespace HS
open PySem PySem.Spec L2 PyProof.Rows
section
variable {X:Cx}{Θ:Th}{ΘX:ThX}
end
section
variable (P:Program) (w:World) (K:Fgg) (mg:Str->Option Value) (base:Heap)
end
section
variable {P:Program}{w:World}{K:Fgg}{mg:Str->Option Value}{base:Heap}
end
end HS
namespace HS
open PySem PySem.Spec L2 PyProof.Rows
section
variable {X:Cx}{pins:List (Addr×Obj)}{σ:L2.St}{H:Hp}{s s':Shared}{B:Heap}
end
end HS
namespace HS
open PySem PySem.Spec L2 PyProof.Rows
section
variable {X:Cx}{pins:List (Addr×Obj)}{σ:L2.St}{H:Hp}{s s':Shared}{B:Heap}{ea C:Addr}
end
end HS
namespace HS
open PySem PySem.Spec L2 PyProof.Rows PySem.W
section
variable {prog:Program}{w:World}{A:Around}{E:Value->Shared->Prop}{s:Shared}{K:Frag}{a C:Addr}
end
end HS
namespace HS
open PySem PySem.Spec L2 PyProof.Rows
section
variable {X:Cx}{a:Expr}{fa:DE}{p p2 pos:Pos}{sub:Str->Str->Option Bool}
end
end HS
namespace HS
open PySem PySem.Spec L2 PyProof.Rows
section
variable {P:Program}{w:World}{K:Fgg}{mg:Str->Option Value}{base:Heap}
end
section
variable {X:Cx}{e:Expr}{es:List Expr}{fs:DA}{pos p:Pos}{x:Str}{n k:Nat}{f:Addr}{fd:FuncData}{ps:List Str}{den:Den}
end
section
variable (P:Program) (w:World) (K:Fgg) (mg:Str->Option Value) (base:Heap)
end
section
variable {P:Program}{w:World}{K:Fgg}{mg:Str->Option Value}{base:Heap}
end
end HS
namespace HS
open PySem PySem.Spec L2 PyProof.Rows
section
variable {P:Program}{w:World}{K:Fgg}{mg:Str->Option Value}{base:Heap}
end
end HS
namespace HS
open PySem PySem.Spec L2 PyProof.Rows
section
variable {K:Fgg}{x y:Str}{C C':Addr}{v:Bool}
end
end HS
namespace HS
open PySem L2
noncomputable def pairD(p:Int×Int):D:= .tup [.int p.1,.int p.2]
noncomputable def QeF(p:Int×Int×Bool):D:= .tup [.int p.1,.int p.2.1,.bl p.2.2]
noncomputable def QA(ns:List Int):D:= .lst (ns.map .int)
noncomputable def Qam(ps:Lpp):D:= .lst (ps.map pairD)
noncomputable def QC(m:Int)(R L:Lpp):D:= .tup [.int m,Qam R,Qam L]
theorem Qb7{α:Type}{f:α->D}(h:∀a,(f a).flat=true):∀l:List α,QY (l.map f)=true
 | []=>rfl
 | a::l=>by simp[QY,h a,Qb7 h l]
@[simp] theorem QCD(i:Int):(D.int i).flat=true:=rfl
@[simp] theorem QDo(i:Bool):(D.bl i).flat=true:=rfl
@[simp] theorem QDn:D.non.flat=true:=rfl
@[simp] theorem QCR(x:Str):(D.str x).flat=true:=rfl
@[simp] theorem QCK(xs:List D):(D.lst xs).flat=false:=rfl
@[simp] theorem QCM(xs:List D):(D.tup xs).flat=QY xs:=rfl
@[simp] theorem QCw:QY []=true:=rfl
@[simp] theorem QBK(d:D)(ds:List D):QY (d::ds)=(d.flat && QY ds):=rfl
@[simp] theorem QCx(p:Int×Int):(pairD p).flat=true:=rfl
@[simp] theorem QC0(p:Int×Int×Bool):(QeF p).flat=true:=rfl
@[simp] theorem QCv(ns:List Int):(QA ns).flat=false:=rfl
@[simp] theorem QBR(ns:Lpp):(Qam ns).flat=false:=rfl
@[simp] theorem QBq(ps:Lpp):QY (ps.map pairD)=true:=Qb7 (λ_=>rfl) _
@[simp] theorem Qsa(ps:List (Int×Int×Bool)):QY (ps.map QeF)=true:=Qb7 (λ_=>rfl) _
@[simp] theorem Qiq(ns:List Int):QY (ns.map .int)=true:=Qb7 (λ_=>rfl) _
@[simp] theorem QCz(xs ys:List D):QY (xs++ys)=(QY xs && QY ys):=Qdi xs ys
def Run(f:DS)(ρ:En)(Q:Out->Prop):Prop:=∃o,f ρ=some o/\Q o
noncomputable def Nx(Q:En->Prop):Out->Prop
 | .nx ρ=>Q ρ
 | _=>False
noncomputable def Rt(Q:D->Bool->Prop):Out->Prop
 | .rt d fr=>Q d fr
 | _=>False
theorem Run.mono(h:Run f ρ Q)(m:∀o,Q o->Q' o):Run f ρ Q':=let ⟨o,h1,h2⟩:=h;⟨o,h1,m o h2⟩
theorem Qt(h:Q (.nx ρ)):Run Qo ρ Q:=⟨_,rfl,h⟩
theorem run_seq(h:Run f ρ (Nx λρ'=>Run g ρ' Q)):Run (Qd f g) ρ Q:=by
 obtain⟨o,h1,h2⟩:=h;cases o with
 | nx ρ'=>
  obtain⟨o',h3,h4⟩:=h2;exact⟨o',by simp[Qd,h1,h3],h4⟩
 | _=>exact False.elim h2
theorem Qx(h:Run f ρ λo=>match o with | .nx ρ'=>Run g ρ' Q | o=>Q o):Run (Qd f g) ρ Q:=by
 obtain⟨o,h1,h2⟩:=h;cases o with
 | nx ρ'=>
  obtain⟨o',h3,h4⟩:=h2;exact⟨o',by simp[Qd,h1,h3],h4⟩
 | bk ρ'=>exact⟨_,by simp[Qd,h1],h2⟩
 | ct ρ'=>exact⟨_,by simp[Qd,h1],h2⟩
 | rt d fr=>exact⟨_,by simp[Qd,h1],h2⟩
theorem Qz(h:fa ρ=some r)(q:Q (.nx (asg i r ρ))):Run (Qs i fa) ρ Q:=⟨_,by simp[Qs,h],q⟩
theorem Qb0(h:fa ρ=some r)(q:Q (.rt r.d (r.norm.fr && decide r.norm.M.Nodup))):Run (QH fa) ρ Q:=⟨_,by simp[QH,h],q⟩
theorem QQ(h:g ρ=some b)(q1:b=true->Run f1 ρ Q)(q2:b=false->Run f2 ρ Q):Run (sIf g f1 f2) ρ Q:=by
 cases b with
 | true=>obtain⟨o,h1,h2⟩:=q1 rfl;exact⟨o,by simp[sIf,h,h1],h2⟩
 | false=>obtain⟨o,h1,h2⟩:=q2 rfl;exact⟨o,by simp[sIf,h,h1],h2⟩
theorem QN(h:Run f (QaQ k ds) (Rt λd' fr'=>d'=d/\fr'=fr)):Qq k f ds=some (d,fr):=by
 obtain⟨o,h1,h2⟩:=h;unfold Qq;cases o with
 | rt d' fr'=>obtain⟨rfl,rfl⟩:=h2;rw[h1];rfl
 | _=>exact False.elim h2
theorem Qqv{α:Type}{t:Tg}{fb:DS}{toD:α->D}{Q:Out->Prop}(I:Nat->En->Prop):∀(xs ys:List α) (ρ:En),I ys.length ρ→
  (∀i x ρ,(ys++xs)[i]? =some x->ys.length<=i->I i ρ->∃ρ1,Qch t (toD x) ρ=some ρ1/\Run fb ρ1 λo=>match o with | .nx ρ2=>I (i+1) ρ2 | .ct ρ2=>I (i+1) ρ2 | .bk ρ2=>Q (.nx ρ2) | .rt d fr=>Q (.rt d fr))→
  (∀ρ,I (ys++xs).length ρ->Q (.nx ρ))->Run (QdQ t fb (xs.map toD)) ρ Q
 | [],ys,ρ,h0,_,fin=>⟨_,rfl,fin ρ (by simpa using h0)⟩
 | x::xs,ys,ρ,h0,turn,fin=>by
  obtain⟨ρ1,h1,o,h2,h3⟩:=turn ys.length x ρ (by simp) (Zh _) h0;have next:∀ρ2,I (ys.length+1) ρ2->Run (QdQ t fb (xs.map toD)) ρ2 Q:=λρ2 hi=>
   Qqv I xs (ys++[x]) ρ2 (by simpa using hi) (λi y ρ' e hl=>turn i y ρ' (by simpa using e) (by simp at hl;omega)) (λρ' h=>fin ρ' (by simpa using h))
  cases o with
  | nx ρ2=>obtain⟨o',e1,e2⟩:=next ρ2 h3;exact⟨o',by simp[QdQ,h1,h2,e1],e2⟩
  | ct ρ2=>obtain⟨o',e1,e2⟩:=next ρ2 h3;exact⟨o',by simp[QdQ,h1,h2,e1],e2⟩
  | bk ρ2=>exact⟨_,by simp[QdQ,h1,h2],h3⟩
  | rt d fr=>exact⟨_,by simp[QdQ,h1,h2],h3⟩
theorem Qah{α:Type}{fi:DI}{t:Tg}{fb:DS}{toD:α->D}{ρ:En}{ir:IR}{Q:Out->Prop}(xs:List α)(I:Nat->En->Prop)(h:fi ρ=some ir)(hx:ir.items=xs.map toD)(h0:I 0 (Qbr ir.M ρ))
  (turn:∀i x ρ,xs[i]? =some x->I i ρ->∃ρ1,Qch t (toD x) ρ=some ρ1/\Run fb ρ1 λo=>match o with | .nx ρ2=>I (i+1) ρ2 | .ct ρ2=>I (i+1) ρ2 | .bk ρ2=>Q (.nx ρ2) | .rt d fr=>Q (.rt d fr))
  (fin:∀ρ,I xs.length ρ->Q (.nx ρ)):Run (Qa7 fi t fb) ρ Q:=by
 obtain⟨o,h1,h2⟩:=Qqv (t:=t) (fb:=fb) (toD:=toD) (Q:=Q) I xs [] (Qbr ir.M ρ) h0 (λi x ρ e _=>turn i x ρ (by simpa using e)) (λρ h=>fin ρ (by simpa using h));exact⟨o,by simp[Qa7,h,hx,h1],h2⟩
theorem QnL{α:Type}{t:Tg}{ft:DT}{fe:DE}{ρc:En}{toD:α->D}{keep:α->Bool}{out:α->D}:∀(xs:List α) (acc:List D),
  (∀x∈xs,∃ρ1,Qch t (toD x) ρc=some ρ1/\ft ρ1=some (keep x)/\(keep x=true->∃r,fe ρ1=some r/\r.d=out x/\r.norm.fr=true))→
  (xs.map toD).foldlM (QgT t ft fe ρc) (acc,true)=some (acc++(xs.filter keep).map out,true)
 | [],acc,_=>by simp
 | x::xs,acc,h=>by
  obtain⟨ρ1,h1,h2,h3⟩:=h x Zm;have ih:=λacc=>QnL xs acc (λy hy=>h y (Zc _ hy));cases hk:keep x with
  | false=>
   have e:QgT t ft fe ρc (acc,true) (toD x)=some (acc,true):=by simp[QgT,h1,h2,hk]
   simp[Zch,e,ih,hk]
  | true=>
   obtain⟨r,h4,h5,h6⟩:=h3 hk;have e:QgT t ft fe ρc (acc,true) (toD x)=some (acc++[out x],true):=by simp[QgT,h1,h2,hk,h4,h5,h6]
   simp[Zch,e,ih,hk]
theorem Qdo{α:Type}{fi:DI}{t:Tg}{cap:List (Option Nat)}{ft:DT}{fe:DE}{ρ:En}{ir:IR}{toD:α->D}{keep:α->Bool}{out:α->D}(xs:List α)(h:fi ρ=some ir)(hx:ir.items=xs.map toD)
  (turn:∀x∈xs,∃ρ1,Qch t (toD x) (QfP cap ρ)=some ρ1/\ft ρ1=some (keep x)/\(keep x=true->∃r,fe ρ1=some r/\r.d=out x/\r.norm.fr=true)):
  QG fi t cap ft fe ρ=some ⟨.lst ((xs.filter keep).map out),true,[]⟩:=by
 unfold QG;rw[h,Za,hx,QnL xs [] turn];simp
theorem QB{α:Type}{fi:DI}{t:Tg}{cap:List (Option Nat)}{fe:DE}{ρ:En}{ir:IR}{toD:α->D}{out:α->D}(xs:List α)(h:fi ρ=some ir)(hx:ir.items=xs.map toD)
  (turn:∀x∈xs,∃ρ1,Qch t (toD x) (QfP cap ρ)=some ρ1/\∃r,fe ρ1=some r/\r.d=out x/\r.norm.fr=true):
  QG fi t cap QO fe ρ=some ⟨.lst (xs.map out),true,[]⟩:=by
 have:=Qdo (keep:=λ_=>true) (ft:=QO) xs h hx (cap:=cap) (t:=t) (fe:=fe) (out:=out) λx hx=>by
  obtain⟨ρ1,h1,h2⟩:=turn x hx;exact⟨ρ1,h1,rfl,λ_=>h2⟩
 rw[this,ZbT.mpr λ_ _=>rfl]
@[simp] theorem QCV(d:D):R.norm ⟨d,true,[]⟩=⟨d,true,[]⟩:=by unfold R.norm;split<;>rfl
@[simp] theorem QaJ(i:Nat)(d:D)(ρ:En):asg i ⟨d,true,[]⟩ ρ=ρ.set i (some (d,true)):=by unfold asg;simp[kill]
theorem rsa{i:Nat}{fa:DE}{g:DS}{ρ:En}{d:D}{Q:Out->Prop}(h:fa ρ=some ⟨d,true,[]⟩)(q:Run g (ρ.set i (some (d,true))) Q):Run (Qd (Qs i fa) g) ρ Q:=run_seq (Qz h (by rw[QaJ];exact q))
theorem QbF{n k k1:Nat}(h:(List.range n)[k]? =some k1):k<n/\k=k1:=by
 obtain⟨h1,h2⟩:=Zi.mp h;simp at h1 h2;exact⟨h1,h2⟩
theorem Qcf{i:Nat}{d:D}{fr:Bool}{M:List Nat}{ρ:En}(h:d.flat=true):asg i ⟨d,fr,M⟩ ρ=ρ.set i (some (d,true)):=by
 unfold asg R.norm;simp[h,kill]
theorem QbB{i:Nat}{ρ:En}{d:D}{b:Bool}(h:ρ[i]? =some (some (d,b))):Qh i ρ=some (if d.flat then⟨d,true,[]⟩else if b then⟨d,true,[i]⟩else⟨d,false,[]⟩):=by
 unfold Qh;rw[h];dsimp only;split
 ·simp_all
 ·split<;>simp_all
theorem QpD{i:Nat}{ρ:En}{n:Int}{b:Bool}(h:ρ[i]? =some (some (.int n,b))):Qh i ρ=some (reI n):=by rw[QbB h];rfl
@[simp] theorem Qgq(d:D)(ρ:En):dC d ρ=some ⟨d,true,[]⟩:=rfl
theorem Qap{g:D->D->Option D}{fa fb:DE}{ρ:En}{ra rb:R}{d:D}(ha:fa ρ=some ra)(hb:fb ρ=some rb)(h:g ra.d rb.d=some d):dOp g fa fb ρ=some ⟨d,true,[]⟩:=by simp[dOp,ha,hb,h]
theorem Qr{fa:DE}{fs:DA}{ρ:En}{r:R}{rs:RA}(ha:fa ρ=some r)(hs:fs ρ=some rs):Qa fa fs ρ=some ⟨r.d::rs.ds,r.fr && rs.fr,r.M++rs.M⟩:=by simp[Qa,ha,hs]
@[simp] theorem QK(ρ:En):Qe ρ=some ⟨[],true,[]⟩:=rfl
noncomputable def vf(d:D)(b:Bool)(i:Nat):R:=if d.flat then⟨d,true,[]⟩else if b then⟨d,true,[i]⟩else⟨d,false,[]⟩
@[simp] theorem QDr(d:D)(b:Bool)(i:Nat):(vf d b i).d=d:=by unfold vf;split;rfl;split<;>rfl
@[simp] theorem Qpr(i j:Int)(h:0<=j):Qc3 i j=i % j:=by unfold Qc3;rw[if_pos h]
@[simp] theorem Qid(i j:Int)(h:0<=j):Qdb i j=i / j:=by unfold Qdb;rw[if_pos h]
theorem Qc0{i j:Int}(h:i.natAbs<2^64):QdN i j=true:=by unfold QdN;simp[h]
theorem QcW{i j:Int}(h:j.natAbs<2^64):QdN i j=true:=by unfold QdN;simp[h]
theorem QcO{i j:Int}(h1:Builtin.Int.intBits i<=2^20)(h2:Builtin.Int.intBits j<=2^20):QdN i j=true:=by
 unfold QdN;rw[decide_eq_true h1,decide_eq_true h2,Bool.and_self,Bool.or_true]
theorem QgL:(sizeLine:Nat)=16777216:=sizeLine_eq
noncomputable def Qb(m:Nat)(f:Mt1):D:= .lst ((List.range m).map λi=> .int (f i))
noncomputable def Qc(m n:Nat)(f:Mt2):D:= .lst ((List.range m).map λi=>Qb n (f i))
@[simp] theorem QCI(m:Nat)(f:Mt1):(Qb m f).flat=false:=rfl
@[simp] theorem QC2(m n:Nat)(f:Mt2):(Qc m n f).flat=false:=rfl
@[simp] theorem Quz(m:Nat)(f:Mt1):QY ((List.range m).map λi=>D.int (f i))=true:=Qb7 (f:=λi=>D.int (f i)) (λ_=>rfl) _
noncomputable def up(f:Mt1)(i:Nat)(v:Int):Nat->Int:=λj=>if j=i then v else f j
noncomputable def up2(f:Mt2)(i j:Nat)(v:Int):Nat->Nat->Int:=λk=>if k=i then up (f k) j v else f k
theorem QbO{n:Nat}{i:Int}(h0:0<=i)(h:i<n):ixN n i=some i.toNat:=by
 unfold ixN;rw[if_pos ⋯,if_pos ⋯]
theorem QjT{α:Type}{xs:List α}{i:Int}(h0:0<=i)(h:i<xs.length):atI xs i=xs[i.toNat]? :=by
 unfold atI;rw[QbO h0 h];rfl
theorem Qfu{α:Type}{m:Nat}{f:Nat->α}{i:Nat}{v:α}:((List.range m).map f).set i v=(List.range m).map λj=>if j=i then v else f j:=by
 apply Zbf;intro k;rw[ZbZ];simp only[Zj,Zt,Zr];by_cases hk:k<m
 ·rw[ZK hk];by_cases e:i=k
  ·subst e;simp[hk]
  ·simp[e,Ne.symm e]
 ·rw[Zu (by simp;omega)];by_cases e:i=k
  ·subst e;simp[hk]
  ·simp[e]
theorem Qkd{m:Nat}{f:Mt1}{i:Nat}{v:Int}:((List.range m).map λj=>D.int (f j)).set i (.int v)=(List.range m).map λj=>D.int (up f i v j):=by
 rw[Qfu];congr 1;funext j;unfold up;split<;>rfl
theorem QrJ{m:Nat}{f:Mt1}{i:Int}(h0:0<=i)(h:i<m):atI ((List.range m).map λj=>D.int (f j)) i=some (.int (f i.toNat)):=by
 rw[QjT h0 (by simpa using h),Zr,ZK ⋯];rfl
theorem QmR{m n:Nat}{f:Mt2}{i:Int}(h0:0<=i)(h:i<m):atI ((List.range m).map λj=>Qb n (f j)) i=some (Qb n (f i.toNat)):=by
 rw[QjT h0 (by simpa using h),Zr,ZK ⋯];rfl
theorem Qln{x m:Nat}{f:Mt1}{fi fa:DE}{ρ:En}{i:Int}{v:Int}{ri ra:R}{Q:Out->Prop}(hx:ρ[x]? =some (slT (Qb m f)))(hi:fi ρ=some ri)(ei:ri.d= .int i)(ha:fa ρ=some ra)(ea:ra.d= .int v)(h0:0<=i)(h:i<m)
  (q:Q (.nx (ρ.set x (slT (Qb m (up f i.toNat v)))))):Run (QbW x Qaf fi fa) ρ Q:=by
 refine⟨_,?_,q⟩;have hn:ra.norm=(reI v):=by unfold R.norm;rw[ea];rfl
 unfold QbW;rw[ha,Za,hx];simp only[Qaf,Za,hi,ei,Qbf,Qb,Zj,Zt,QbO h0 h,hn,ea,Qbi,Qkd];simp[kill]
theorem Qvx{g:D->D->Option D}{x m:Nat}{f:Mt1}{fi fa:DE}{ρ:En}{i w:Int}{ri ra:R}{Q:Out->Prop}(hx:ρ[x]? =some (slT (Qb m f)))(hi:fi ρ=some ri)(ei:ri.d= .int i)(ha:fa ρ=some ra)(h0:0<=i)(h:i<m)
  (hg:g (.int (f i.toNat)) ra.d=some (.int w)) (q:Q (.nx (ρ.set x (slT (Qb m (up f i.toNat w)))))):Run (Qej g x Qaf fi fa) ρ Q:=by
 refine⟨_,?_,q⟩;have hj:((List.range m).map λj=>D.int (f j))[i.toNat]? =some (.int (f i.toNat)):=by rw[Zr,ZK ⋯];rfl
 unfold Qej;rw[hx];simp only[Qaf,Za,hi,ei,Qbf,Qb,Zj,Zt,QbO h0 h,hj,ha,hg,Qbi,Qkd,ZX]
theorem Qqg{g:D->D->Option D}{x m n:Nat}{f:Mt2}{fp fi fa:DE}{ρ:En}{i j w:Int}{rp ri ra:R}{Q:Out->Prop}(hx:ρ[x]? =some (slT (Qc m n f)))(hp:fp ρ=some rp)(ep:rp.d= .int i)(hi:fi ρ=some ri)(ei:ri.d= .int j)(ha:fa ρ=some ra)
  (h0:0<=i) (h:i<m) (k0:0<=j) (k:j<n) (hg:g (.int (f i.toNat j.toNat)) ra.d=some (.int w)) (q:Q (.nx (ρ.set x (slT (Qc m n (up2 f i.toNat j.toNat w)))))):Run (Qej g x (Qci Qaf fp) fi fa) ρ Q:=by
 refine⟨_,?_,q⟩;have hj:((List.range n).map λk=>D.int (f i.toNat k))[j.toNat]? =some (.int (f i.toNat j.toNat)):=by rw[Zr,ZK ⋯];rfl
 have hd:Qbf (Qc m n f) [i]=some (Qb n (f i.toNat)):=by
  simp only[Qbf,Qc,D.items,Za,QmR h0 h]
 have hu:Qbi [i] (Qc m n f) (.lst (((List.range n).map λk=>D.int (f i.toNat k)).set j.toNat (.int w)))=Qc m n (up2 f i.toNat j.toNat w):=by
  simp only[Qbi,Qc,Zj,Zt,QbO h0 h,Qkd];rw[Qfu];congr 2;funext k;unfold up2;split
  ·rename_i e;subst e;rfl
  ·rfl
 unfold Qej;rw[hx];simp only[Qci,Qaf,Za,hp,ep,Zbk,hi,ei,hd,Qb,Zj,Zt,QbO k0 k,hj,ha,hg,ZX];rw[hu]
theorem Qbc{n:Nat}(h:fa ρ=some r)(e:r.d= .int n)(hn:n<=16777216):QaY fa ρ=some ⟨(List.range n).map λ(k:Nat)=> .int (k:Int),[]⟩:=by
 unfold QaY;rw[h,Za,e];dsimp only;rw[if_pos ⟨⋯,⋯⟩];simp[Qi5]
theorem Qrl{α:Type}(x:α):∀n:Nat,(List.replicate n [x]).flatten=(List.range n).map λ_=>x
 | 0=>rfl
 | n+1=>by
  rw[Zas,Zay,Qrl x n,ZbF,ZM,Zaj];rfl
theorem Qev{n:Nat}(h:fb ρ=some r)(e:r.d= .int n)(hn:n<=16777216):Q7 (Qao (Qa (dC (.int z)) Qe)) fb ρ=some (reT (Qb n (λ_=>z))):=by
 have h1:Qao (Qa (dC (.int z)) Qe) ρ=some (reT (.lst [.int z])):=rfl;unfold Q7;rw[h1,Za,h,Za,e];dsimp only;rw[if_pos ⟨by simp[QgL];omega,⋯,⋯,rfl⟩];simp only[Zab,Qrl];rfl
noncomputable def Qmq:DS:=(Qd (Qs 2 (QG (Q2 vv0) (.tp [1,2]) [none,none,none] QO (QaP (Qa vv1 (Qa vv2 Qe))))) (Qd (Qs 3 (QG (Q2 vv0) (.tp [1,2]) [none,none,none] QO (QaP (Qa vv2 (Qa vv1 Qe))))) (Qd (QH (QS (QS vv2 vv3) (dList (Qa vv1 Qe)))) Qo)))
theorem Qkf(ha:fa ρ=some ra)(ea:ra.d=Qam A)(hb:fb ρ=some rb)(eb:rb.d=Qam B)(hl:A.length+B.length<=16777216):QS fa fb ρ=some (reT (Qam (A++B))):=by
 unfold QS;rw[ha,Za,hb,Za,ea,eb];simp only[Qam,Zj,QgL,if_pos hl,Qbq];simp
theorem Qu9(h:fs ρ=some rs)(e:rs.ds=[Qam A])(_:True=True):dList fs ρ=some (reT (Qam A)):=by
 unfold dList;rw[h,Za,e];simp[Qam,Qbq]
theorem Qv(h:fa ρ=some r)(q:Q r.d (r.norm.fr && decide r.norm.M.Nodup)):Run (Qd (QH fa) g) ρ (Rt Q):=Qx (Qb0 h q)
theorem Quf{R L:Lpp}(hl:R.length+R.length+L.length<=16777216):Qq 4 Qmq [Qam R,Qam L]=slT (Qam (R++R.map Prod.swap++L)):=by
 refine QN ?_;refine run_seq (Qz (QB R rfl rfl λx _=>⟨[none,slI x.1,slI x.2],rfl,⟨pairD x,true,[]⟩,rfl,rfl,rfl⟩) ?_);refine run_seq (Qz (QB R rfl rfl λx _=>⟨[none,slI x.1,slI x.2],rfl,⟨pairD x.swap,true,[]⟩,rfl,rfl,rfl⟩) ?_);have e1:(R.map λx=>pairD x.swap)=(R.map Prod.swap).map pairD:=by simp[Zaj,Function.comp_def]
 rw[e1];exact Qv (Qkf (Qkf rfl rfl rfl rfl (by simpa using(by omega:R.length+R.length<=16777216))) rfl (Qu9 rfl rfl rfl) rfl (by simpa using hl)) ⟨rfl,rfl⟩
theorem Qk(h:fs ρ=some r)(hd:den (r.ds++dfl)=some (d,true))(hl:r.ds.length+dfl.length=n):Qm n den dfl fs ρ=some ⟨d,true,[]⟩:=by
 unfold Qm;rw[h,Za,if_pos hl,hd];simp
theorem Q1(h:fa ρ=some r)(e:r.d= .lst xs):Q2 fa ρ=some ⟨xs,r.M⟩:=by
 unfold Q2;rw[h,Za,e]
noncomputable def stepT(m:Nat)(f:Mt2)(s:Int×Int):Nat->Nat->Int:=
 let f1:=if s.1<m then up2 f s.1.toNat s.1.toNat (f s.1.toNat s.1.toNat-1)else f
 if s.1<m/\s.2<m then up2 f1 s.1.toNat s.2.toNat (f1 s.1.toNat s.2.toNat+1)else f1
noncomputable def Qp(m:Nat)(S:Lpp):Nat->Nat->Int:=S.foldl (stepT m) λ_ _=>0
noncomputable def Qge(Qea:Den):DS:=(Qd (Qs 1 (QaA (Qn vv0 kk0))) (Qd (Qs 2 (QG (QaY vv1) (.nm 1) [none,none,some 1] QO (Q7 (Qao (Qa kk0 Qe)) vv2))) (Qd (Qa7 (Q2 (Qm 2 Qea [] (Qa (Qn vv0 kk1) (Qa (Qn vv0 kk2) Qe)))) (.tp [3,4]) (Qd (sIf (QD (dOp gLt vv3 vv1)) (Qd (Qej QaG 2 (Qci Qaf vv3) vv3 kk1) Qo) Qo) (Qd (sIf (Qiy (QD (dOp gLt vv3 vv1)) (QD (dOp gLt vv4 vv1))) (Qd (Qej (gI λi j=>some (.int (i+j))) 2 (Qci Qaf vv3) vv4 kk1) Qo) Qo) Qo))) (Qd (QH vv2) Qo))))
theorem Qu4{Qea:Den}{m:Nat}{R L S:Lpp}(hm:m<=16777216)(hs:Qea [Qam R,Qam L]=slT (Qam S))(hS:∀s∈S,0<=s.1/\0<=s.2):Qq 5 (Qge Qea) [QC m R L]=slT (Qc m m (Qp m S)):=by
 refine QN ?_;refine run_seq (Qz rfl ?_);refine run_seq (Qz (QB (List.range m) (Qbc rfl rfl hm) rfl λx _=>⟨[none,slI x,slI m],rfl,_,Qev rfl rfl hm,rfl,rfl⟩) ?_);refine run_seq (Qah S (λi ρ=>∃j1 j2,ρ=[slF (QC m R L),slI m,slT (Qc m m (Qp m (S.take i))),j1,j2]) (ir:=⟨S.map pairD,[]⟩) ?_ rfl ⟨none,none,rfl⟩ ?_ ?_)
 ·exact Q1 (Qk (r:=⟨[Qam R,Qam L],false,[]⟩) rfl hs rfl) rfl
 ·rintro i s ρ hi ⟨j1,j2,rfl⟩;refine⟨_,rfl,?_⟩;obtain⟨s1,s2⟩:=hS s (ZT hi);refine run_seq (Run.mono (Q:=Nx λρ=>ρ=[slF (QC m R L),slI m,slT (Qc m m (if s.1<m then up2 (Qp m (S.take i)) s.1.toNat s.1.toNat (Qp m (S.take i) s.1.toNat s.1.toNat-1)else Qp m (S.take i))),slI s.1,slI s.2]) ?_ ?_)
  ·refine QQ rfl (λh=>?_) (λh=>?_)
   ·have h:=of_decide_eq_true h;rw[if_pos h];exact run_seq (Qqg rfl rfl rfl rfl rfl rfl s1 h s1 h rfl (Qt rfl))
   ·have h:=of_decide_eq_false h;rw[if_neg h];exact Qt rfl
  ·intro o ho;cases o with
   | nx ρ=>
    subst ho;have fin:Qp m (S.take (i+1))=stepT m (Qp m (S.take i)) s:=by
     unfold Qp;rw[List.take_add_one,hi,List.foldl_append];rfl
    refine run_seq (Run.mono (Q:=Nx λρ=>ρ=[slF (QC m R L),slI m,slT (Qc m m (stepT m (Qp m (S.take i)) s)),slI s.1,slI s.2]) ?_ ?_)
    ·refine QQ (b:=decide (s.1<m/\s.2<m)) ?_ (λh=>?_) (λh=>?_)
     ·by_cases h:s.1<(m:Int)
      ·simp[Qiy,QD,dOp,Qh,gLt,gI,D.tru,h]
      ·simp[Qiy,QD,dOp,Qh,gLt,gI,D.tru,h]
     ·have h:=of_decide_eq_true h;refine run_seq (Qqg rfl rfl rfl rfl rfl rfl s1 h.1 s2 h.2 rfl (Qt ?_));unfold stepT;rw[if_pos h];rfl
     ·have h:=of_decide_eq_false h;refine Qt ?_;unfold stepT;rw[if_neg h];rfl
    ·intro o ho;cases o with
     | nx ρ=>
      subst ho;exact Qt ⟨_,_,by rw[fin]⟩
     | _=>exact False.elim ho
   | _=>exact False.elim ho
 ·rintro ρ ⟨j1,j2,rfl⟩;rw[Zcj];exact Qv rfl ⟨rfl,rfl⟩
noncomputable def hit(i j:Nat)(s:Int×Int):Int:=(if s.1=i/\s.2=j then 1 else 0)-(if s.1=i/\i=j then 1 else 0)
theorem Qq8:up2 f a b v i j=if i=a/\j=b then v else f i j:=by
 unfold up2 up;by_cases h1:i=a
 ·by_cases h2:j=b
  ·simp[h1,h2]
  ·simp[h1,h2]
 ·simp[h1]
theorem Qud(hi:i<m)(hj:j<m)(h1:0<=s.1)(h2:0<=s.2):stepT m f s i j=f i j+hit i j s:=by
 unfold stepT hit;have e1:(s.1=(i:Int))↔(i=s.1.toNat):= ⋯
 have e2:(s.2=(j:Int))↔(j=s.2.toNat):= ⋯
 simp only[e1,e2];by_cases c1:s.1<(m:Int)
 ·by_cases c2:s.2<(m:Int)
  ·simp only[c1,c2,and_self,if_true,Qq8];generalize s.1.toNat=a;generalize s.2.toNat=b;by_cases d1:i=a
   ·subst d1;by_cases d2:j=b
    ·subst d2;by_cases d3:i=j
     ·subst d3;simp
     ·have d4:¬j=i:=λz=>d3 z.symm;simp[d3,d4]
    ·by_cases d3:i=j
     ·subst d3;simp[d2];omega
     ·have d4:¬j=i:=λz=>d3 z.symm;simp[d2,d3,d4]
   ·simp[d1]
  ·have d2:¬(j=s.2.toNat):= ⋯
   simp only[c1,c2,and_false,if_false,if_true,Qq8,d2];generalize s.1.toNat=a;by_cases d1:i=a
   ·subst d1;by_cases d3:i=j
    ·subst d3;simp;omega
    ·have d4:¬j=i:=λz=>d3 z.symm;simp[d3,d4]
   ·simp[d1]
 ·have d1:¬(i=s.1.toNat):= ⋯
  simp[c1,d1]
theorem Qnu(hi:i<m)(hj:j<m):∀(S:Lpp) (f:Mt2),(∀s∈S,0<=s.1/\0<=s.2)->S.foldl (stepT m) f i j=f i j+(S.map (hit i j)).sum
 | [],f,_=>by simp
 | s::S,f,h=>by
  obtain⟨h1,h2⟩:=h s Zm;rw[List.foldl_cons,Qnu hi hj S _ (λt ht=>h t (Zc _ ht)),Qud hi hj h1 h2,ZM,ZaL];omega
theorem QcH(hi:i<m)(hj:j<m)(h:∀s∈S,0<=s.1/\0<=s.2):Qp m S i j=(S.map (hit i j)).sum:=by
 unfold Qp;rw[Qnu hi hj S _ h];simp
noncomputable def isI(i:Nat)(a:Int):Int:=if a=i then 1 else 0
noncomputable def QcI(R L:Lpp)(i:Nat):Int:=(R.map λr=>isI i r.1+isI i r.2).sum+(L.map λl=>isI i l.1).sum
theorem sum_neg(S:Lpp)(i:Nat)(h:∀s∈S,s.1≠s.2):(S.map (hit i i)).sum= -(S.map λs=>isI i s.1).sum:=by
 induction S with
 | nil=>rfl
 | cons s S ih=>
  rw[ZM,ZaL,ih λt ht=>h t (Zc _ ht),ZM,ZaL];have hn:=h s Zm;unfold hit isI;by_cases e:s.1=(i:Int)
  ·have:¬(s.2=(i:Int)):=λz=>hn (e.trans z.symm);simp[e,this];omega
  ·simp[e]
noncomputable def Ql(R L:Lpp):List (Int×Int):=R++R.map Prod.swap++L
theorem QnG(R L:Lpp)(i:Nat):((Ql R L).map λs=>isI i s.1).sum=QcI R L i:=by
 unfold Ql QcI;rw[ZaO,ZaO,ZbU,ZbU];have:(R.map λr=>isI i r.1+isI i r.2).sum=(R.map λs=>isI i s.1).sum+((R.map Prod.swap).map λs=>isI i s.1).sum:=by
  induction R with
  | nil=>rfl
  | cons r R ih=>simp only[ZM,ZaL,ih,Prod.fst_swap];omega
 omega
def Good(m:Nat)(s:Int×Int):Prop:=0<=s.1/\0<=s.2/\s.1<=m/\s.2<=m/\s.1≠s.2
theorem QcB{m:Nat}{R L:Lpp}(hR:∀s∈R,Good m s)(hL:∀s∈L,Good m s):∀s∈Ql R L,Good m s:=λs hs=>by
 unfold Ql at hs;rcases ZH.mp hs with hs | hs
 ·rcases ZH.mp hs with hs | hs
  ·exact hR s hs
  ·obtain⟨t,ht,rfl⟩:=ZN.mp hs;obtain⟨h1,h2,h3,h4,h5⟩:=hR t ht;exact⟨h2,h1,h4,h3,λz=>h5 z.symm⟩
 ·exact hL s hs
def Qgt(d:Den):Prop:=∀(m:Nat) (R L:Lpp),m<=1000->R.length+R.length+L.length<=1000000->(∀s∈R,Good m s)->(∀s∈L,Good m s)->d [QC m R L]=some (Qc m m (Qp m (Ql R L)),true)
theorem Qxx:Qgt (Qq 5 (Qge (Qq 4 Qmq))):=λm R L hm hl hR hL=>by
 refine Qu4 ⋯ (Quf ⋯) λs hs=>?_;obtain⟨h1,h2,_⟩:=QcB hR hL s hs;exact⟨h1,h2⟩
noncomputable def Qha(Q9:Den):DS:=(Qd (QH (QG (Qct (Qm 1 Q9 [] (Qa vv0 Qe))) (.tp [1,2]) [none,none,none] QO (dOp QaG kk0 (Qn vv2 vv1)))) Qo)
theorem Qiz{α:Type}(m:Nat)(f:Nat->D):QdA ((List.range m).map f)=(List.range m).map λi=> .tup [.int i,f i]:=by
 apply Zbf;intro k;unfold QdA;simp only[Zr,List.getElem?_zipIdx,Nat.zero_add];by_cases hk:k<m
 ·rw[ZK hk];rfl
 ·rw[Zu (by simp;omega)];rfl
theorem QwO{d:Den}(hd:Qgt d){m:Nat}{R L:Lpp}(hm:m<=1000)(hl:R.length+R.length+L.length<=1000000)(hR:∀s∈R,Good m s)(hL:∀s∈L,Good m s):Qq 1 (Qha d) [QC m R L]=slT (Qb m (QcI R L)):=by
 refine QN ?_;refine Qv (QB (toD:=λ(i:Nat)=> .tup [.int i,Qb m (Qp m (Ql R L) i)]) (out:=λ(i:Nat)=> .int (QcI R L i)) (ir:=⟨QdA ((List.range m).map λi=>Qb m (Qp m (Ql R L) i)),[]⟩) (List.range m) ?_ ?_ λi hi=>?_) ⟨rfl,rfl⟩
 ·unfold Qct;rw[Qk (n:=1) (fs:=Qa (Qh 0) Qe) (ρ:=QaQ 1 [QC m R L]) (dfl:=[]) (r:=⟨[QC m R L],false,[]⟩) rfl (hd m R L hm hl hR hL) rfl];rfl
 ·exact Qiz (α:=Nat) m _
 ·have hi:=Ze.mp hi;refine⟨[none,slI i,slF (Qb m (Qp m (Ql R L) i))],rfl,reI (0-Qp m (Ql R L) i i),?_,?_,rfl⟩
  ·have e:Qn (Qh 2) (Qh 1) [none,slI (i:Int),slF (Qb m (Qp m (Ql R L) i))]=some (reI (Qp m (Ql R L) i i)):=by
    show((D.items (Qb m (Qp m (Ql R L) i))).bind λxs=>(atI xs (i:Int)).map λd=>(HS.R.norm ⟨d,false,[]⟩))=_;unfold Qb;rw[show D.items (.lst ((List.range m).map λj=>D.int (Qp m (Ql R L) i j)))=some ((List.range m).map λj=>D.int (Qp m (Ql R L) i j))from rfl,Za,QrJ ⋯ ⋯];rfl
   exact Qap (rfl) e rfl
  ·have g:=QcB hR hL;rw[QcH hi hi λs hs=>⟨(g s hs).1,(g s hs).2.1⟩,sum_neg _ i λs hs=>(g s hs).2.2.2.2,QnG];show D.int (0- -(QcI R L i))=_;rw[show(0:Int)- -(QcI R L i)=QcI R L i by omega]
theorem QrK(a b:Int):deq (.int a) (.int b)=decide (a=b):=by
 show PyData.eqv (.int a) (.int b)=_;unfold PyData.eqv;exact Bool.beq_eq_decide_eq a b
theorem QbA(ha:fa ρ=some ra)(ea:ra.d= .int a)(hb:fb ρ=some rb)(eb:rb.d= .int b):dOp gEq fa fb ρ=some (reT (.bl (decide (a=b)))):=by
 refine Qap ha hb ?_;rw[ea,eb];show some (D.bl (deq (.int a) (.int b)))=_;rw[QrK]
theorem Qb4(ha:fa ρ=some ra)(ea:ra.d= .int a)(hb:fb ρ=some rb)(eb:rb.d= .int b):dOp gNe fa fb ρ=some (reT (.bl (!decide (a=b)))):=by
 refine Qap ha hb ?_;rw[ea,eb];show some (D.bl (!deq (.int a) (.int b)))=_;rw[QrK]
theorem Qxa(ha:fa ρ=some (reT (.bl a)))(hb:fb ρ=some (reT (.bl b))):dOr fa fb ρ=some (reT (.bl (a || b))):=by
 unfold dOr;rw[ha];cases a<;>simp[D.tru,hb]
theorem QiU(ha:fa ρ=some (reT (.bl a)))(hb:fb ρ=some (reT (.bl b))):Qgz fa fb ρ=some (reT (.bl (a && b))):=by
 unfold Qgz;rw[ha];cases a<;>simp[D.tru,hb]
theorem Qw(ha:fa ρ=some r)(e:r.d= .bl b):QD fa ρ=some b:=by
 unfold QD;rw[ha,Za,e];rfl
theorem QaS(h:g ρ=some b):QbG g ρ=some (!b):=by unfold QbG;rw[h];rfl
theorem Qav(ha:g1 ρ=some a)(hb:g2 ρ=some b):bOr g1 g2 ρ=some (a || b):=by
 unfold bOr;rw[ha];cases a<;>simp[hb]
theorem Qym(ha:g1 ρ=some a)(hb:g2 ρ=some b):Qiy g1 g2 ρ=some (a && b):=by
 unfold Qiy;rw[ha];cases a<;>simp[hb]
theorem Qan(ha:fa ρ=some ra)(ea:ra.d= .int a)(hb:fb ρ=some rb)(eb:rb.d= .int b)(h:QdN a b=true):Q7 fa fb ρ=some (reI (a*b)):=by
 unfold Q7;rw[ha,Za,hb,Za,ea,eb];simp[h]
theorem Qad(ha:fa ρ=some ra)(ea:ra.d= .int a)(hb:fb ρ=some rb)(eb:rb.d= .int b):QS fa fb ρ=some (reI (a+b)):=by
 unfold QS;rw[ha,Za,hb,Za,ea,eb]
theorem QaZ(ha:fa ρ=some ra)(ea:ra.d= .int a)(hb:fb ρ=some rb)(eb:rb.d= .int b)(h:0<b):dOp Qa0 fa fb ρ=some (reI (a % b)):=by
 refine Qap ha hb ?_;rw[ea,eb];show(if b≠0 then some (D.int (Qc3 a b))else none)=_;rw[if_pos ⋯,Qpr _ _ ⋯]
theorem QuB(ha:fa ρ=some ra)(ea:ra.d= .int a)(hb:fb ρ=some rb)(eb:rb.d= .int b)(h:0<b)(h2:b<2^64):dOp Qco fa fb ρ=some (reI (a / b)):=by
 refine Qap ha hb ?_;rw[ea,eb];have:QbH b=true:=by
  unfold QbH;have h3:b.natAbs<2^8000:=Zw (by omega:b.natAbs<2^64) (Zn (by decide) (by decide));simp only[Zg,decide_eq_true_eq];exact⟨⋯,h3⟩
 show(if QbH b=true then some (D.int (Qdb a b))else none)=_;rw[if_pos this,Qid _ _ ⋯]
theorem QaV(h:fa ρ=some r):QaA fa ρ=some ⟨r.d,false,r.M⟩:=by unfold QaA;rw[h];rfl
theorem QmQ{fa fb:DE}{ρ:En}{ra rb:R}{m:Nat}{f:Mt1}{i:Int}(ha:fa ρ=some ra)(ea:ra.d=Qb m f)(hb:fb ρ=some rb)(eb:rb.d= .int i)(h0:0<=i)(h:i<m):Qn fa fb ρ=some (reI (f i.toNat)):=by
 unfold Qn;rw[ha,Za,hb,Za,ea,eb];simp only[Qb,D.items,Za,QrJ h0 h,ZX];rfl
theorem Qdw{fa fb:DE}{ρ:En}{ra rb:R}{ns:List Int}{i:Int}{v:Int}(ha:fa ρ=some ra)(ea:ra.d= .lst (ns.map .int))(hb:fb ρ=some rb)(eb:rb.d= .int i)(h0:0<=i)(h:ns[i.toNat]? =some v):Qn fa fb ρ=some (reI v):=by
 have hl:i<ns.length:=by have:=(Zi.mp h).1;omega
 unfold Qn;rw[ha,Za,hb,Za,ea,eb];simp only[D.items,Za];rw[QjT h0 (by simpa using hl),Zr,h];rfl
theorem QtD{m n:Nat}{f:Mt1}(h:n<=m):cutD ((List.range m).map λi=>D.int (f i)) none (some (n:Int))=(List.range n).map λi=>D.int (f i):=by
 unfold cutD;simp only[Zj,Zt,HT.QiH,HT.QhK,ZbX,ZbV,Zba h];rw[← Zbm,List.take_range,Zba h]
theorem Qq9{fa fb:DE}{ρ:En}{ra rb:R}{m n:Nat}{f:Mt1}(ha:fa ρ=some ra)(ea:ra.d=Qb m f)(hb:fb ρ=some rb)(eb:rb.d= .int n)(h:n<=m):QbJ fa QbV (QaI fb) ρ=some (reT (Qb n f)):=by
 unfold QbJ QbV QaI;rw[ha,Za,hb,ea];simp only[Za,eb,Qb,QtD h,Qbq,Quz,if_true]
theorem Qia(h:fs ρ=some r)(hd:den (r.ds++dfl)=some (d,fr))(hl:r.ds.length+dfl.length=n):Qm n den dfl fs ρ=some (if fr=true then⟨d,true,[]⟩else HS.R.norm ⟨d,false,r.M⟩):=by
 unfold Qm;rw[h,Za,if_pos hl,hd];rfl
theorem Qtr(h:d.flat=false):asg i (if fr=true then⟨d,true,[]⟩else HS.R.norm ⟨d,false,[]⟩) ρ=ρ.set i (some (d,fr)):=by
 cases fr
 ·simp[HS.R.norm,h,asg,Qbr]
 ·simp
noncomputable def QjN:DS:=(Qd (QH (Qgz (Qhf "int" vv0) (Qw7 (Qhf "bool" vv0)))) Qo)
def QhP(d:Den):Prop:=∀i:Int,d [.int i]=some (.bl true,true)
theorem QuX:QhP (Qq 1 QjN):=λi=>rfl
def GoodW(m:Nat)(w:Int×Int×Bool):Prop:=Good m (w.1,w.2.1)/\(w.2.2=true->w.1<m)
noncomputable def Qab(W:List (Int×Int×Bool)):D:= .lst (W.map QeF)
@[simp] theorem QBD(W:List (Int×Int×Bool)):(Qab W).flat=false:=rfl
theorem Qz6{a x n:Int}(h1:0<x)(h2:x<n):(a+x) % n≠a % n:=λh=>by
 have h3:(a+x-a) % n=0:=Zbs.mp h;rw[show a+x-a=x by omega,ZbG ⋯ h2]at h3;omega
theorem Qzj(hx:ρ[x]? =some (slT (.lst xs)))(ha:fa ρ=some r)(hf:r.d.flat=true)(hl:xs.length<16777216)(q:Q (.nx (ρ.set x (slT (.lst (xs++[r.d])))))):Run (Qil x Qaf fa) ρ Q:=by
 refine⟨_,?_,q⟩;have hn:r.norm=⟨r.d,true,[]⟩:=by unfold HS.R.norm;rw[if_pos hf]
 unfold Qil;rw[hx];simp only[Qaf,Za,ha,Qbf,Qoq,hn,Qbi,kill,QgL];simp[hl]
theorem Qrj{x y m:Nat}{f:Mt1}{ρ:En}{i:Int}{b:Bool}{Q:Out->Prop}(hx:ρ[x]? =some (slT (Qb m f)))(hy:ρ[y]? =some (some (.int i,b)))(h0:0<=i)(h:i<m)
  (q:Q (.nx (ρ.set x (slT (Qb m (up f i.toNat (f i.toNat+1))))))):Run (QbW x Qaf (Qh y) (QS (Qn (Qh x) (Qh y)) (dC (.int 1)))) ρ Q:=by
 have e1:Qh y ρ=some (reI i):=QpD hy;have e2:=QbB hx;exact Qln hx e1 rfl (Qad (QmQ e2 (by simp) e1 rfl h0 h) rfl (Qgq (.int 1) _) rfl) rfl h0 h q
theorem Run.nx(h:Run f ρ (Nx Q))(m:∀ρ,Q ρ->Q' ρ):Run f ρ (Nx Q'):=h.mono λo ho=>by
 cases o with
 | nx ρ=>exact m ρ ho
 | _=>exact ho.elim
theorem QaW(h:Run f ρ (Nx P))(k:∀ρ',P ρ'->Run g ρ' Q):Run (Qd f g) ρ Q:=run_seq (h.nx k)
theorem Qmu{fa fb:DE}{ρ:En}{ra rb:R}{A B:List (Int×Int×Bool)}(ha:fa ρ=some ra)(ea:ra.d=Qab A)(hb:fb ρ=some rb)(eb:rb.d=Qab B)(hl:A.length+B.length<=16777216):QS fa fb ρ=some (reT (Qab (A++B))):=by
 unfold QS;rw[ha,Za,hb,Za,ea,eb];simp only[Qab,Zj,QgL,if_pos hl,Qbq];simp
noncomputable def QeE(w:Int×Int×Bool):Int×Int:=(if w.2.1<w.1 then w.2.1 else w.1,if w.2.1>w.1 then w.2.1 else w.1)
noncomputable def Qpc(w:Int×Int×Bool):Int×Int:=(w.1,w.2.1)
noncomputable def QcU(W:List (Int×Int×Bool)):List (Int×Int):=(W.filter λw=> !w.2.2).map QeE
noncomputable def QdD(W:List (Int×Int×Bool)):List (Int×Int):=(W.filter λw=>w.2.2).map Qpc
theorem Qlz{m:Nat}{W:List (Int×Int×Bool)}(h:∀w∈W,GoodW m w):∀s∈QcU W,Good m s/\s.1<s.2:=λs hs=>by
 obtain⟨w,hw,rfl⟩:=ZN.mp hs;obtain⟨⟨h1,h2,h3,h4,h5⟩,_⟩:=h w (ZaE.mp hw).1;simp only at h1 h2 h3 h4 h5;unfold QeE Good;simp only;split<;>split<;>omega
theorem Ql6{m:Nat}{W:List (Int×Int×Bool)}(h:∀w∈W,GoodW m w):∀s∈QdD W,Good m s/\s.1<m:=λs hs=>by
 obtain⟨w,hw,rfl⟩:=ZN.mp hs;obtain⟨h1,h2⟩:=h w (ZaE.mp hw).1;exact⟨h1,h2 (by simpa using(ZaE.mp hw).2)⟩
theorem QtP(W:List (Int×Int×Bool)):(QcU W).length<=W.length:=by unfold QcU;rw[Zj];exact List.length_filter_le _ _
theorem Que(W:List (Int×Int×Bool)):(QdD W).length<=W.length:=by unfold QdD;rw[Zj];exact List.length_filter_le _ _
theorem Qu7{fa:DE}{ρ:En}{r:R}{W:List (Int×Int×Bool)}(h:fa ρ=some r)(e:r.d=Qab W):QG (Q2 fa) (.tp [1,2,3]) [none,none,none,none] (QbG (QD (Qh 3))) (QaP (Qa (dBf QlN (Qa (Qh 1) (Qa (Qh 2) Qe))) (Qa (dBf Qmi (Qa (Qh 1) (Qa (Qh 2) Qe))) Qe))) ρ=some (reT (Qam (QcU W))):=by
 rw[Qdo (toD:=QeF) (keep:=λw=> !w.2.2) (out:=λw=>pairD (QeE w)) W (Q1 h e) rfl λw _=>⟨[none,slI w.1,slI w.2.1,slT (.bl w.2.2)],rfl,QaS (Qw (b:=w.2.2) rfl rfl),λ_=>⟨⟨pairD (QeE w),true,[]⟩,rfl,rfl,rfl⟩⟩];unfold Qam QcU;rw[Zaj];rfl
theorem Qwd{fa:DE}{ρ:En}{r:R}{W:List (Int×Int×Bool)}(h:fa ρ=some r)(e:r.d=Qab W):QG (Q2 fa) (.tp [1,2,3]) [none,none,none,none] (QD (Qh 3)) (QaP (Qa (Qh 1) (Qa (Qh 2) Qe))) ρ=some (reT (Qam (QdD W))):=by
 rw[Qdo (toD:=QeF) (keep:=λw=>w.2.2) (out:=λw=>pairD (Qpc w)) W (Q1 h e) rfl λw _=>⟨[none,slI w.1,slI w.2.1,slT (.bl w.2.2)],rfl,Qw (b:=w.2.2) rfl rfl,λ_=>⟨⟨pairD (Qpc w),true,[]⟩,rfl,rfl,rfl⟩⟩];unfold Qam QdD;rw[Zaj];rfl
theorem Qda:up f i v k=if k=i then v else f k:=rfl
theorem QeL{fa:DE}{ρ:En}{r:R}{m:Int}{R L:Lpp}(h:fa ρ=some r)(e:r.d=QC m R L):
  Qn fa (dC (.int 0)) ρ=some (reI m)/\Qn fa (dC (.int 1)) ρ=some ⟨Qam R,r.fr,r.M⟩/\Qn fa (dC (.int 2)) ρ=some ⟨Qam L,r.fr,r.M⟩:=by
 unfold Qn;rw[h];simp only[Za,e,Qgq];exact⟨rfl,rfl,rfl⟩
theorem Qc8(h:fa ρ=some r)(e:r.d= .lst xs):dBf Qaa (Qa fa Qe) ρ=some (reI xs.length):=by
 unfold dBf;rw[Qr h (QK _),Za];simp[e,Qaa]
theorem Qhz(ha:fa ρ=some ra)(ea:ra.d=d)(hb:fb ρ=some rb)(eb:rb.d=d)(hs:d.sim 8=true):dOp gNe fa fb ρ=some (reT (.bl false)):=by
 refine Qap ha hb ?_;rw[ea,eb];unfold gNe;rw[hs,Qqs hs];rfl
theorem QoR(ha:fa ρ=some ra)(hb:fb ρ=some rb)(h1:ra.d.sim 8=true)(h2:rb.d.sim 8=true):dOp gEq fa fb ρ=some (reT (.bl (deq ra.d rb.d))):=by
 refine Qap ha hb ?_;unfold gEq;rw[h1,h2];rfl
def QpB(d:Den):Prop:=∀(m:Nat) (R L:Lpp),m<=1000->R.length+R.length+L.length<=1000000->(∀s∈R,Good m s)->(∀s∈L,Good m s)->d [QC m R L]=some (Qb m (QcI R L),true)
theorem QyN(h:Qgt d):QpB (Qq 1 (Qha d)):=λm R L h1 h2 h3 h4=>QwO h h1 h2 h3 h4
theorem QnR(h:0<b)(h2:b<2^200):QbH b=true:=by
 unfold QbH;have h3:b.natAbs<2^8000:=Zw (by omega:b.natAbs<2^200) (Zn (by decide) (by decide));simp only[Zg,decide_eq_true_eq];exact⟨⋯,h3⟩
theorem QiV(ha:fa ρ=some ra)(ea:ra.d= .int a)(hb:fb ρ=some rb)(eb:rb.d= .int b)(h:0<b)(h2:b<2^200)
  (q:Q (.nx ((ρ.set i (slI (a / b))).set j (slI (a % b))))):Run (Qfa (.tp [i,j]) (dDm (Qa fa (Qa fb Qe)))) ρ Q:=by
 have e:dDm (Qa fa (Qa fb Qe)) ρ=some (reT (.tup [.int (a / b),.int (a % b)])):=by
  unfold dDm;rw[Qr ha (Qr hb (QK _)),Za];simp only[ea,eb];rw[if_pos (QnR h h2),Qid _ _ ⋯,Qpr _ _ ⋯]
 refine⟨_,?_,q⟩;unfold Qfa;rw[e];rfl
theorem QDd(xs:List D):deq (.lst xs) (.lst [])=xs.isEmpty:=by cases xs<;>rfl
theorem QCT(n:Nat)(ns:List Int):(QA ns).sim (n+1)=true:=by
 unfold QA;simp only[D.sim,List.all_map,ZaK];intro p _;cases n<;>rfl
theorem QpK{fa:DE}{ρ:En}{r:R}{ns:List Int}(ha:fa ρ=some r)(e:r.d= .lst (ns.map .int)):QD (dOp gNe fa (Qao Qe)) ρ=some (!ns.isEmpty):=by
 refine Qw (Qap ha rfl ?_) rfl;rw[e];unfold gNe;have:(D.lst (ns.map .int)).sim 8=true:=QCT 7 ns;rw[this];show some (D.bl (!deq (.lst (ns.map .int)) (.lst [])))=_;rw[QDd];simp
theorem Qui(ha:fa ρ=some ra)(ea:ra.d= .int a)(hb:fb ρ=some rb)(eb:rb.d= .int b)(h:0<=b/\b<=1000/\a.natAbs<2^200):dOp Qjh fa fb ρ=some (reI (a^b.toNat)):=by
 refine Qap ha hb ?_;rw[ea,eb];show(if 0<=b/\b<=1000/\a.natAbs<2^200 then some (D.int (a^b.toNat))else none)=_;rw[if_pos h]
theorem QpH(hx:ρ[x]? =some (slT (QA A)))(ha:fa ρ=some r)(hf:r.d= .int n)(hl:A.length<16777216)(q:Q (.nx (ρ.set x (slT (QA (A++[n])))))):Run (Qil x Qaf fa) ρ Q:=by
 refine Qzj hx ha (by rw[hf];rfl) (by simpa using hl) ?_;rw[hf];unfold QA at q;rw[ZaO]at q;exact q
noncomputable abbrev B40:Int:=10000000000000000000000000000000000000000
noncomputable def Qf8:DS:=(Qd (Qs 2 (dOp Qjh QzF QCA)) (Qd (Qs 3 kk0) (Qd (sIf (QD (dOp gNe vv0 (Qao Qe))) (Qd (Qs 3 (QaA (Qn vv0 kk0))) Qo) Qo) (Qd (Qs 4 (Qao Qe)) (Qd (Qa7 (QaY vv1) (.nm 5) (Qd (Qfa (.tp [3,6]) (dDm (Qa vv3 (Qa vv2 Qe)))) (Qd (Qil 4 Qaf vv6) Qo))) (Qd (sIf (QD (dOp gGt vv3 kk0)) (Qd (QH vv4) Qo) Qo) (Qd (Qs 7 (Qao Qe)) (Qd (Qa7 (QaY vv1) (.nm 5) (Qd (Qs 8 QtN) (Qd (sIf (QD (dOp gNe vv0 (Qao Qe))) (Qd (Qs 8 (QaA (Qn vv0 (dOp Qa0 vv5 (dBf Qaa (Qa vv0 Qe)))))) Qo) Qo) (Qd (Qs 8 (dOp Qa0 (Q7 (QS (QS (QS vv8 (Q7 (Q7 vv5 vv5) QtN)) (Q7 vv5 Qva)) QCF) Qxs) QoK)) (Qd (Qs 8 (dOp Qa0 (Q7 (dOp Qa0 (Q7 vv8 vv8) QoS) (QS (Q7 kk2 vv5) QxV)) QpT)) (Qd (Qil 7 Qaf (dOp Qa0 (Q7 vv8 (dOp Qjh QeG kk2)) vv2)) Qo)))))) (Qd (QH vv7) Qo)))))))))
def CellsOk(d:Den):Prop:=∀(ns:List Int) (n:Nat),ns.length<=63->n<=200->∃cs:List Int,d [.lst (ns.map .int),.int n]=some (QA cs,true)/\cs.length=n/\∀c∈cs,0<=c/\c<B40
theorem Qwx:CellsOk (Qq 9 Qf8):=λns n hl hn=>by
 have key:Run Qf8 (QaQ 9 [.lst (ns.map .int),.int n]) (Rt λd fr=>∃cs:List Int,d=QA cs/\fr=true/\cs.length=n/\∀c∈cs,0<=c/\c<B40):=by
  refine run_seq (Qz (r:=reI B40) ?_ ?_)
  ·exact Qui (a:=10) (b:=40) rfl rfl rfl rfl (by decide)
  rw[QaJ];refine rsa (d:= .int 0) rfl ?_;refine QaW (P:=λρ=>∃z:Int,ρ=[slF (.lst (ns.map .int)),slI n,slI B40,slI z,none,none,none,none,none]) ?_ ?_
  ·refine QQ (QpK (ns:=ns) (r:=reF (.lst (ns.map .int))) rfl rfl) (λh=>?_) (λ_=>Qt ⟨0,rfl⟩);cases ns with
   | nil=>cases h
   | cons a r=>exact run_seq (Qz (QaV (Qdw rfl rfl rfl rfl (by decide) rfl)) (Qt ⟨a,by rw[Qcf rfl];rfl⟩))
  rintro ρ ⟨z,rfl⟩;refine rsa rfl ?_;refine QaW (P:=λρ=>∃(z:Int) (cs:List Int) (j5 j6:Option (D×Bool)),cs.length=n/\(∀c∈cs,0<=c/\c<B40)/\ρ=[slF (.lst (ns.map .int)),slI n,slI B40,slI z,slT (QA cs),j5,j6,none,none]) ?_ ?_
  ·refine Qah (List.range n) (λi ρ=>∃(z:Int) (cs:List Int) (j5 j6:Option (D×Bool)),cs.length=i/\(∀c∈cs,0<=c/\c<B40)/\ρ=[slF (.lst (ns.map .int)),slI n,slI B40,slI z,slT (QA cs),j5,j6,none,none]) (Qbc rfl rfl ⋯) rfl ⟨z,[],none,none,rfl,by simp,rfl⟩ ?_ ?_
   ·rintro i k ρ hi ⟨z,cs,j5,j6,h1,h2,rfl⟩;have hin:i<n:=by have:=(Zi.mp hi).1;simpa using this
    refine⟨_,rfl,?_⟩;refine run_seq (QiV rfl rfl rfl rfl (by decide) (by decide) ?_);refine run_seq (QpH rfl rfl rfl ⋯ (Qt ⟨z / B40,cs++[z % B40],_,_,by simp[h1],λc hc=>?_,rfl⟩));rcases ZH.mp hc with hc | hc
    ·exact h2 c hc
    ·rw[ZD.mp hc];exact⟨ZI _ (by decide),ZG _ (by decide)⟩
   ·rintro ρ ⟨z,cs,j5,j6,h1,h2,rfl⟩;exact⟨z,cs,j5,j6,by simpa using h1,h2,rfl⟩
  rintro ρ ⟨z,cs,j5,j6,h1,h2,rfl⟩;refine Qx (QQ (Qw rfl rfl) (λ_=>Qv (Q:=λd fr=>∃cs:List Int,d=QA cs/\fr=true/\cs.length=n/\∀c∈cs,0<=c/\c<B40) rfl ⟨cs,rfl,rfl,h1,h2⟩ |> λh=>h.mono λo ho=>by cases o<;>first | exact ho | exact ho.elim) (λ_=>Qt ?_));refine rsa rfl ?_;refine QaW (P:=λρ=>∃(cs':List Int) (j5 j8:Option (D×Bool)),cs'.length=n/\(∀c∈cs',0<=c/\c<B40)/\ρ=[slF (.lst (ns.map .int)),slI n,slI B40,slI z,slT (QA cs),j5,j6,slT (QA cs'),j8]) ?_ ?_
  ·refine Qah (List.range n) (λi ρ=>∃(cs':List Int) (j5 j8:Option (D×Bool)),cs'.length=i/\(∀c∈cs',0<=c/\c<B40)/\ρ=[slF (.lst (ns.map .int)),slI n,slI B40,slI z,slT (QA cs),j5,j6,slT (QA cs'),j8]) (Qbc rfl rfl ⋯) rfl ⟨[],_,none,rfl,by simp,rfl⟩ ?_ ?_
   ·rintro i k ρ hi ⟨cs',j5,j8,h3,h4,rfl⟩;have hin:i<n:=by have:=(Zi.mp hi).1;simpa using this
    have hk:k<n:=by have:=ZT hi;simpa using this
    refine⟨_,rfl,?_⟩;refine rsa rfl ?_;refine QaW (P:=λρ=>∃y:Int,ρ=[slF (.lst (ns.map .int)),slI n,slI B40,slI z,slT (QA cs),slI k,j6,slT (QA cs'),slI y]) ?_ ?_
    ·refine QQ (QpK rfl rfl) (λh=>?_) (λ_=>Qt ⟨7919,rfl⟩)
     have hne:0<ns.length:=by cases ns with
      | nil=>cases h
      | cons a r=>simp
     have m1:=ZI (k:Int) (by omega:(ns.length:Int)≠0);have m2:=ZG (k:Int) (by omega:(0:Int)<ns.length);have hg:ns[((k:Int) % ns.length).toNat]? =some (ns[((k:Int) % ns.length).toNat]'⋯):=Zae _;have elen:dBf Qaa (Qa (Qh 0) Qe) [slF (.lst (ns.map .int)),slI n,slI B40,slI z,slT (QA cs),slI k,j6,slT (QA cs'),slI 7919]=some (reI ns.length):=by
      rw[Qc8 rfl rfl,Zj]
     exact run_seq (Qz (QaV (Qdw rfl rfl (QaZ rfl rfl elen rfl ⋯) rfl m1 hg)) (Qt ⟨_,by rw[Qcf rfl];rfl⟩))
    rintro ρ ⟨y,rfl⟩;refine rsa (QaZ (Qan (Qad (Qad (Qad rfl rfl (Qan (Qan rfl rfl rfl rfl (Qc0 ⋯)) rfl rfl rfl (QcW (by decide))) rfl) rfl (Qan rfl rfl rfl rfl (QcW (by decide))) rfl) rfl rfl rfl) rfl rfl rfl (QcW (by decide))) rfl rfl rfl (by decide)) ?_;generalize ew:(y+(k:Int)*k*7919+(k:Int)*104729+31)*48271 % 2147483647=w;have w1:0<=w:=by rw[← ew];exact ZI _ (by decide)
    have w2:w<2147483647:=by rw[← ew];exact ZG _ (by decide)
    refine rsa (QaZ (Qan (QaZ (Qan rfl rfl rfl rfl (Qc0 ⋯)) rfl rfl rfl (by decide)) rfl (Qad (Qan rfl rfl rfl rfl (Qc0 (by decide))) rfl rfl rfl) rfl (QcW ⋯)) rfl rfl rfl (by decide)) ?_;generalize eu:w*w % 2147483629*(2*(k:Int)+69621) % 2147483587=u;have u1:0<=u:=by rw[← eu];exact ZI _ (by decide)
    have u2:u<2147483587:=by rw[← eu];exact ZG _ (by decide)
    have epow:dOp Qjh (dC (.int 618970019642690137449562111)) (dC (.int 2)) [slF (.lst (ns.map .int)),slI n,slI B40,slI z,slT (QA cs),slI k,j6,slT (QA cs'),slI u]=some (reI (618970019642690137449562111^2)):=Qui (b:=2) rfl rfl rfl rfl (by decide);refine run_seq (QpH rfl (QaZ (Qan rfl rfl epow rfl (Qc0 ⋯)) rfl rfl rfl (by decide)) rfl ⋯ (Qt ⟨_,_,_,?_,λc hc=>?_,rfl⟩))
    ·simp[h3]
    ·rcases ZH.mp hc with hc | hc
     ·exact h4 c hc
     ·rw[ZD.mp hc];exact⟨ZI _ (by decide),ZG _ (by decide)⟩
   ·rintro ρ ⟨cs',j5,j8,h3,h4,rfl⟩;exact⟨cs',j5,j8,by simpa using h3,h4,rfl⟩
  rintro ρ ⟨cs',j5,j8,h3,h4,rfl⟩;exact Qv rfl ⟨cs',rfl,rfl,h3,h4⟩
 obtain⟨o,h1,h2⟩:=key;cases o with
 | rt d fr=>
  obtain⟨cs,rfl,rfl,h3,h4⟩:=h2;exact⟨cs,by unfold Qq;rw[h1];rfl,h3,h4⟩
 | _=>exact h2.elim
theorem Qxz{α β:Type}(f:α->β)(xs:List α)(k:Nat)(y:α):(Qba xs k y).map f=Qba (xs.map f) k (f y):=by
 unfold Qba;simp[Zbm,Zcd]
theorem Qkm{α:Type}{xs:List α}{k:Nat}{y z:α}:z∈Qba xs k y↔z=y∨z∈xs:=by
 unfold Qba;rw[ZH,Zo];constructor
 ·rintro(h | h | h)
  ·exact .inr (List.mem_of_mem_take h)
  ·exact .inl h
  ·exact .inr (List.mem_of_mem_drop h)
 ·rintro(h | h)
  ·exact .inr (.inl h)
  ·rw[← ZaH k xs,ZH]at h;rcases h with h | h
   ·exact .inl h
   ·exact .inr (.inr h)
theorem QxE{α:Type}(xs:List α)(k:Nat)(y:α):(Qba xs k y).length=xs.length+1:=by
 unfold Qba;rw[Zx,ZJ,ZaJ,ZaR];omega
theorem QnP{α β:Type}(f:α->β):∀(l:List α) (k:Nat),(l.map f).eraseIdx k=(l.eraseIdx k).map f
 | [],_=>rfl
 | _::_,0=>rfl
 | a::l,k+1=>by simp only[ZM,Zbg,QnP f l k]
theorem Ql7{α:Type}:∀(l:List α) (k:Nat) (b:α),l[k]? =some b->(b::l.eraseIdx k).Perm l
 | [],_,_,h=>by simp at h
 | a::l,0,b,h=>by simp at h;subst h;exact .refl _
 | a::l,k+1,b,h=>by
  have:=Ql7 l k b (by simpa using h);simp only[Zbg];exact(List.Perm.swap a b _).trans (this.cons a)
theorem Qvt{x:Nat}{fi fa:DE}{ρ:En}{ri r:R}{W:List (Int×Int×Bool)}{w:Int×Int×Bool}{i:Int}{Q:Out->Prop}(hx:ρ[x]? =some (slT (Qab W)))(hi:fi ρ=some ri)(ei:ri.d= .int i)(ha:fa ρ=some r)(hf:r.d=QeF w)(h0:0<=i)(h1:i<2^62)(hl:W.length<16777216)
  (q:Q (.nx (ρ.set x (slT (Qab (Qba W (min i.toNat W.length) w)))))):Run (Qlm x Qaf fi fa) ρ Q:=by
 refine⟨_,?_,q⟩;unfold Qlm;rw[hx];simp only[Qaf,Za,hi,ha,Qbf,Qab,ei,hf,Zj,QgL];rw[if_pos ⟨rfl,h0,h1,hl⟩];simp only[Qbi,Qxz]
theorem QsU{x y:Nat}{fi:DE}{ρ:En}{ri:R}{A B:List Int}{i b:Int}{Q:Out->Prop}(hx:ρ[x]? =some (slT (QA A)))(hy:ρ[y]? =some (slT (QA B)))(hi:fi ρ=some ri)(ei:ri.d= .int i)(hxy:x≠y)(h0:0<=i)(h1:i<2^62)(hb:B[i.toNat]? =some b)(hl:A.length<16777216)
  (q:Q (.nx ((ρ.set y (slT (QA (B.eraseIdx i.toNat)))).set x (slT (QA (A++[b])))))):Run (QfV x y fi) ρ Q:=by
 refine⟨_,?_,q⟩;unfold QfV;rw[hx,hy];simp only[QA,Za,hi,ei,Zj,QgL];rw[if_pos ⟨hxy,Qiq B,h0,h1,hl⟩,Zr,hb];simp only[ZX,ZaO];rw[QnP];rfl
noncomputable def Qfs:DS:=(Qd (Qs 3 (Qov vv1)) (Qd (Qs 4 (Qao Qe)) (Qd (Qs 5 (Qao Qe)) (Qd (Qa7 (QaY vv1) (.nm 6) (Qd (Qfa (.tp [7,8]) (dDm (Qa (Qn vv0 vv6) (Qa (dBf Qaa (Qa vv3 Qe)) Qe)))) (Qd (Qfa (.tp [7,9]) (dDm (Qa vv7 (Qa (QS vv6 kk1) Qe)))) (Qd (Qs 10 (QaA vv1)) (Qd (sIf (QD (dOp gLt vv9 vv6)) (Qd (Qs 10 (QaA (Qn vv4 vv9))) Qo) Qo) (Qd (QfV 4 3 vv8) (Qd (Qs 11 (dOr (dOp gEq vv2 kk2) (Qgz (dOp gEq vv2 kk3) (dOp gEq (dOp Qa0 vv7 kk2) kk1)))) (Qd (Qlm 5 Qaf (dOp Qa0 (dOp Qco vv7 kk2) (QS vv6 kk1)) (QaP (Qa (Qn vv4 vv6) (Qa Qjs (Qa QpQ Qe))))) Qo)))))))) (Qd (QH vv5) Qo)))))
def Esc(m:Nat)(W:List (Int×Int×Bool)):Prop:=∀A:Nat->Prop,(∃p,p<m/\A p)->∃w∈W,w.1<m/\A w.1.toNat/\(w.2.1=m∨¬A w.2.1.toNat)
theorem Esc.mono{m:Nat}{W W':List (Int×Int×Bool)}(h:Esc m W)(s:∀w∈W,w∈W'):Esc m W':=λA hA=>let ⟨w,hw,r⟩:=h A hA;⟨w,s w hw,r⟩
def Qi2(m:Nat)(O:List Int)(w:Int×Int×Bool)(j:Nat):Prop:=O[j]? =some w.1/\(w.2.1=m∨∃i,i<j/\O[i]? =some w.2.1)
theorem Qi2.app{m:Nat}{O O':List Int}{w:Int×Int×Bool}{j:Nat}(h:Qi2 m O w j):Qi2 m (O++O') w j:=by
 obtain⟨h1,h2⟩:=h;have hj:j<O.length:=(Zi.mp h1).1;refine⟨by rw[Zaw hj];exact h1,?_⟩;rcases h2 with h2 | ⟨i,hi,h2⟩
 ·exact .inl h2
 ·exact .inr ⟨i,hi,by rw[Zaw ⋯];exact h2⟩
theorem QA6{m:Nat}{O:List Int}{W:List (Int×Int×Bool)}(hp:O.Perm ((List.range m).map λ(k:Nat)=>(k:Int)))(hW:∀j,j<m->∃w∈W,Qi2 m O w j):Esc m W:=λA Z=>by
 obtain⟨p,hp1,hp2⟩:=Z;have hl:O.length=m:=by rw[hp.length_eq];simp
 have nd:O.Nodup:=hp.nodup_iff.mpr (by
  rw[ZbY,List.pairwise_map];exact List.Pairwise.imp (λh z=>h ⋯) List.nodup_range)
 have mem:∀x∈O,0<=x/\x<m:=λx hx=>by
  obtain⟨k,hk,rfl⟩:=ZN.mp (hp.mem_iff.mp hx);have:=Ze.mp hk;omega
 have ex:∃(j:Nat) (x:Int),O[j]? =some x/\A x.toNat:=by
  have:(p:Int)∈O:=hp.mem_iff.mpr (ZN.mpr ⟨p,Ze.mpr hp1,rfl⟩);obtain⟨j,hj⟩:=List.getElem?_of_mem this;exact⟨j,_,hj,by simpa using hp2⟩
 have least:∃(j:Nat),(∃x:Int,O[j]? =some x/\A x.toNat)/\∀i:Nat,i<j->¬ ∃x:Int,O[i]? =some x/\A x.toNat:=by
  obtain⟨j,hj⟩:=ex
  induction j using Nat.strongRecOn with
  | _ j ih=>
   by_cases h:∃i:Nat,i<j/\∃x:Int,O[i]? =some x/\A x.toNat
   ·obtain⟨i,hi,h⟩:=h;exact ih i hi h
   ·exact⟨j,hj,λi hi hx=>h ⟨i,hi,hx⟩⟩
 obtain⟨j,⟨x,hx,hA⟩,hmin⟩:=least;have hj:j<m:=by rw[← hl];exact(Zi.mp hx).1
 obtain⟨w,hw,h1,h2⟩:=hW j hj;rw[hx]at h1;cases h1;refine⟨w,hw,(mem _ (ZT hx)).2,hA,?_⟩;rcases h2 with h2 | ⟨i,hi,h2⟩
 ·exact .inl h2
 ·exact .inr λhA'=>hmin i hi ⟨_,h2,hA'⟩
theorem Qtb{m:Nat}{O:List Int}{w:Int×Int×Bool}{j:Nat}(nd:O.Nodup)(mem:∀x∈O,0<=x/\x<m)(h:Qi2 m O w j):GoodW m w:=by
 obtain⟨h1,h2⟩:=h;have a:=mem _ (ZT h1);refine⟨⟨a.1,?_,by dsimp only;omega,?_,?_⟩,λ_=>a.2⟩
 ·rcases h2 with h2 | ⟨i,hi,h2⟩
  ·dsimp only;omega
  ·exact(mem _ (ZT h2)).1
 ·rcases h2 with h2 | ⟨i,hi,h2⟩
  ·dsimp only;omega
  ·have:=mem _ (ZT h2);dsimp only;omega
 ·rcases h2 with h2 | ⟨i,hi,h2⟩
  ·dsimp only;omega
  ·dsimp only;intro z;rw[z,← h2]at h1;have hil:i<O.length:=(Zi.mp h2).1;have hjl:j<O.length:=by
    by_cases q:j<O.length
    ·exact q
    ·rw[Zu ⋯,h2]at h1;cases h1
   have:=(List.getElem?_inj hjl nd).mp h1;omega
def QmG(d:Den):Prop:=∀(m:Nat) (cs:List Int) (kind:Int),0<m->m<=1000->m<=cs.length->(∀c∈cs,0<=c/\c<B40)->∃W,d [QA cs,.int m,.int kind]=some (Qab W,true)/\W.length=m/\(∀w∈W,GoodW m w)/\Esc m W
theorem QvW:QmG (Qq 12 Qfs):=λm cs kind m0 hm hcl hcs=>by
 have key:Run Qfs (QaQ 12 [QA cs,.int m,.int kind]) (Rt λd fr=>∃W,d=Qab W/\fr=true/\W.length=m/\(∀w∈W,GoodW m w)/\Esc m W):=by
  refine run_seq (Qz (r:=reT (QA ((List.range m).map λ(k:Nat)=>(k:Int)))) ?_ ?_)
  ·show(if 0<=(m:Int)/\(m:Int)<=1000000 then some (HS.R.mk (.lst ((List.range (m:Int).toNat).map λ(k:Nat)=> .int (k:Int))) true [])else none)=_;rw[if_pos ⟨⋯,⋯⟩];unfold QA;rw[Zaj];rfl
  rw[QaJ];refine rsa rfl ?_;refine rsa rfl ?_
  refine run_seq (Qah (List.range m) (λk ρ=>∃(Rs O:List Int) (W:List (Int×Int×Bool)) (j6 j7 j8 j9 j10 j11:Option (D×Bool)),O.length=k/\(O++Rs).Perm ((List.range m).map λ(k:Nat)=>(k:Int))/\W.length=k/\(∀w∈W,∃j,Qi2 m O w j)/\(∀j,j<k->∃w∈W,Qi2 m O w j)∧
    ρ=[slF (QA cs),slI m,slI kind,slT (QA Rs),slT (QA O),slT (Qab W),j6,j7,j8,j9,j10,j11]) (Qbc rfl rfl ⋯) rfl ⟨_,[],[],none,none,none,none,none,none,rfl,by simp,rfl,by simp,λj hj=>absurd hj ⋯,rfl⟩ ?_ ?_)
  ·rintro k k' ρ hk ⟨Rs,O,W,j6,j7,j8,j9,j10,j11,hO,hP,hWl,hW1,hW2,rfl⟩;obtain⟨hkm,rfl⟩:=QbF hk;have hRl:Rs.length=m-k:=by have:=hP.length_eq;simp at this;omega
   obtain⟨c,hc⟩:∃c,cs[k]? =some c:=⟨cs[k]'⋯,Zae ⋯⟩;have hc0:=(hcs c (ZT hc));refine⟨_,rfl,?_⟩;have elen:dBf Qaa (Qa (Qh 3) Qe) [slF (QA cs),slI m,slI kind,slT (QA Rs),slT (QA O),slT (Qab W),slI k,j7,j8,j9,j10,j11]=some (reI Rs.length):=by
    rw[Qc8 rfl rfl,Zj]
   refine run_seq (QiV (Qdw rfl rfl rfl rfl ⋯ (by simpa using hc)) rfl elen rfl ⋯ ⋯ ?_);have a1:=ZI c (by omega:(Rs.length:Int)≠0);have a2:=ZG c (by omega:(0:Int)<Rs.length);have a3:0<=c / Rs.length:=Zbb hc0.1 ⋯;generalize c % (Rs.length:Int)=at' at a1 a2;generalize c / (Rs.length:Int)=nb at a3;refine run_seq (QiV rfl rfl (Qad rfl rfl rfl rfl) rfl ⋯ ⋯ ?_);have b1:=ZI nb (by omega:(k:Int)+1≠0);have b2:=ZG nb (by omega:(0:Int)<(k:Int)+1);have b3:0<=nb / ((k:Int)+1):=Zbb a3 ⋯;generalize nb % ((k:Int)+1)=to at b1 b2;generalize nb / ((k:Int)+1)=nc at b3;refine run_seq (Qz rfl ?_);rw[Qcf rfl];refine QaW (P:=λρ=>∃e:Int,(e=m∨∃i,i<k/\O[i]? =some e)/\ρ=[slF (QA cs),slI m,slI kind,slT (QA Rs),slT (QA O),slT (Qab W),slI k,slI nc,slI at',slI to,slI e,j11]) ?_ ?_
   ·refine QQ (Qw rfl rfl) (λh=>?_) (λ_=>Qt ⟨m,.inl rfl,rfl⟩);have h:=of_decide_eq_true h;obtain⟨e,he⟩:∃e,O[to.toNat]? =some e:=⟨O[to.toNat]'⋯,Zae ⋯⟩;exact run_seq (Qz (QaV (Qdw rfl rfl rfl rfl b1 he)) (Qt ⟨e,.inr ⟨to.toNat,⋯,he⟩,by rw[Qcf rfl];rfl⟩))
   rintro ρ ⟨e,he,rfl⟩;obtain⟨b,hb⟩:∃b,Rs[at'.toNat]? =some b:=⟨Rs[at'.toNat]'⋯,Zae ⋯⟩;refine run_seq (QsU rfl rfl rfl rfl (by decide) a1 ⋯ hb ⋯ ?_);refine rsa (Qxa (QbA rfl rfl rfl rfl) (QiU (QbA rfl rfl rfl rfl) (QbA (QaZ rfl rfl rfl rfl (by decide)) rfl rfl rfl))) ?_;generalize (decide (kind=2) || (decide (kind=3) && decide (nc % 2=1)))=ln;have c1:=ZI (nc / 2) (by omega:(k:Int)+1≠0);have c2:=ZG (nc / 2) (by omega:(0:Int)<(k:Int)+1);have hOb:(O++[b])[k]? =some b:=by rw[Zbo ⋯];simp[hO]
   have eidx:=Qdw (fa:=Qh 4) (fb:=Qh 6) (ρ:=[slF (QA cs),slI m,slI kind,slT (QA (Rs.eraseIdx at'.toNat)),slT (QA (O++[b])),slT (Qab W),slI k,slI nc,slI at',slI to,slI e,slT (.bl ln)]) rfl rfl rfl rfl ⋯ (by simpa using hOb);have ew:QaP (Qa (Qn (Qh 4) (Qh 6)) (Qa (Qh 10) (Qa (Qh 11) Qe))) [slF (QA cs),slI m,slI kind,slT (QA (Rs.eraseIdx at'.toNat)),slT (QA (O++[b])),slT (Qab W),slI k,slI nc,slI at',slI to,slI e,slT (.bl ln)]=some ⟨QeF (b,e,ln),true,[]⟩:=by
    unfold QaP;rw[Qr eidx (Qr rfl (Qr rfl (QK _)))];rfl
   have fr:Qi2 m (O++[b]) (b,e,ln) k:=by
    refine⟨hOb,?_⟩;rcases he with he | ⟨i,hi,he⟩
    ·exact .inl he
    ·exact .inr ⟨i,hi,by rw[Zaw ⋯];exact he⟩
   refine run_seq (Qvt rfl (QaZ (QuB rfl rfl rfl rfl (by decide) (by decide)) rfl (Qad rfl rfl rfl rfl) rfl ⋯) rfl ew rfl c1 ⋯ ⋯ (Qt ⟨_,_,_,_,_,_,_,_,_,by simp[hO],?_,by rw[QxE,hWl],?_,?_,rfl⟩))
   ·refine List.Perm.trans ?_ hP;rw[Zbc];refine List.Perm.append_left O ?_;exact Ql7 Rs _ b hb
   ·intro w hw;rcases Qkm.mp hw with rfl | hw
    ·exact⟨k,fr⟩
    ·obtain⟨j,hj⟩:=hW1 w hw;exact⟨j,hj.app⟩
   ·intro j hj;by_cases hjk:j=k
    ·subst hjk;exact⟨_,Qkm.mpr (.inl rfl),fr⟩
    ·obtain⟨w,hw,hf⟩:=hW2 j ⋯;exact⟨w,Qkm.mpr (.inr hw),hf.app⟩
  ·rintro ρ ⟨Rs,O,W,j6,j7,j8,j9,j10,j11,hO,hP,hWl,hW1,hW2,rfl⟩;rw[Zt]at *;have hR0:Rs=[]:=by have:=hP.length_eq;simp at this;exact Zao ⋯
   subst hR0;rw[Zbj]at hP;have nd:O.Nodup:=hP.nodup_iff.mpr (by
    rw[ZbY,List.pairwise_map];exact List.Pairwise.imp (λh z=>h ⋯) List.nodup_range)
   have mem:∀x∈O,0<=x/\x<m:=λx hx=>by
    obtain⟨k,hk,rfl⟩:=ZN.mp (hP.mem_iff.mp hx);have:=Ze.mp hk;omega
   exact Qv rfl ⟨W,rfl,rfl,hWl,λw hw=>let ⟨j,hj⟩:=hW1 w hw;Qtb nd mem hj,QA6 hP hW2⟩
 obtain⟨o,h1,h2⟩:=key;cases o with
 | rt d fr=>
  obtain⟨W,rfl,rfl,h3,h4,h5⟩:=h2;exact⟨W,by unfold Qq;rw[h1];rfl,h3,h4,h5⟩
 | _=>exact h2.elim
noncomputable def Qfv:DS:=(Qd (Qs 3 (Q7 (Qao (Qa kk0 Qe)) (QS vv0 kk1))) (Qd (Qa7 (Q2 vv1) (.tp [4,5,6]) (Qd (QbW 3 Qaf vv4 (QS (Qn vv3 vv4) kk1)) (Qd (sIf (QbG (QD vv6)) (Qd (QbW 3 Qaf vv5 (QS (Qn vv3 vv5) kk1)) Qo) Qo) Qo))) (Qd (Qs 7 kk1) (Qd (Qa7 (Q2 (QbJ vv3 QbV (QaI vv0))) (.nm 8) (Qd (Qs 7 (Q7 vv7 vv8)) Qo)) (Qd (QH (dOp gLe vv7 vv2)) Qo)))))
def Qmr(d:Den):Prop:=∀(m:Nat) (W:List (Int×Int×Bool)) (room:Int),m<=1000->W.length<=100000->(∀w∈W,GoodW m w)->∃b,d [.int m,Qab W,.int room]=some (.bl b,true)
theorem Qsx{m:Nat}(hg:∀w∈W,GoodW m w):
  Run (Qa7 (Q2 (Qh 1)) (.tp [4,5,6]) (Qd (QbW 3 Qaf (Qh 4) (QS (Qn (Qh 3) (Qh 4)) (dC (.int 1)))) (Qd (sIf (QbG (QD (Qh 6))) (Qd (QbW 3 Qaf (Qh 5) (QS (Qn (Qh 3) (Qh 5)) (dC (.int 1)))) Qo) Qo) Qo)))
   [slI m,slF (Qab W),r0,slT (Qb (m+1) λ_=>0),none,none,none,r1,r2] (Nx λρ=>∃f j3 j4 j5,(∀k,0<=f k/\f k<=2*(W.length:Int))/\ρ=[slI m,slF (Qab W),r0,slT (Qb (m+1) f),j3,j4,j5,r1,r2]):=by
 refine Qah W (λi ρ=>∃f j3 j4 j5,(∀k,0<=f k/\f k<=2*(i:Int))/\ρ=[slI m,slF (Qab W),r0,slT (Qb (m+1) f),j3,j4,j5,r1,r2]) rfl rfl ⟨λ_=>0,none,none,none,λk=>⟨by simp,by simp⟩,rfl⟩ ?_ ?_
 ·rintro i w ρ hi ⟨f,j3,j4,j5,hf,rfl⟩;obtain⟨⟨h1,h2,h3,h4,h5⟩,h6⟩:=hg w (ZT hi);refine⟨_,rfl,?_⟩;refine run_seq (Qrj rfl rfl h1 ⋯ ?_);have hf1:∀k,0<=up f w.1.toNat (f w.1.toNat+1) k/\up f w.1.toNat (f w.1.toNat+1) k<=2*(i:Int)+1:=λk=>by
   have a:=hf k;have b:=hf w.1.toNat
   unfold up;split<;>omega
  refine run_seq (QQ (QaS (Qw rfl rfl)) (λ_=>run_seq (Qrj rfl rfl h2 ⋯ (Qt (Qt ⟨_,_,_,_,λk=>?_,rfl⟩)))) (λ_=>Qt (Qt ⟨_,_,_,_,λk=>?_,rfl⟩)))
  ·have a:=hf1 k;have b:=hf1 w.2.1.toNat
   unfold up at a b ⊢;split<;>omega
  ·have a:=hf1 k;omega
 ·rintro ρ ⟨f,j3,j4,j5,hf,rfl⟩;exact⟨f,j3,j4,j5,hf,rfl⟩
theorem Qvg:Qmr (Qq 9 Qfv):=λm W room hm hl hg=>by
 have key:Run Qfv (QaQ 9 [.int m,Qab W,.int room]) (Rt λd fr=>∃b,d= .bl b/\fr=true):=by
  refine rsa (Qev (n:=m+1) (Qad rfl rfl rfl rfl) rfl ⋯) ?_;refine QaW (Qsx hg) ?_;rintro ρ ⟨f,j3,j4,j5,hf,rfl⟩;refine rsa rfl ?_;refine QaW (P:=λρ=>∃(z:Int) (j:Option (D×Bool)),ρ=[slI m,slF (Qab W),slI room,slT (Qb (m+1) f),j3,j4,j5,slI z,j]) ?_ ?_
  ·refine Qah (List.range m) (λi ρ=>∃(z:Int) (j:Option (D×Bool)),ρ=[slI m,slF (Qab W),slI room,slT (Qb (m+1) f),j3,j4,j5,slI z,j]) (Q1 (Qq9 rfl rfl rfl rfl ⋯) rfl) rfl ⟨1,none,rfl⟩ ?_ ?_
   ·rintro i k ρ _ ⟨z,j,rfl⟩;have:=hf k;exact⟨_,rfl,run_seq (Qz (Qan rfl rfl rfl rfl (QcW ⋯)) (Qt ⟨z*f k,_,rfl⟩))⟩
   ·rintro ρ ⟨z,j,rfl⟩;exact⟨z,j,rfl⟩
  rintro ρ ⟨z,j,rfl⟩;exact Qv (Qap rfl rfl rfl) ⟨_,rfl,rfl⟩
 obtain⟨o,h1,h2⟩:=key;cases o with
 | rt d fr=>
  obtain⟨b,rfl,rfl⟩:=h2;exact⟨b,by unfold Qq;rw[h1];rfl⟩
 | _=>exact h2.elim
noncomputable def Qfo(QcR:Den):DS:=(Qd (Qa7 (Q2 vv1) (.nm 5) (Qd (Qfa (.tp [6,7]) (dDm (Qa vv5 (Qa (QS vv2 kk1) Qe)))) (Qd (Qfa (.tp [6,8]) (dDm (Qa vv6 (Qa vv2 Qe)))) (Qd (Qs 9 (Qgz (dOp gLt vv7 vv2) (dOr (dOp gEq vv3 kk2) (Qgz (dOp gEq vv3 kk3) (dOp gEq (dOp Qa0 vv6 kk3) kk1))))) (Qd (Qs 10 (QaP (Qa vv7 (Qa (dOp Qa0 (QS (QS vv7 kk1) vv8) (QS vv2 kk1)) (Qa vv9 Qe))))) (Qd (Qs 11 (dOp Qa0 (dOp Qco vv6 kk3) (QS (dBf Qaa (Qa vv0 Qe)) kk1))) (Qd (sIf (bOr (Qiy (QD (dOp gNe vv3 kk2)) (QD (dOp gNe vv3 kk3))) (QD (Qm 3 QcR [] (Qa vv2 (Qa (QS vv0 (Qao (Qa Qjs Qe))) (Qa vv4 Qe)))))) (Qd (Qs 0 (QS (QS (QbJ vv0 QbV (QaI QpQ)) (Qao (Qa Qjs Qe))) (QbJ vv0 (QaI QpQ) QbV))) Qo) Qo) Qo))))))) (Qd (QH vv0) Qo))
theorem Ql0{W:List (Int×Int×Bool)}{n:Nat}:cutD (W.map QeF) none (some (n:Int))=(W.take n).map QeF/\cutD (W.map QeF) (some (n:Int)) none=(W.drop n).map QeF:=by
 unfold cutD;simp only[Zj,HT.QiH,HT.QhK,ZbX,ZbV];constructor
 ·rw[← Zbm];by_cases h:n<=W.length
  ·rw[Zba h]
  ·rw[Nat.min_eq_right ⋯,Zav ⋯,Zav ⋯]
 ·rw[← Zcd,← Zbm];congr 1;by_cases h:n<=W.length
  ·rw[Zba h,Zav (by simp)]
  ·rw[Nat.min_eq_right ⋯,Zco ⋯,Zco ⋯];simp
theorem Qy5{fa fb:DE}{ρ:En}{ra rb:R}{W:List (Int×Int×Bool)}{n:Nat}(ha:fa ρ=some ra)(ea:ra.d=Qab W)(hb:fb ρ=some rb)(eb:rb.d= .int n):
  QbJ fa QbV (QaI fb) ρ=some (reT (Qab (W.take n)))/\QbJ fa (QaI fb) QbV ρ=some (reT (Qab (W.drop n))):=by
 unfold QbJ QbV QaI;simp only[ha,hb,Za,ea,eb,Qab,Ql0.1,Ql0.2,Qbq,Qsa,if_true];exact⟨trivial,trivial⟩
theorem QvL{m:Nat}{a s:Int}{ln:Bool}(h0:0<=a)(h1:a<=m)(hs:0<=s)(hs2:s<m)(hl:ln=true->a<m):GoodW m (a,(a+1+s) % (m+1),ln):=by
 have h5:=ZI (a+1+s) (by omega:(m:Int)+1≠0);have h6:=ZG (a+1+s) (by omega:(0:Int)<m+1);have h7:=Qz6 (a:=a) (x:=1+s) (n:=(m:Int)+1) ⋯ ⋯;rw[← Zcv,show a % ((m:Int)+1)=a from ZbG h0 ⋯]at h7;exact⟨⟨h0,h5,h1,by dsimp only;omega,λz=>h7 z.symm⟩,hl⟩
def QmD(d:Den):Prop:=∀(m:Nat) (W:List (Int×Int×Bool)) (cs:List Int) (kind room:Int),0<m->m<=1000->W.length+cs.length<=10000->(∀w∈W,GoodW m w)->(∀c∈cs,0<=c/\c<B40)→
 ∃W' fr,d [Qab W,QA cs,.int m,.int kind,.int room]=some (Qab W',fr)/\W'.length<=W.length+cs.length/\(∀w∈W',GoodW m w)/\(∀w∈W,w∈W')
theorem Qu5{df:Den}(hf:Qmr df):QmD (Qq 12 (Qfo df)):=λm W cs kind room h0 hm hl hg hcs=>by
 have key:Run (Qfo df) (QaQ 12 [Qab W,QA cs,.int m,.int kind,.int room]) (Rt λd fr=>∃W',d=Qab W'/\W'.length<=W.length+cs.length/\(∀w∈W',GoodW m w)/\(∀w∈W,w∈W')):=by
  refine run_seq (Qah (toD:=D.int) cs (λi ρ=>∃W' b j5 j6 j7 j8 j9 j10 j11,W'.length<=W.length+i/\(∀w∈W',GoodW m w)/\(∀w∈W,w∈W')/\ρ=[some (Qab W',b),slF (QA cs),slI m,slI kind,slI room,j5,j6,j7,j8,j9,j10,j11]) (ir:=⟨cs.map .int,[]⟩) rfl rfl ⟨W,false,none,none,none,none,none,none,none,⋯,hg,λw hw=>hw,rfl⟩ ?_ ?_)
  ·rintro i c ρ hi ⟨W',b,j5,j6,j7,j8,j9,j10,j11,hw1,hw2,hw3,rfl⟩;have hil:i<cs.length:=(Zi.mp hi).1;have hc:=hcs c (ZT hi);refine⟨_,rfl,?_⟩;refine run_seq (QiV (a:=c) (b:=(m:Int)+1) rfl rfl (Qad (a:=(m:Int)) (b:=1) rfl rfl rfl rfl) rfl ⋯ ⋯ ?_);have a1:=ZI c (by omega:(m:Int)+1≠0);have a2:=ZG c (by omega:(0:Int)<(m:Int)+1);have a3:0<=c / ((m:Int)+1):=Zbb hc.1 ⋯;generalize c % ((m:Int)+1)=st at a1 a2;generalize c / ((m:Int)+1)=nb at a3;refine run_seq (QiV (a:=nb) (b:=m) rfl rfl rfl rfl ⋯ ⋯ ?_);have b1:=ZI nb (by omega:(m:Int)≠0);have b2:=ZG nb (by omega:(0:Int)<(m:Int));have b3:0<=nb / (m:Int):=Zbb a3 ⋯;generalize nb % (m:Int)=sp at b1 b2;generalize nb / (m:Int)=nc at b3;refine rsa (QiU (Qap (g:=gLt) (ra:=reI st) (rb:=reI m) rfl rfl rfl) (Qxa (QbA (a:=kind) (b:=2) rfl rfl rfl rfl) (QiU (QbA (a:=kind) (b:=3) rfl rfl rfl rfl) (QbA (a:=nc % 3) (b:=1) (QaZ (a:=nc) (b:=3) rfl rfl rfl rfl (by decide)) rfl rfl rfl)))) ?_;generalize eln:(decide (st<m) && (decide (kind=2) || (decide (kind=3) && decide (nc % 3=1))))=ln;have hln:ln=true->st<m:=λh=>by rw[← eln,Zg,decide_eq_true_eq]at h;exact h.1
   have gw:=QvL (m:=m) (a:=st) (s:=sp) (ln:=ln) a1 ⋯ b1 b2 hln;refine run_seq (Qz (r:=⟨QeF (st,(st+1+sp) % (m+1),ln),true,[]⟩) ?_ ?_)
   ·unfold QaP;refine(congrArg (λz=>Option.bind z _) (Qr rfl (Qr (QaZ (Qad (Qad rfl rfl rfl rfl) rfl rfl rfl) rfl (Qad rfl rfl rfl rfl) rfl ⋯) (Qr rfl (QK _))))).trans ?_;rfl
   rw[QaJ];generalize ewy:(st,(st+1+sp) % ((m:Int)+1),ln)=wy at gw;have elen:∀{ρ:En},ρ[0]? =some (some (Qab W',b))->dBf Qaa (Qa (Qh 0) Qe) ρ=some (reI W'.length):=λ{ρ} h=>by
    rw[Qc8 (QbB h) (by cases b<;>rfl),Zj]
   refine rsa (QaZ (QuB rfl rfl rfl rfl (by decide) (by decide)) rfl (Qad (elen rfl) rfl rfl rfl) rfl ⋯) ?_;obtain⟨at',eat⟩:∃n:Nat,nc / 3 % ((W'.length:Int)+1)=n:=⟨(nc / 3 % ((W'.length:Int)+1)).toNat,by have:=ZI (nc / 3) (by omega:(W'.length:Int)+1≠0);omega⟩;rw[eat];have gg:∀w∈W'++[wy],GoodW m w:=λw hw=>(ZH.mp hw).elim (hw2 w) (λh=>by rw[ZD.mp h];exact gw);obtain⟨bf,hbf⟩:=hf m (W'++[wy]) room hm (by simp;omega) gg;have eadd:=Qmu (B:=[wy]) (fa:=Qh 0) (fb:=Qao (Qa (Qh 10) Qe)) (ρ:=[some (Qab W',b),slF (QA cs),slI m,slI kind,slI room,slI c,slI nc,slI st,slI sp,slT (.bl ln),some (QeF wy,true),slI at']) (QbB rfl) (by cases b<;>rfl) rfl rfl (by simp;omega);have esl:=Qy5 (fa:=Qh 0) (fb:=Qh 11) (ρ:=[some (Qab W',b),slF (QA cs),slI m,slI kind,slI room,slI c,slI nc,slI st,slI sp,slT (.bl ln),some (QeF wy,true),slI at']) (QbB rfl) (by cases b<;>rfl) rfl rfl;refine run_seq (QQ (Qav (Qym (Qw (Qb4 rfl rfl rfl rfl) rfl) (Qw (Qb4 rfl rfl rfl rfl) rfl)) (Qw (Qk (Qr rfl (Qr eadd (Qr rfl (QK _)))) hbf rfl) rfl)) (λ_=>?_) (λ_=>Qt (Qt ⟨W',b,_,_,_,_,_,_,_,⋯,hw2,hw3,rfl⟩)));refine run_seq (Qz (Qmu (A:=W'.take at'++[wy]) (Qmu esl.1 rfl rfl rfl (by simp;omega)) rfl esl.2 rfl (by simp;omega)) (Qt ?_));rw[QaJ];have meq:∀w,w∈W'.take at'++[wy]++W'.drop at'↔w=wy∨w∈W':=λw=>by
    rw[Zbc];exact Qkm
   refine Qt ⟨W'.take at'++[wy]++W'.drop at',true,_,_,_,_,_,_,_,by simp;omega,λw hw=>?_,λw hw=>(meq w).mpr (.inr (hw3 w hw)),rfl⟩;rcases(meq w).mp hw with rfl | h
   ·exact gw
   ·exact hw2 w h
  ·rintro ρ ⟨W',b,j5,j6,j7,j8,j9,j10,j11,hw1,hw2,hw3,rfl⟩;exact Qv (QbB rfl) ⟨W',by cases b<;>rfl,hw1,hw2,hw3⟩
 obtain⟨o,h1,h2⟩:=key;cases o with
 | rt d fr=>
  obtain⟨W',rfl,h3,h4,h5⟩:=h2;exact⟨W',fr,by unfold Qq;rw[h1];rfl,h3,h4,h5⟩
 | _=>exact h2.elim
noncomputable def Qi(m:Nat)(g:Mt1):Int:=((List.range m).map g).sum
theorem Qai(m:Nat)(g:Mt1):Qi (m+1) g=Qi m g+g m:=by
 unfold Qi;rw[List.range_succ,ZaO,ZbU];simp
theorem Qg(h:∀i,i<m->f i=g i):Qi m f=Qi m g:=by
 unfold Qi;rw[ZF λi hi=>h i (Ze.mp hi)]
theorem Qat(m:Nat)(f g:Mt1):Qi m (λi=>f i+g i)=Qi m f+Qi m g:=by
 induction m with
 | zero=>rfl
 | succ m ih=>rw[Qai,Qai,Qai,ih];omega
theorem Qbu(m:Nat)(f:Mt1):Qi m (λi=> -f i)= -Qi m f:=by
 induction m with
 | zero=>rfl
 | succ m ih=>rw[Qai,Qai,ih];omega
theorem Qaz(m:Nat):Qi m (λ_=>0)=0:=by
 induction m with
 | zero=>rfl
 | succ m ih=>rw[Qai,ih];rfl
theorem QP(m:Nat)(c:Int)(f:Mt1):Qi m (λi=>c*f i)=c*Qi m f:=by
 induction m with
 | zero=>simp[Qi]
 | succ m ih=>rw[Qai,Qai,ih,ZaB]
theorem Qbn(m n:Nat)(f:Mt2):Qi m (λi=>Qi n λj=>f i j)=Qi n λj=>Qi m λi=>f i j:=by
 induction m with
 | zero=>show 0=Qi n λj=>0;rw[Qaz]
 | succ m ih=>
  rw[Qai,ih,← Qat];exact Qg λj _=>by rw[Qai]
theorem QaF(hp:p<m)(v:Int)(f:Mt1):Qi m (λi=>(if i=p then v else 0)*f i)=v*f p:=by
 induction m with
 | zero=>omega
 | succ m ih=>
  rw[Qai];by_cases h:p=m
  ·subst h;rw[if_pos rfl,Qg (g:=λ_=>0) λi hi=>by rw[if_neg ⋯];simp,Qaz];simp
  ·rw[ih ⋯,if_neg (λz=>h z.symm)];simp
noncomputable def Qf(m:Nat)(T:Mt2)(f c:Mt1):Nat->Int:=λj=>f j+Qi m λi=>c i*T i j
theorem Qcr(h:∀i,i<m->f i=g i):Qb m f=Qb m g:=by
 unfold Qb;congr 1;refine ZF λi hi=>?_;rw[h i (Ze.mp hi)]
noncomputable def Qhj:DS:=(Qd (Qa7 (Q2 vv1) (.nm 2) (Qd (sIf (QD (dOp gNe (dBf Qaa (Qa vv2 Qe)) (Qn vv0 kk0))) (Qd Qy Qo) Qo) Qo)) Qo)
def QgI(d:Den):Prop:=∀(m:Nat) (R L:Lpp) (fs:List (Nat->Int)),d [QC m R L,.lst (fs.map λf=>Qb m f)]=some (.non,true)
theorem Qyw:QgI (Qq 3 Qhj):=λm R L fs=>by
 have key:Run Qhj (QaQ 3 [QC m R L,.lst (fs.map λf=>Qb m f)]) (Nx λ_=>True):=by
  refine run_seq (Qah (toD:=λf=>Qb m f) fs (λ_ ρ=>∃j2,ρ=[slF (QC m R L),slF (.lst (fs.map λf=>Qb m f)),j2]) (ir:=⟨fs.map λf=>Qb m f,[]⟩) rfl rfl ⟨none,rfl⟩ ?_ ?_)
  ·rintro i f ρ _ ⟨j2,rfl⟩;refine⟨_,rfl,?_⟩;refine run_seq (QQ (b:=false) (Qw (Qb4 (Qc8 (xs:=(List.range m).map λi=> .int (f i)) (r:=reF (Qb m f)) rfl rfl) rfl (QeL (m:=m) (R:=R) (L:=L) (r:=reF (QC m R L)) rfl rfl).1 rfl) (by simp)) (λh=>by cases h) (λ_=>Qt (Qt ⟨_,rfl⟩)))
  ·rintro ρ ⟨j2,rfl⟩;exact Qt trivial
 obtain⟨o,h1,h2⟩:=key;unfold Qq;rw[h1];cases o with
 | nx ρ=>rfl
 | _=>exact h2.elim
noncomputable def Qrk(Q3:Den)(Q9:Den):DS:=(Qd (Qdp (Qm 2 Q3 [] (Qa vv0 (Qa (Qao (Qa vv1 (Qa vv2 Qe))) Qe)))) (Qd (Qs 3 (dList (Qa vv1 Qe))) (Qd (Qa7 (Qak (Qm 1 Q9 [] (Qa vv0 Qe)) vv2) (.tp [4,5]) (Qd (Qs 3 (QG (Qak vv3 vv4) (.tp [1,2]) [none,none,none,some 5] QO (QS vv1 (Q7 vv3 vv2)))) Qo)) (Qd (QH vv3) Qo))))
theorem Qde(h:fa ρ=some r)(q:Q (.nx ρ)):Run (Qdp fa) ρ Q:=⟨_,by simp[Qdp,h],q⟩
theorem QsP(f g:Nat->D):QiZ ((List.range m).map f) ((List.range m).map g)=(List.range m).map λi=> .tup [f i,g i]:=by
 generalize List.range m=l
 induction l with
 | nil=>rfl
 | cons n ns ih=>unfold QiZ at ih ⊢;simp only[ZM,List.zip_cons_cons,ih]
theorem Qf5(h:fs ρ=some rs)(e:rs.ds=[Qb m f]):dList fs ρ=some (reT (Qb m f)):=by
 unfold dList;rw[h,Za,e];simp[Qb,Qbq]
theorem Qac(ha:fa ρ=some ra)(ea:ra.d= .lst ((List.range m).map f))(hb:fb ρ=some rb)(eb:rb.d= .lst ((List.range m).map g)):Qak fa fb ρ=some ⟨(List.range m).map λi=> .tup [f i,g i],ra.M++rb.M⟩:=by
 unfold Qak;rw[ha,Za,hb,Za,ea,eb];simp only[QsP]
theorem Qx1(i j:Nat)(s:Int×Int):(hit i j s).natAbs<=1:=by unfold hit;split<;>split<;>decide
theorem Qe3(i j:Nat):∀S:List (Int×Int),((S.map (hit i j)).sum).natAbs<=S.length
 | []=>by simp
 | s::S=>by
  have:=Qe3 i j S;have:=Qx1 i j s;rw[ZM,ZaL,ZJ];omega
def QmU(d:Den):Prop:=∀(m:Nat) (R L:Lpp) (f c:Mt1),m<=1000->R.length+R.length+L.length<=1000000->(∀s∈R,Good m s)->(∀s∈L,Good m s)->d [QC m R L,Qb m f,Qb m c]=some (Qb m (Qf m (Qp m (Ql R L)) f c),true)
theorem QwA(hn:QgI dn)(ht:Qgt dt):QmU (Qq 6 (Qrk dn dt)):=λm R L f c hm hl hR hL=>by
 have gS:=QcB hR hL;have tb:∀i j,i<m->j<m->(Qp m (Ql R L) i j).natAbs<2^64:=λi j hi hj=>by
  rw[QcH hi hj λs hs=>⟨(gS s hs).1,(gS s hs).2.1⟩];have:=Qe3 i j (Ql R L);have:(Ql R L).length<=1000000:=by unfold Ql;simp;omega
  omega
 refine QN ?_;refine run_seq (Qde (Qk (r:=⟨[QC m R L,.lst [Qb m f,Qb m c]],false,[]⟩) rfl (hn m R L [f,c]) rfl) ?_);refine rsa (Qf5 (m:=m) (f:=f) (rs:=⟨[Qb m f],false,[]⟩) rfl rfl) ?_;refine QaW (P:=λρ=>∃j4 j5,ρ=[slF (QC m R L),slF (Qb m f),slF (Qb m c),slT (Qb m (Qf m (Qp m (Ql R L)) f c)),j4,j5]) ?_ ?_
 ·refine Qah (toD:=λ(i:Nat)=> .tup [Qb m (Qp m (Ql R L) i),.int (c i)]) (List.range m) (λk ρ=>∃j4 j5,ρ=[slF (QC m R L),slF (Qb m f),slF (Qb m c),slT (Qb m (λj=>f j+Qi k λi=>c i*Qp m (Ql R L) i j)),j4,j5]) (Qac (Qk (r:=⟨[QC m R L],false,[]⟩) rfl (ht m R L hm hl hR hL) rfl) rfl (rb:=reF (Qb m c)) rfl rfl) rfl ⟨none,none,?_⟩ ?_ ?_
  ·show [slF (QC m R L),slF (Qb m f),slF (Qb m c),slT (Qb m f),none,none]=_;have:Qb m f=Qb m λj=>f j+Qi 0 λi=>c i*Qp m (Ql R L) i j:=Qcr λi _=>by show f i=f i+0;omega
   rw[← this]
  ·rintro k k' ρ hk ⟨j4,j5,rfl⟩;obtain⟨hkm,rfl⟩:=QbF hk;refine⟨_,rfl,?_⟩;refine run_seq (Qz (r:=reT (Qb m (λj=>f j+Qi (k+1) λi=>c i*Qp m (Ql R L) i j))) ?_ (Qt ⟨_,_,by rw[QaJ];rfl⟩))
   have e:=QB (fi:=Qak (Qh 3) (Qh 4)) (t:= .tp [1,2]) (cap:=[none,none,none,some 5]) (fe:=QS (Qh 1) (Q7 (Qh 3) (Qh 2))) (ρ:=[slF (QC m R L),slF (Qb m f),slF (Qb m c),slT (Qb m (λj=>f j+Qi k λi=>c i*Qp m (Ql R L) i j)),slF (Qb m (Qp m (Ql R L) k)),slI (c k)])
    (toD:=λ(j:Nat)=> .tup [.int (f j+Qi k λi=>c i*Qp m (Ql R L) i j),.int (Qp m (Ql R L) k j)]) (out:=λ(j:Nat)=> .int (f j+(Qi k λi=>c i*Qp m (Ql R L) i j)+c k*Qp m (Ql R L) k j)) (List.range m) (Qac (ra:=⟨Qb m (λj=>f j+Qi k λi=>c i*Qp m (Ql R L) i j),true,[3]⟩) (rb:=reF (Qb m (Qp m (Ql R L) k))) rfl rfl rfl rfl) rfl λj hj=>by
     have hj:=Ze.mp hj;exact⟨[none,slI (f j+Qi k λi=>c i*Qp m (Ql R L) i j),slI (Qp m (Ql R L) k j),slI (c k)],rfl,_,Qad (a:=f j+Qi k λi=>c i*Qp m (Ql R L) i j) rfl rfl (Qan (a:=c k) (b:=Qp m (Ql R L) k j) rfl rfl rfl rfl (QcW (tb k j hkm hj))) rfl,rfl,rfl⟩
   refine e.trans ?_;congr 2;show D.lst _=D.lst _;congr 1;refine ZF λj _=>?_;show _=D.int (f j+Qi (k+1) λi=>c i*Qp m (Ql R L) i j);rw[Qai,Zcv]
  ·rintro ρ ⟨j4,j5,rfl⟩;rw[Zt];exact⟨j4,j5,rfl⟩
 rintro ρ ⟨j4,j5,rfl⟩;exact Qv (r:=⟨Qb m (Qf m (Qp m (Ql R L)) f c),true,[3]⟩) rfl ⟨rfl,rfl⟩
theorem QrC{a b:Nat}(ha:fa ρ=some ra)(ea:ra.d=QA cs)(hl:fl ρ=some rl)(el:rl.d= .int a)(hh:fh ρ=some rh)(eh:rh.d= .int b):QbJ fa (QaI fl) (QaI fh) ρ=some (reT (QA ((cs.drop (min a cs.length)).take (min b cs.length-min a cs.length)))):=by
 unfold QbJ QaI;simp only[ha,hl,hh,Za,ea,el,eh,QA,cutD,Zj,HT.QhK,← Zcd,← Zbm,Qbq,Qiq,if_true]
theorem Qq4{cs:List Int}{a b:Nat}{c:Int}(h:c∈(cs.drop a).take b):c∈cs:=List.mem_of_mem_drop (List.mem_of_mem_take h)
structure Qa5 (m:Nat) (R L:Lpp):Prop where
 ex:∃W,Esc m W/\(∀w∈W,GoodW m w)/\W.length<=200/\R=QcU W/\L=QdD W
theorem Qa5.good{m:Nat}{R L:Lpp}(h:Qa5 m R L):(∀s∈R,Good m s)/\(∀s∈L,Good m s)/\R.length<=200/\L.length<=200/\(∀s∈R,s.1<s.2)/\∀s∈L,s.1<m:=by
 obtain⟨W,_,h2,h3,rfl,rfl⟩:=h.ex;exact⟨λs hs=>(Qlz h2 s hs).1,λs hs=>(Ql6 h2 s hs).1,Zp (QtP W) h3,Zp (Que W) h3,λs hs=>(Qlz h2 s hs).2,λs hs=>(Ql6 h2 s hs).2⟩
theorem Qn0{α:Type}(m:Nat)(g:Nat->α->Int):∀S:List α,Qi m (λj=>(S.map (g j)).sum)=(S.map λs=>Qi m λj=>g j s).sum
 | []=>by simp[Qaz]
 | s::S=>by
  simp only[ZM,ZaL];rw[Qat,Qn0 m g S]
theorem QrI{α:Type}(c:Int)(f:α->Int):∀S:List α,c*(S.map f).sum=(S.map λs=>c*f s).sum
 | []=>by simp
 | s::S=>by simp only[ZM,ZaL,ZaB,QrI c f S]
theorem QvB:Qb m (Qf m T f λ_=>0)=Qb m f:=Qcr λj _=>by
 unfold Qf;rw[Qg (g:=λ_=>0) λi _=>by simp,Qaz];omega
theorem Qri(h:fa ρ=some r)(e:r.d=Qb m f):dBf QfF (Qa fa Qe) ρ=some (reI (Qi m f)):=by
 unfold dBf;rw[Qr h (QK _),Za];have:Qb m f= .lst (((List.range m).map f).map .int):=by unfold Qb;rw[Zaj];rfl
 simp only[e,this,QfF,Qii,ZX];rfl
theorem QeP(ha:fa ρ=some ra)(ea:ra.d=d)(hb:fb ρ=some rb)(eb:rb.d=d)(hs:d.sim 8=true):dOp gEq fa fb ρ=some (reT (.bl true)):=by
 refine Qap ha hb ?_;rw[ea,eb];unfold gEq;rw[hs,Qqs hs];rfl
structure TP (m:Nat) (T:Mt2):Prop where
 neg:∀p,p<m->T p p<0
 pos:∀i j,i<m->j<m->i≠j->0<=T i j
 bnd:∀i j,i<m->j<m->(T i j).natAbs<2^64
 wt:∃w:Nat->Int,(∀j,0<=w j)/\∀i,i<m->Qi m (λj=>T i j*w j)<= -1
inductive Leg (m:Nat) (T:Mt2) (f:Mt1):(Nat->Int)->Prop where
 | nil:Leg m T f λ_=>0
 | step {c:Mt1}{p:Nat}{t:Int}:Leg m T f c->p<m->0<=t->t*(0-T p p)<=Qf m T f c p->Leg m T f (up c p (c p+t))
def Stb(m:Nat)(T:Mt2)(g:Mt1):Prop:=∀p,p<m->g p<0-T p p
theorem Qhu(hp:p<m)(j:Nat):Qf m T f (up c p (c p+v)) j=Qf m T f c j+v*T p j:=by
 unfold Qf;have e2:(λi=>up c p (c p+v) i*T i j)=λi=>c i*T i j+(if i=p then v else 0)*T i j:=by
  funext i;unfold up;by_cases h:i=p
  ·subst h;simp only[if_true];rw[ZQ]
  ·simp[h]
 rw[e2,Qat,QaF hp];omega
theorem Leg.nonneg(h:Leg m T f c):∀i,0<=c i:=by
 induction h with
 | nil=>intro i;exact Zbp _
 | step _ _ ht _ ih=>
  intro i;unfold up;split
  ·have:=ih ‹Nat›;rename_i p _ _ _ _ _;have:=ih p;omega
  ·exact ih i
theorem QeV(h:∀i,i<m->f i<=g i):Qi m f<=Qi m g:=by
 induction m with
 | zero=>exact Zbp _
 | succ m ih=>
  rw[Qai,Qai];have:=ih λi hi=>h i ⋯;have:=h m ⋯;omega
theorem Leg.least(tp:TP m T)(h:Leg m T f c)(h0:∀i,i<m->0<=c' i)(hs:Stb m T (Qf m T f c')):∀i,i<m->c i<=c' i:=by
 induction h with
 | nil=>exact h0
 | @step c p t _ hp ht hle ih=>
  intro i hi;unfold up;split
  ·rename_i e;subst e;have key:Qf m T f c i+(c' i-c i)*T i i<=Qf m T f c' i:=by
    unfold Qf;have e1:Qi m (λk=>c k*T k i)+(c' i-c i)*T i i=Qi m (λk=>c k*T k i+(if k=i then c' i-c i else 0)*T k i):=by rw[Qat,QaF hi]
    have e2:Qi m (λk=>c k*T k i+(if k=i then c' i-c i else 0)*T k i)<=Qi m (λk=>c' k*T k i):=by
     refine QeV λk hk=>?_;by_cases hki:k=i
     ·subst hki;rw[if_pos rfl,← ZQ];rw[show c k+(c' k-c k)=c' k by omega];exact Zbp _
     ·rw[if_neg hki,ZA,Zbt];exact Zan (ih k hk) (tp.pos k i hk hi hki)
    omega
   have h1:=hs i hi;have h2:=tp.neg i hi;by_cases hlt:c i+t<=c' i
   ·exact hlt
   ·exfalso;have h3:(c' i-c i+1)<=t:= ⋯
    have h4:(c' i-c i+1)*(0-T i i)<=t*(0-T i i):=Zan h3 ⋯;have h5:(c' i-c i+1)*(0-T i i)=(0-T i i)-(c' i-c i)*T i i:=by rw[ZQ,ZR,ZbP,ZC];omega
    omega
  ·exact ih i hi
theorem Leg.unique(tp:TP m T)(hc:Leg m T f c)(hd:Leg m T f d)(sc:Stb m T (Qf m T f c))(sd:Stb m T (Qf m T f d)):∀i,i<m->c i=d i:=λi hi=>by
 have h1:=hc.least tp (λi _=>hd.nonneg i) sd i hi;have h2:=hd.least tp (λi _=>hc.nonneg i) sc i hi;omega
theorem QrG{m:Nat}{T:Mt2}{f c b:Mt1}(j:Nat):Qf m T (λi=>2*f i+b i) (λi=>2*c i) j=2*Qf m T f c j+b j:=by
 unfold Qf;have e:(λi=>2*c i*T i j)=λi=>2*(c i*T i j):=by funext i;rw[Zq]
 rw[e,QP];show 2*f j+b j+2*_=2*(f j+_)+b j;omega
theorem QaN(j:Nat)(h1:f j=g j)(h2:∀i,i<m->c i=d i):Qf m T f c j=Qf m T g d j:=by
 unfold Qf;rw[h1,Qg λi hi=>by rw[h2 i hi]]
theorem Leg.QAd(h:Leg m T f c)(b:Mt1)(hb:∀i,0<=b i):∃d,Leg m T (λi=>2*f i+b i) d/\∀i,d i=2*c i:=by
 induction h with
 | nil=>exact⟨_,.nil,λi=>by simp⟩
 | @step c p t _ hp ht hle ih=>
  obtain⟨d,hd,e⟩:=ih;have ed:d=λi=>2*c i:=funext e;subst ed;refine⟨_,.step (t:=2*t) hd hp ⋯ ?_,λi=>?_⟩
  ·rw[QrG];have:=hb p;have e2:2*t*(0-T p p)=2*(t*(0-T p p)):=by rw[Zq]
   omega
  ·show up (λi=>2*c i) p (2*c p+2*t) i=2*up c p (c p+t) i;unfold up;split
   ·omega
   ·rfl
theorem Leg.cast(h:Leg m T f c)(e:∀i,c i=d i):Leg m T f d:=by
 have:c=d:=funext e;rw[← this];exact h
theorem Leg.QoA(h:Leg m T f c)(e:∀i,i<m->f i=g i):Leg m T g c:=by
 induction h with
 | nil=>exact .nil
 | @step c p t _ hp ht hle ih=>exact .step ih hp ht (by rw[← QaN p (e p hp) (λ_ _=>rfl)];exact hle)
noncomputable def wtF(m:Nat)(w g:Mt1):Int:=Qi m λj=>g j*w j
theorem Qxk(hw:∀i,i<m->Qi m (λj=>T i j*w j)<= -1)(hp:p<m)(ht:0<=t):wtF m w (Qf m T f (up c p (c p+t)))<=wtF m w (Qf m T f c)-t:=by
 unfold wtF;have e:(λj=>Qf m T f (up c p (c p+t)) j*w j)=λj=>Qf m T f c j*w j+t*(T p j*w j):=by
  funext j;rw[Qhu hp,ZQ,Zq]
 rw[e,Qat,QP];have h1:t*Qi m (λj=>T p j*w j)<=t*(-1):=ZZ (hw p hp) ht;omega
theorem Qnt(hw:∀j,0<=w j)(hg:∀j,j<m->0<=g j):0<=wtF m w g:=by
 have:=QeV λi hi=>ZaD (hg i hi) (hw i);rw[Qaz]at this;exact this
theorem Qfe(I:Nat->En->Prop)(step:∀n ρ,I n ρ->∃b,g ρ=some b/\(b=false->Q (.nx ρ))/\(b=true->Run fb ρ λo=>match o with | .nx ρ2=>∃n',n'<n/\I n' ρ2 | .ct ρ2=>∃n',n'<n/\I n' ρ2 | .bk ρ2=>Q (.nx ρ2) | .rt d fr=>Q (.rt d fr))):
  ∀(n:Nat) (ρ:En),I n ρ->Run (Qca g fb) ρ Q:=by
 intro n
 induction n using Nat.strongRecOn with
 | _ n ih=>
  intro ρ h;obtain⟨b,hb,hf,ht⟩:=step n ρ h;unfold Run;rw[Qtv,hb,Za];cases b with
  | false=>exact⟨_,by simp,hf rfl⟩
  | true=>
   obtain⟨o,ho,hq⟩:=ht rfl;rw[if_pos rfl,ho,Za];cases o with
   | nx ρ2=>obtain⟨n',hn,hI⟩:=hq;exact ih n' hn ρ2 hI
   | ct ρ2=>obtain⟨n',hn,hI⟩:=hq;exact ih n' hn ρ2 hI
   | bk ρ2=>exact⟨_,rfl,hq⟩
   | rt d fr=>exact⟨_,rfl,hq⟩
theorem Qq6(ha:fa ρ=some ra)(ea:ra.d= .int a)(hb:fb ρ=some rb)(eb:rb.d= .int b)(h:0<b)(h2:b<2^200):dOp Qco fa fb ρ=some (reI (a / b)):=by
 refine Qap ha hb ?_;rw[ea,eb];show(if QbH b=true then some (D.int (Qdb a b))else none)=_;rw[if_pos (QnR h h2),Qid _ _ ⋯]
theorem Qae{i:Nat}(ha:fa ρ=some ra)(ea:ra.d=Qb m f)(hb:fb ρ=some rb)(eb:rb.d= .int i)(h:i<m):Qn fa fb ρ=some (reI (f i)):=by
 have:=QmQ ha ea hb eb ⋯ ⋯;rw[Zab]at this;exact this
noncomputable def Qjd:DS:=(Qd (Qs 3 (dList (Qa vv1 Qe))) (Qd (Qs 4 (dList (Qa vv2 Qe))) (Qd (Qs 5 (dC (.bl true))) (Qd (Qca (QD vv5) (Qd (Qs 5 (dC (.bl false))) (Qd (Qa7 (Qct vv0) (.tp [6,7]) (Qd (Qs 8 (dOp Qco (Qn vv3 vv6) (dOp QaG kk0 (Qn vv7 vv6)))) (Qd (sIf (QD (dOp gGt vv8 kk0)) (Qd (Qs 5 (dC (.bl true))) (Qd (Qej (gI λi j=>some (.int (i+j))) 4 Qaf vv6 vv8) (Qd (Qs 3 (QG (Qak vv3 vv7) (.tp [1,2]) [none,none,none,some 8] QO (QS vv1 (Q7 vv3 vv2)))) Qo))) Qo) Qo))) Qo))) (Qd (QH (QaP (Qa vv3 (Qa vv4 Qe)))) Qo)))))
def Qi7(d:Den):Prop:=∀(m:Nat) (T:Mt2) (f k:Mt1),m<=1000->TP m T->Leg m T f k->(∀j,j<m->0<=Qf m T f k j)->∃k',d [Qc m m T,Qb m (Qf m T f k),Qb m k]=some (.tup [Qb m (Qf m T f k'),Qb m k'],true)/\Leg m T f k'/\(∀j,j<m->0<=Qf m T f k' j)/\Stb m T (Qf m T f k')
theorem Qlt{h s:Int}(hs:0<s)(ht:¬0<h / s)(h0:0<=h):h<s:=by
 have:=Zbb h0 (by omega:0<=s);have e:h / s=0:= ⋯
 have:=ZG h hs;have:=ZaX h s;rw[e]at this;omega
theorem Ql4{h s:Int}(hs:0<s):h / s*s<=h:=Int.ediv_mul_le h ⋯
theorem QsO:Qi7 (Qq 9 Qjd):=λm T f k hm tp hk hpos=>by
 obtain⟨w,hw0,hw⟩:=tp.wt;have key:Run Qjd (QaQ 9 [Qc m m T,Qb m (Qf m T f k),Qb m k]) (Rt λd fr=>∃k',d= .tup [Qb m (Qf m T f k'),Qb m k']/\fr=true/\Leg m T f k'/\(∀j,j<m->0<=Qf m T f k' j)/\Stb m T (Qf m T f k')):=by
  refine rsa (Qf5 (m:=m) (f:=Qf m T f k) (rs:=⟨[Qb m (Qf m T f k)],false,[]⟩) rfl rfl) ?_;refine rsa (Qf5 (m:=m) (f:=k) (rs:=⟨[Qb m k],false,[]⟩) rfl rfl) ?_;refine rsa (d:= .bl true) rfl ?_;refine run_seq (Run.mono (Q:=Nx λρ=>∃k' j5 j6 j7 j8,Leg m T f k'/\(∀j,j<m->0<=Qf m T f k' j)/\Stb m T (Qf m T f k')/\ρ=[slF (Qc m m T),slF (Qb m (Qf m T f k)),slF (Qb m k),slT (Qb m (Qf m T f k')),slT (Qb m k'),j5,j6,j7,j8]) ?_ ?_)
  ·refine Qfe (λn ρ=>∃k' bz j6 j7 j8,Leg m T f k'/\(∀j,j<m->0<=Qf m T f k' j)/\(bz=false->Stb m T (Qf m T f k'))/\n=(wtF m w (Qf m T f k')).toNat+(if bz=true then 1 else 0)/\ρ=[slF (Qc m m T),slF (Qb m (Qf m T f k)),slF (Qb m k),slT (Qb m (Qf m T f k')),slT (Qb m k'),slT (.bl bz),j6,j7,j8]) ?_ _ _ ⟨k,true,none,none,none,hk,hpos,λh=>by(cases h),rfl,rfl⟩;rintro n ρ ⟨k',bz,j6,j7,j8,hL,hP,hS,rfl,rfl⟩;refine⟨bz,Qw (b:=bz) rfl rfl,λh=>⟨k',_,_,_,_,hL,hP,hS h,rfl⟩,λhb=>?_⟩;subst hb;refine rsa (d:= .bl false) rfl ?_;refine Qx (Run.mono (Q:=Nx λρ=>∃k2 b2 j6 j7 j8,Leg m T f k2/\(∀j,j<m->0<=Qf m T f k2 j)/\(b2=false->Stb m T (Qf m T f k2))/\(wtF m w (Qf m T f k2)+(if b2=true then 1 else 0)<=wtF m w (Qf m T f k'))/\ρ=[slF (Qc m m T),slF (Qb m (Qf m T f k)),slF (Qb m k),slT (Qb m (Qf m T f k2)),slT (Qb m k2),slT (.bl b2),j6,j7,j8]) ?_ ?_)
   ·refine Qah (toD:=λ(p:Nat)=> .tup [.int p,Qb m (T p)]) (List.range m) (λi ρ=>∃k2 b2 j6 j7 j8,Leg m T f k2/\(∀j,j<m->0<=Qf m T f k2 j)/\(b2=false->∀p,p<i->Qf m T f k2 p<0-T p p)/\(wtF m w (Qf m T f k2)+(if b2=true then 1 else 0)<=wtF m w (Qf m T f k'))/\ρ=[slF (Qc m m T),slF (Qb m (Qf m T f k)),slF (Qb m k),slT (Qb m (Qf m T f k2)),slT (Qb m k2),slT (.bl b2),j6,j7,j8]) rfl (Qiz (α:=Nat) m _) ⟨k',false,_,_,_,hL,hP,λ_ p hp=>absurd hp ⋯,by simp,rfl⟩ ?_ ?_
    ·rintro i p ρ hi ⟨k2,b2,j6,j7,j8,hL2,hP2,hS2,hW2,rfl⟩;have hp':i<m/\i=p:=by
      obtain⟨h1,h2⟩:=Zi.mp hi;simp at h1 h2;exact⟨h1,h2⟩
     obtain⟨him,rfl⟩:=hp';have hneg:=tp.neg i him;have hb:=tp.bnd i i him him;have h0:=hP2 i him;refine⟨_,rfl,?_⟩;refine rsa (Qq6 (Qae rfl rfl rfl rfl him) rfl (Qap rfl (Qae rfl rfl rfl rfl him) rfl) rfl ⋯ ⋯) ?_;generalize et:Qf m T f k2 i / (0-T i i)=t;have t0:0<=t:=by rw[← et];exact Zbb h0 ⋯
     refine Qx (QQ (Qw rfl rfl) (λh=>?_) (λh=>?_))
     ·have h:=of_decide_eq_true h;have hle:t*(0-T i i)<=Qf m T f k2 i:=by rw[← et];exact Ql4 ⋯
      refine rsa rfl ?_;refine run_seq (Qvx rfl rfl rfl rfl ⋯ ⋯ rfl ?_);rw[Zab];refine run_seq (Qz (r:=reT (Qb m (Qf m T f (up k2 i (k2 i+t))))) ?_ (Qt (Qt ?_)))
      ·have e:=QB (fi:=Qak (Qh 3) (Qh 7)) (t:= .tp [1,2]) (cap:=[none,none,none,some 8]) (fe:=QS (Qh 1) (Q7 (Qh 3) (Qh 2))) (ρ:=[slF (Qc m m T),slF (Qb m (Qf m T f k)),slF (Qb m k),slT (Qb m (Qf m T f k2)),slT (Qb m (up k2 i (k2 i+t))),slT (.bl true),slI i,slF (Qb m (T i)),slI t])
        (List.range m) (Qac rfl rfl rfl rfl) rfl λj hj=>by
         have hj:=Ze.mp hj;exact⟨[none,slI (Qf m T f k2 j),slI (T i j),slI t],rfl,_,Qad rfl rfl (Qan rfl rfl rfl rfl (QcW (tp.bnd i j him hj))) rfl,rfl,rfl⟩
       refine e.trans ?_;congr 2;show D.lst _=D.lst _;congr 1;refine ZF λj _=>?_;rw[Qhu him]
      ·rw[QaJ];have hup:=Qxk hw (f:=f) (c:=k2) him t0;refine⟨up k2 i (k2 i+t),true,_,_,_,.step hL2 him t0 hle,λj hj=>?_,λz=>(by cases z),?_,rfl⟩
       ·rw[Qhu him];by_cases hji:j=i
        ·subst hji;have:t*T j j= -(t*(0-T j j)):=by rw[ZY,Zac,Zbh]
         omega
        ·have:=hP2 j hj;have:=ZaD t0 (tp.pos i j him hj (λz=>hji z.symm));omega
       ·rw[if_pos rfl];have:(0:Int)<=if b2=true then 1 else 0:=by split<;>omega
        omega
     ·have h:=of_decide_eq_false h;refine Qt (Qt ⟨k2,b2,_,_,_,hL2,hP2,λhb2 p hp=>?_,hW2,rfl⟩);by_cases hpi:p=i
      ·subst hpi;exact Qlt ⋯ (by rw[et];exact h) h0
      ·exact hS2 hb2 p ⋯
    ·rintro ρ ⟨k2,b2,j6,j7,j8,hL2,hP2,hS2,hW2,rfl⟩;rw[Zt]at hS2;exact⟨k2,b2,_,_,_,hL2,hP2,hS2,hW2,rfl⟩
   ·intro o ho;cases o with
    | nx ρ=>
     obtain⟨k2,b2,j6,j7,j8,hL2,hP2,hS2,hW2,rfl⟩:=ho;refine Qt ⟨_,?_,k2,b2,_,_,_,hL2,hP2,hS2,rfl,rfl⟩;have n1:=Qnt hw0 hP2;rw[if_pos rfl];cases b2<;>simp at hW2 ⊢ <;>omega
    | _=>exact ho.elim
  ·intro o ho;cases o with
   | nx ρ=>
    obtain⟨k',j5,j6,j7,j8,hL,hP,hS,rfl⟩:=ho;exact Qv rfl ⟨k',rfl,rfl,hL,hP,hS⟩
   | _=>exact ho.elim
 obtain⟨o,h1,h2⟩:=key;cases o with
 | rt d fr=>
  obtain⟨k',rfl,rfl,h3,h4,h5⟩:=h2;exact⟨k',by unfold Qq;rw[h1];rfl,h3,h4,h5⟩
 | _=>exact h2.elim
def QsC(m:Nat)(S:Lpp):Prop:=∀A:Nat->Prop,(∃p,p<m/\A p)->∃s∈S,s.1<m/\A s.1.toNat/\(s.2=m∨¬A s.2.toNat)
theorem Qur(h:Esc m W):QsC m (Ql (QcU W) (QdD W)):=λA hA=>by
 obtain⟨w,hw,h1,h2,h3⟩:=h A hA;refine⟨(w.1,w.2.1),?_,h1,h2,h3⟩;unfold Ql;cases e:w.2.2 with
 | true=>exact Zf _ (ZN.mpr ⟨w,ZaE.mpr ⟨hw,e⟩,rfl⟩)
 | false=>
  have hr:QeE w∈QcU W:=ZN.mpr ⟨w,ZaE.mpr ⟨hw,by simp[e]⟩,rfl⟩;by_cases hlt:w.2.1<w.1
  ·refine Zl _ (Zf _ (ZN.mpr ⟨QeE w,hr,?_⟩));unfold QeE;rw[if_pos hlt,if_neg ⋯];rfl
  ·refine Zl _ (Zl _ ?_);have:QeE w=(w.1,w.2.1):=by
    unfold QeE;rw[if_neg hlt];by_cases hgt:w.2.1>w.1
    ·rw[if_pos hgt]
    ·rw[if_neg hgt];rw[show w.2.1=w.1 by omega]
   rw[← this];exact hr
inductive Rk (m:Nat) (S:Lpp):Nat->Nat->Prop where
 | pit {s:Int×Int}{n:Nat}:s∈S->s.2=m->Rk m S (n+1) s.1.toNat
 | step {s:Int×Int}{k n:Nat}:s∈S->s.2≠m->Rk m S k s.2.toNat->k<n->Rk m S n s.1.toNat
theorem QvF{P:Nat->Prop}(h:∃n,P n):∃n,P n/\∀k,k<n->¬P k:=by
 obtain⟨n,hn⟩:=h
 induction n using Nat.strongRecOn with
 | _ n ih=>
  by_cases h:∃k,k<n/\P k
  ·obtain⟨k,hk,h⟩:=h;exact ih k hk h
  ·exact⟨n,hn,λk hk hx=>h ⟨k,hk,hx⟩⟩
theorem QCc(he:QsC m S):∀p,p<m->∃n,Rk m S n p:=λp hp=>by
 by_cases h:∃n,Rk m S n p
 ·exact h
 ·exfalso;obtain⟨s,hs,h1,h2,h3⟩:=he (λp=>¬ ∃n,Rk m S n p) ⟨p,hp,h⟩;by_cases e:s.2=m
  ·exact h2 ⟨1,.pit hs e⟩
  ·rcases h3 with h3 | h3
   ·exact e h3
   ·have:∃n,Rk m S n s.2.toNat:=ZP λz=>h3 z;obtain⟨k,hk⟩:=this;exact h2 ⟨k+1,.step hs e hk ⋯⟩
theorem QyQ{m:Nat}{S:Lpp}(hg:∀s∈S,Good m s)(he:QsC m S):∃r:Nat->Nat,r m=0/\∀p,p<m->∃s∈S,s.1=p/\r s.2.toNat<r p:=by
 have h:∀p,∃n,(p<m->Rk m S n p/\∀k,k<n->¬Rk m S k p)/\(p=m->n=0):=λp=>by
  by_cases hp:p<m
  ·obtain⟨n,hn⟩:=QvF (QCc he p hp);exact⟨n,λ_=>hn,λz=> ⋯⟩
  ·exact⟨0,λz=>absurd z hp,λ_=>rfl⟩
 obtain⟨r,hr⟩:=Zck h;refine⟨r,(hr m).2 rfl,λp hp=>?_⟩;have h1:=((hr p).1 hp).1;generalize r p=n at h1;cases h1 with
 | @pit s n hs e=>
  obtain⟨g1,g2,g3,g4,g5⟩:=hg s hs;exact⟨s,hs,⋯,by rw[e,Zab,(hr m).2 rfl];omega⟩
 | @step s k n hs e hk hkn=>
  obtain⟨g1,g2,g3,g4,g5⟩:=hg s hs;refine⟨s,hs,⋯,?_⟩;have hl:s.2.toNat<m:= ⋯
  have:=((hr s.2.toNat).1 hl).2 k;have:¬k<r s.2.toNat:=λz=>this z hk;omega
theorem Qo0(r:Nat->Nat):∀m:Nat,∃N,∀p,p<=m->r p<=N
 | 0=>⟨r 0,λp hp=>by rw[show p=0 by omega];exact Zh _⟩
 | m+1=>by
  obtain⟨N,hN⟩:=Qo0 r m;refine⟨N+r (m+1),λp hp=>?_⟩;by_cases e:p=m+1
  ·subst e;omega
  ·have:=hN p ⋯;omega
theorem QuW(hi:i<m)(g:Good m s)(w:Mt1)(hw:w m=0):Qi m (λj=>hit i j s*w j)=if s.1=i then w s.2.toNat-w i else 0:=by
 obtain⟨g1,g2,g3,g4,g5⟩:=g;by_cases h:s.1=i
 ·rw[if_pos h];have e:Qi m (λj=>hit i j s*w j)=Qi m (λj=>(if j=s.2.toNat then 1 else 0)*w j+(if j=i then-1 else 0)*w j):=Qg λj _=>by
   have:hit i j s=(if j=s.2.toNat then 1 else 0)+(if j=i then-1 else 0):=by
    unfold hit;by_cases a:s.2=j
    ·by_cases b:i=j
     ·rw[if_pos ⟨h,a⟩,if_pos ⟨h,b⟩,if_pos ⋯,if_pos b.symm];omega
     ·rw[if_pos ⟨h,a⟩,if_neg (λz=>b z.2),if_pos ⋯,if_neg (λz=>b z.symm)];omega
    ·by_cases b:i=j
     ·rw[if_neg (λz=>a z.2),if_pos ⟨h,b⟩,if_neg ⋯,if_pos b.symm];omega
     ·rw[if_neg (λz=>a z.2),if_neg (λz=>b z.2),if_neg ⋯,if_neg (λz=>b z.symm)];omega
   rw[this,ZQ]
  rw[e,Qat,QaF hi];by_cases hm:s.2.toNat<m
  ·rw[QaF hm];omega
  ·have e2:Qi m (λj=>(if j=s.2.toNat then 1 else 0)*w j)=0:=by
    rw[Qg λj hj=>by rw[if_neg ⋯,ZA],Qaz]
   rw[e2,show s.2.toNat=m by omega,hw];omega
 ·rw[if_neg h];rw[Qg (g:=λ_=>0) λj hj=>by
   unfold hit;rw[if_neg (λz=>h z.1),if_neg (λz=>h z.1)];rw[ZbH,ZA],Qaz]
theorem QlW{α:Type}{g:α->Int}{X:Int}:∀S:List α,(∀s∈S,g s<=X)->(S.map g).sum<=S.length*X
 | [],_=>by simp
 | a::S,h=>by
  have h1:=h a (by simp);have h2:=QlW S λs hs=>h s (by simp[hs]);simp only[ZM,ZaL,ZJ,ZaP,ZQ];rw[show((1:Nat):Int)*X=X by simp];omega
theorem QlQ{α:Type}{g:α->Int}{X Y:Int}:∀(S:List α),(∀s∈S,g s<=X)->(∃s∈S,g s<=Y)->(S.map g).sum<=S.length*X-X+Y
 | [],_,h=>by obtain⟨s,hs,_⟩:=h;exact absurd hs (by simp)
 | a::S,h,h2=>by
  obtain⟨s,hs,hy⟩:=h2;have hb:∀s∈S,g s<=X:=λs hs=>h s (by simp[hs]);simp only[ZM,ZaL,ZJ,ZaP,ZQ];rw[show((1:Nat):Int)*X=X by simp];rcases Zo.mp hs with e | hs
  ·subst e;have:=QlW S hb;omega
  ·have:=QlQ S hb ⟨s,hs,hy⟩;have:=h a (by simp);omega
theorem Qmp{α:Type}{g:α->Int}:∀S:List α,(∀s∈S,0<=g s)->0<=(S.map g).sum
 | [],_=>by simp
 | a::S,h=>by
  have h1:=h a (by simp);have h2:=Qmp S λs hs=>h s (by simp[hs]);simp only[ZM,ZaL];omega
theorem Qw2{m:Nat}{S:Lpp}(hg:∀s∈S,Good m s)(he:QsC m S)(hl:S.length<2^60):TP m (Qp m S):=by
 have hn:∀s∈S,0<=s.1/\0<=s.2:=λs hs=>⟨(hg s hs).1,(hg s hs).2.1⟩;have pos:∀i j,i<m->j<m->i≠j->0<=Qp m S i j:=λi j hi hj hij=>by
  rw[QcH hi hj hn];refine Qmp S λs _=>?_;unfold hit;rw[if_neg (λz=>hij z.2) (c:=s.1=i/\i=j)];split<;>omega
 obtain⟨r,r0,hr⟩:=QyQ hg he;obtain⟨N,hN⟩:=Qo0 r m;have M1:1<=S.length+1:= ⋯
 have wt:∃w:Nat->Int,(∀j,0<=w j)/\∀i,i<m->Qi m (λj=>Qp m S i j*w j)<= -1:=by
  refine⟨λv=>(((S.length+1)^N:Nat):Int)-(((S.length+1)^(N-r v):Nat):Int),λj=>?_,λi hi=>?_⟩
  ·have:=Zn M1 (Nat.sub_le N (r j));show(0:Int)<=(((S.length+1)^N:Nat):Int)-(((S.length+1)^(N-r j):Nat):Int);omega
  ·generalize hw:(λv=>(((S.length+1)^N:Nat):Int)-(((S.length+1)^(N-r v):Nat):Int))=w;have hw':∀v,w v=(((S.length+1)^N:Nat):Int)-(((S.length+1)^(N-r v):Nat):Int):=λv=>by rw[← hw]
   have wm:w m=0:=by rw[hw',r0,ZbV];omega
   have e:Qi m (λj=>Qp m S i j*w j)=(S.map λs=>if s.1=(i:Int)then w s.2.toNat-w i else 0).sum:=by
    rw[Qg (g:=λj=>(S.map λs=>hit i j s*w j).sum) λj hj=>by
     rw[QcH hi hj hn,ZL,QrI];congr 1;exact ZF λs _=>ZL _ _]
    rw[Qn0 m (λj s=>hit i j s*w j) S];congr 1;exact ZF λs hs=>QuW hi (hg s hs) w wm
   rw[e];obtain⟨s0,hs0,e0,hlt⟩:=hr i hi;generalize hX:(((S.length+1)^(N-r i):Nat):Int)=X;have X1:1<=X:=by
    have:0<(S.length+1)^(N-r i):=Nat.pow_pos ⋯;omega
   have key:=QlQ (Y:=X-(S.length+1)*X) S (λs _=>by
    show(if s.1=i then w s.2.toNat-w i else 0)<=X;split
    ·rw[hw',hw' i,hX];have:0<=(((S.length+1)^(N-r s.2.toNat):Nat):Int):=Int.natCast_nonneg _;omega
    ·omega) ⟨s0,hs0,by
    show(if s0.1=i then w s0.2.toNat-w i else 0)<=_;rw[if_pos e0,hw',hw' i,hX];have hb:=hN i ⋯;have h1:(S.length+1)^(N-r i+1)<=(S.length+1)^(N-r s0.2.toNat):=Zn M1 ⋯;rw[Zcp]at h1;have h2:((((S.length+1)^(N-r i)*(S.length+1):Nat)):Int)<=(((S.length+1)^(N-r s0.2.toNat):Nat):Int):=by exact_mod_cast h1
    rw[Zaq,hX,ZL,show((S.length+1:Nat):Int)=(S.length:Int)+1 by omega]at h2;omega⟩
   have:((S.length:Int)+1)*X=S.length*X+X:=by rw[ZQ,ZR]
   omega
 refine⟨λp hp=>?_,pos,λi j hi hj=>?_,wt⟩
 ·obtain⟨w,w0,hw⟩:=wt;have h1:=hw p hp;by_cases hneg:Qp m S p p<0
  ·exact hneg
  ·exfalso;have:0<=Qi m (λj=>Qp m S p j*w j):=by
    have:=QeV (f:=λ_=>0) (g:=λj=>Qp m S p j*w j) λj hj=>by
     by_cases e:p=j
     ·subst e;exact ZaD ⋯ (w0 _)
     ·exact ZaD (pos p j hp hj e) (w0 _)
    rw[Qaz]at this;exact this
   omega
 ·rw[QcH hi hj hn];have:=Qe3 i j S;omega
theorem Qa5.tp{m:Nat}{R L:Lpp}(h:Qa5 m R L):TP m (Qp m (Ql R L)):=by
 have hg:=h.good;refine Qw2 (QcB hg.1 hg.2.1) ?_ ?_
 ·obtain⟨W,h1,_,_,rfl,rfl⟩:=h.ex;exact Qur h1
 ·unfold Ql;simp only[Zx,Zj];omega
theorem Qa5.neg{m:Nat}{R L:Lpp}(h:Qa5 m R L){i:Nat}(hi:i<m):0-Qp m (Ql R L) i i=QcI R L i:=by
 have hg:=h.good;have hs:=QcB hg.1 hg.2.1;rw[QcH hi hi (λs z=>⟨(hs s z).1,(hs s z).2.1⟩),sum_neg _ _ (λs z=>(hs s z).2.2.2.2),QnG];omega
theorem QnK(m:Nat)(f:Mt1):Qb m f= .lst (((List.range m).map f).map D.int):=by
 unfold Qb;rw[Zaj];rfl
theorem Qrm:∀{ns:List Int},ns≠[]->∃m,QkT ns=some m
 | [],h=>absurd rfl h
 | [n],_=>⟨n,rfl⟩
 | n::k::r,_=>by
  obtain⟨m,hm⟩:=Qrm (ns:=k::r) (by simp);exact⟨if m<n then m else n,by simp only[QkT,hm,ZX]⟩
theorem Qrx:∀{ns:List Int},ns≠[]->∃m,Qla ns=some m
 | [],h=>absurd rfl h
 | [n],_=>⟨n,rfl⟩
 | n::k::r,_=>by
  obtain⟨m,hm⟩:=Qrx (ns:=k::r) (by simp);exact⟨if n<m then m else n,by simp only[Qla,hm,ZX]⟩
theorem QtJ(h:0<m)(f:Mt1):(List.range m).map f≠[]:=by
 intro z;have:=congrArg List.length z;simp at this;omega
theorem Qyh(m0:0<m)(f:Mt1):∃v,(∃i,i<m/\v=f i)/\(∀i,i<m->v<=f i)/\∀{fa:DE}{ρ:En}{r:R},fa ρ=some r->r.d=Qb m f->dBf Qkh (Qa fa Qe) ρ=some (reI v):=by
 obtain⟨v,hv⟩:=Qrm (QtJ m0 f);obtain⟨h1,h2⟩:=Qj0 hv;refine⟨v,?_,λi hi=>h2 _ (ZN.mpr ⟨i,Ze.mpr hi,rfl⟩),λ{fa ρ r} h e=>?_⟩
 ·obtain⟨i,hi,e⟩:=ZN.mp h1;exact⟨i,Ze.mp hi,e.symm⟩
 ·unfold dBf;rw[Qr h (QK _),Za];simp only[e,QnK,Qkh,Qii,Za,hv,ZX]
theorem Qrh(m0:0<m)(f:Mt1):∃v,(∃i,i<m/\v=f i)/\(∀i,i<m->f i<=v)/\∀{fa:DE}{ρ:En}{r:R},fa ρ=some r->r.d=Qb m f->dBf Qh0 (Qa fa Qe) ρ=some (reI v):=by
 obtain⟨v,hv⟩:=Qrx (QtJ m0 f);obtain⟨h1,h2⟩:=Qkl hv;refine⟨v,?_,λi hi=>h2 _ (ZN.mpr ⟨i,Ze.mpr hi,rfl⟩),λ{fa ρ r} h e=>?_⟩
 ·obtain⟨i,hi,e⟩:=ZN.mp h1;exact⟨i,Ze.mp hi,e.symm⟩
 ·unfold dBf;rw[Qr h (QK _),Za];simp only[e,QnK,Qh0,Qii,Za,hv,ZX]
noncomputable def Qf7(Q3:Den):DS:=(Qd (Qdp (Qm 2 Q3 [] (Qa vv0 (Qa vv1 Qe)))) (Qd (Qa7 (Q2 vv1) (.nm 2) (Qd (sIf (QD (dOp gLt (dBf Qkh (Qa vv2 Qe)) kk0)) (Qd Qy Qo) Qo) Qo)) Qo))
def QjV(d:Den):Prop:=∀(m:Nat) (R L:Lpp) (fs:List (Nat->Int)),0<m->(∀f∈fs,∀j,j<m->0<=f j)->d [QC m R L,.lst (fs.map λf=>Qb m f)]=some (.non,true)
theorem Qu3(hn:QgI dn):QjV (Qq 3 (Qf7 dn)):=λm R L fs m0 hf=>by
 have key:Run (Qf7 dn) (QaQ 3 [QC m R L,.lst (fs.map λf=>Qb m f)]) (Nx λ_=>True):=by
  refine run_seq (Qde (Qk rfl (hn m R L fs) rfl) ?_);refine run_seq (Qah fs (λ_ ρ=>∃j2,ρ=[slF (QC m R L),slF (.lst (fs.map λf=>Qb m f)),j2]) rfl rfl ⟨none,rfl⟩ ?_ ?_)
  ·rintro i f ρ hi ⟨j2,rfl⟩;refine⟨_,rfl,?_⟩;obtain⟨v,⟨q,hq,e⟩,_,hv⟩:=Qyh m0 f;have h0:=hf f (ZT hi) q hq;refine run_seq (QQ (b:=false) (Qw (Qap (hv rfl rfl) rfl rfl) ?_) (λh=>by cases h) (λ_=>Qt (Qt ⟨_,rfl⟩)));show D.bl _=_;rw[decide_eq_false ⋯]
  ·rintro ρ ⟨j2,rfl⟩;exact Qt trivial
 obtain⟨o,h1,h2⟩:=key;unfold Qq;rw[h1];cases o with
 | nx ρ=>rfl
 | _=>exact h2.elim
noncomputable def QmN(Qbk:Den)(Q9:Den)(Qec:Den):DS:=(Qd (Qdp (Qm 2 Qbk [] (Qa vv0 (Qa (Qao (Qa vv1 Qe)) Qe)))) (Qd (Qs 2 (Qm 1 Q9 [] (Qa vv0 Qe))) (Qd (Qs 3 (Q7 (Qao (Qa kk0 Qe)) (Qn vv0 kk0))) (Qd (Qs 4 (Q7 (Qao (Qa kk0 Qe)) (Qn vv0 kk0))) (Qd (Qs 5 (QaP (Qa vv3 (Qa vv4 Qe)))) (Qd (Qs 6 (dBf Qh0 (Qa vv1 Qe))) (Qd (Qa7 (Qf0 (dOp QaG (Qor vv6) kk1) (Qnb kk1) (Qnb kk1)) (.nm 7) (Qd (Qs 3 (QG (Qak (Qn vv5 kk0) vv1) (.tp [1,2]) [none,none,none,some 7] QO (QS (Q7 kk2 vv1) (dOp Qa0 (dOp QoP vv2 vv3) kk2)))) (Qd (Qs 4 (QG (Q2 (Qn vv5 kk1)) (.nm 1) [none,none] QO (Q7 kk2 vv1))) (Qd (Qs 5 (Qm 3 Qec [] (Qa vv2 (Qa vv3 (Qa vv4 Qe))))) Qo)))) (Qd (QH vv5) Qo))))))))
noncomputable def Qe9(m:Nat)(T:Mt2)(f c:Mt1):D:= .tup [Qb m (Qf m T f c),Qb m c]
structure Told (m:Nat) (T:Mt2) (f c:Mt1):Prop where
 leg:Leg m T f c
 pos:∀j,j<m->0<=Qf m T f c j
 stb:Stb m T (Qf m T f c)
def Qkp(d:Den):Prop:=∀(m:Nat) (R L:Lpp) (f:Mt1),0<m->m<=1000->Qa5 m R L->(∀j,j<m->0<=f j/\f j<2^200)->∃c,d [QC m R L,Qb m f]=some (Qe9 m (Qp m (Ql R L)) f c,true)/\Told m (Qp m (Ql R L)) f c
theorem Qnq(ha:fa ρ=some ra)(ea:ra.d= .int ((n:Int)-1))(hb:fb ρ=some rb)(eb:rb.d= .int (-1))(hc:fc ρ=some rc)(ec:rc.d= .int (-1))(hn:n<=16777216):Qf0 fa fb fc ρ=some ⟨(List.range n).map λ(k:Nat)=> .int ((n:Int)-1-k),[]⟩:=by
 unfold Qf0;rw[ha,Za,hb,Za,hc,Za,ea,eb,ec];show(if(n:Int)-1- -1<=16777216/\_ then _ else _)=_;rw[if_pos ⟨⋯,⋯,⋯,⋯,⋯⟩,show((n:Int)-1- -1).toNat=n by omega];rfl
theorem QzU{fa fb:DE}{ρ:En}{ra rb:R}{a:Int}{k:Nat}(ha:fa ρ=some ra)(ea:ra.d= .int a)(hb:fb ρ=some rb)(eb:rb.d= .int k):dOp QoP fa fb ρ=some (reI (a / 2^k)):=by
 refine Qap ha hb ?_;rw[ea,eb];show(if(0:Int)<=k then some (D.int (a / 2^(k:Int).toNat))else none)=_;rw[if_pos ⋯,Zab]
theorem Qw5(x:Int)(s:Nat):x / 2^s=2*(x / 2^(s+1))+x / 2^s % 2:=by
 have e:x / 2^(s+1)=x / 2^s / 2:=by rw[Int.pow_succ,Int.ediv_ediv_of_nonneg (Int.pow_nonneg (by decide))]
 rw[e];omega
theorem Ql2(e:∀j,j<m->f j=g j)(h:Told m T f c):Told m T g c where
 leg:=h.leg.QoA e
 pos:=λj hj=>by rw[← QaN j (e j hj) (λ_ _=>rfl)];exact h.pos j hj
 stb:=λj hj=>by rw[← QaN j (e j hj) (λ_ _=>rfl)];exact h.stb j hj
theorem Qkx(e:∀j,j<m->f j=g j):Qe9 m T f c=Qe9 m T g c:=by
 unfold Qe9;rw[Qcr λj hj=>QaN j (e j hj) λ_ _=>rfl]
theorem QvS(hn:QjV dn)(ht:Qgt dt)(hs:Qi7 ds):Qkp (Qq 8 (QmN dn dt ds)):=λm R L f m0 hm hw hf=>by
 have hg:=hw.good;have tp:=hw.tp;have htoll:=ht m R L hm ⋯ hg.1 hg.2.1;generalize hT:Qp m (Ql R L)=T at tp htoll ⊢;obtain⟨top,⟨q,hq,etop⟩,hmax,evmax⟩:=Qrh m0 f;have htop0:0<=top:=by rw[etop];exact(hf q hq).1
 have hB:Builtin.Int.intBits top<=200:=by
  rw[intBits_le_iff];have:top<2^200:=by rw[etop];exact(hf q hq).2
  have e2:((2^200:Nat):Int)=(2:Int)^200:=by rw[Int.natCast_pow];rfl
  generalize (2:Int)^200=z at this e2;generalize (2:Nat)^200=z' at e2 ⊢;omega
 have hlt:∀j,j<m->f j / 2^Builtin.Int.intBits top=0:=λj hj=>by
  have h1:=(intBits_le_iff (m:=Builtin.Int.intBits top) (x:=top)).mp (Zh _);refine Int.ediv_eq_zero_of_lt (hf j hj).1 ?_;have h2:=hmax j hj;have e2:((2^Builtin.Int.intBits top:Nat):Int)=(2:Int)^Builtin.Int.intBits top:=by rw[Int.natCast_pow];rfl
  rw[← e2];omega
 generalize hBe:Builtin.Int.intBits top=B at hB hlt;have key:Run (QmN dn dt ds) (QaQ 8 [QC m R L,Qb m f]) (Rt λd fr=>∃c,d=Qe9 m T f c/\fr=true/\Told m T f c):=by
  have hneed:=hn m R L [f] m0 (λg hg' j hj=>by rw[ZD.mp hg'];exact(hf j hj).1);refine run_seq (Qde (Qk (r:=⟨[QC m R L,.lst [Qb m f]],false,[]⟩) rfl hneed rfl) ?_);refine rsa (Qk (r:=⟨[QC m R L],false,[]⟩) rfl htoll rfl) ?_;refine rsa (Qev (n:=m) (r:=reI m) rfl rfl ⋯) ?_;refine rsa (Qev (n:=m) (r:=reI m) rfl rfl ⋯) ?_;refine run_seq (Qz (r:=⟨.tup [Qb m (λ_=>0),Qb m (λ_=>0)],true,[3,4]⟩) rfl ?_);refine rsa (evmax (r:=reF (Qb m f)) rfl rfl) ?_;refine QaW (P:=λρ=>∃c j3 j4 j7,Told m T f c/\ρ=[slF (QC m R L),slF (Qb m f),slT (Qc m m T),j3,j4,some (Qe9 m T f c,true),slI top,j7]) ?_ ?_
  ·refine Qah (toD:=λ(k:Nat)=> .int ((B:Int)-1-k)) (List.range B) (λi ρ=>∃c j3 j4 j7,Told m T (λj=>f j / 2^(B-i)) c/\ρ=[slF (QC m R L),slF (Qb m f),slT (Qc m m T),j3,j4,some (Qe9 m T (λj=>f j / 2^(B-i)) c,true),slI top,j7])
    (Qnq (n:=B) (Qap (d:= .int ((B:Int)-1)) (ra:=reI B) (rb:=reI 1) (by rw[← hBe];rfl) rfl rfl) rfl rfl rfl rfl rfl ⋯) rfl ⟨λ_=>0,none,none,none,?_,?_⟩ ?_ ?_
   ·refine Ql2 (λj hj=>(hlt j hj).symm) ⟨.nil,λj hj=>?_,λj hj=>?_⟩
    ·unfold Qf;rw[Qg λi _=>by rw[ZA],Qaz];exact Zbp _
    ·unfold Qf;rw[Qg λi _=>by rw[ZA],Qaz];have:=tp.neg j hj;show(0:Int)+0<_;omega
   ·show _=[slF (QC m R L),slF (Qb m f),slT (Qc m m T),none,none,some (Qe9 m T (λj=>f j / 2^B) λ_=>0,true),slI top,none];rw[← Qkx λj hj=>(hlt j hj).symm];unfold Qe9;rw[QvB];rfl
   ·rintro i i' ρ hi ⟨c,j3,j4,j7,hc,rfl⟩;obtain⟨hiB,rfl⟩:=QbF hi;obtain⟨s,hsB⟩:∃s:Nat,B-i=s+1:=⟨B-i-1,⋯⟩;have es:(B:Int)-1-i=(s:Int):= ⋯
    have es2:B-(i+1)=s:= ⋯
    rw[hsB]at hc;rw[hsB,es2,es];generalize hF:(λj=>f j / 2^(s+1))=F at hc;have hF':∀j,F j=f j / 2^(s+1):=λj=>by rw[← hF]
    refine⟨_,rfl,?_⟩;have e2:∀j,2*F j+f j / 2^s % 2=f j / 2^s:=λj=>by rw[hF',← Qw5]
    have erow:∀j,2*Qf m T F c j+f j / 2^s % 2=Qf m T (λj=>f j / 2^s) (λi=>2*c i) j:=λj=>by
     have:=QrG (m:=m) (T:=T) (f:=F) (c:=c) (b:=λj=>f j / 2^s % 2) j;rw[← this];exact(QaN j (e2 j).symm λ_ _=>rfl).symm
    refine run_seq (Qz (r:=reT (Qb m (Qf m T (λj=>f j / 2^s) (λi=>2*c i)))) ?_ ?_)
    ·have e:=QB (fi:=Qak (Qn (Qh 5) (dC (.int 0))) (Qh 1)) (t:= .tp [1,2]) (cap:=[none,none,none,some 7]) (fe:=QS (Q7 (dC (.int 2)) (Qh 1)) (dOp Qa0 (dOp QoP (Qh 2) (Qh 3)) (dC (.int 2)))) (ρ:=[slF (QC m R L),slF (Qb m f),slT (Qc m m T),j3,j4,some (Qe9 m T F c,true),slI top,slI s])
      (List.range m) (Qac rfl rfl rfl rfl) rfl λj hj=>
       ⟨[none,slI (Qf m T F c j),slI (f j),slI s],rfl,_,Qad (Qan rfl rfl rfl rfl (Qc0 (by decide))) rfl (QaZ (QzU rfl rfl rfl rfl) rfl rfl rfl (by decide)) rfl,rfl,rfl⟩
     refine e.trans ?_;congr 2;show D.lst _=D.lst _;congr 1;refine ZF λj _=>?_;rw[erow]
    ·rw[QaJ];refine run_seq (Qz (r:=reT (Qb m (λi=>2*c i))) ?_ ?_)
     ·exact QB (List.range m) (Q1 rfl rfl) rfl λj hj=>⟨[none,slI (c j)],rfl,_,Qan rfl rfl rfl rfl (Qc0 (by decide)),rfl,rfl⟩
     ·rw[QaJ];obtain⟨d2,hd2,ed2⟩:=hc.leg.QAd (λj=>f j / 2^s % 2) (λj=>ZI _ (by decide));have hleg:Leg m T (λj=>f j / 2^s) (λi=>2*c i):=(hd2.cast ed2).QoA λj _=>e2 j;have hpos:∀j,j<m->0<=Qf m T (λj=>f j / 2^s) (λi=>2*c i) j:=λj hj=>by
       rw[← erow];have:=hc.pos j hj;have:=ZI (f j / 2^s) (by decide:(2:Int)≠0);omega
      obtain⟨k',h1,h2,h3,h4⟩:=hs m T _ _ hm tp hleg hpos;refine run_seq (Qz (Qk rfl h1 rfl) (Qt ?_));rw[QaJ];exact⟨k',_,_,_,⟨h2,h3,h4⟩,rfl⟩
   ·rintro ρ ⟨c,j3,j4,j7,hc,rfl⟩;rw[Zt,Nat.sub_self]at *;have e:∀j,j<m->f j / 2^0=f j:=λj _=>by rw[Int.pow_zero,Int.ediv_one]
    exact⟨c,_,_,_,Ql2 e hc,by rw[Qkx e]⟩
  ·rintro ρ ⟨c,j3,j4,j7,hc,rfl⟩;exact Qv rfl ⟨c,rfl,rfl,hc⟩
 obtain⟨o,h1,h2⟩:=key;cases o with
 | rt d fr=>
  obtain⟨c,rfl,rfl,h3⟩:=h2;exact⟨c,by unfold Qq;rw[h1];rfl,h3⟩
 | _=>exact h2.elim
theorem QxK{a:Int}{k:Nat}{ρ:En}(h1:a.natAbs<2^200)(h2:k<=1000):dOp Qjh (dC (.int a)) (dC (.int k)) ρ=some (reI (a^k)):=by
 refine Qap (ra:=reI a) (rb:=reI k) rfl rfl ?_;show(if 0<=(k:Int)/\(k:Int)<=1000/\a.natAbs<2^200 then some (D.int (a^(k:Int).toNat))else none)=_;rw[if_pos ⟨⋯,⋯,h1⟩,Zab]
theorem QcP{m:Nat}(h:fa ρ=some r)(e:r.d=Qb m f):dBf Qaa (Qa fa Qe) ρ=some (reI m):=by
 rw[Qc8 h e];simp
theorem Qtc(h:fs ρ=some rs)(hl:rs.ds.length<=64):Qao fs ρ=some ⟨.lst rs.ds,rs.fr,rs.M⟩:=by
 unfold Qao;rw[h,Za,if_pos hl]
theorem QcY(n m:Nat)(f:Mt1):(Qb m f).sim (n+1)=true:=by
 unfold Qb;simp only[D.sim,List.all_map,ZaK];intro p _;cases n<;>rfl
theorem QuN(h:∀i,i<m->∀j,j<n->f i j=g i j):Qc m n f=Qc m n g:=by
 unfold Qc Qb;congr 1;refine ZF λi hi=>?_;congr 1;refine ZF λj hj=>?_;rw[h i (Ze.mp hi) j (Ze.mp hj)]
theorem QdG{fa fb:DE}{ρ:En}{ra rb:R}{m n:Nat}{f:Mt2}{i:Int}(ha:fa ρ=some ra)(ea:ra.d=Qc m n f)(hb:fb ρ=some rb)(eb:rb.d= .int i)(h0:0<=i)(h:i<m):Qn fa fb ρ=some ⟨Qb n (f i.toNat),ra.fr,ra.M⟩:=by
 unfold Qn;rw[ha,Za,hb,Za,ea,eb];simp only[Qc,D.items,Za,QmR h0 h,ZX];rfl
theorem Qpk{x m n:Nat}{f:Mt2}{fp fi fa:DE}{ρ:En}{i j v:Int}{rp ri ra:R}{Q:Out->Prop}(hx:ρ[x]? =some (slT (Qc m n f)))(hp:fp ρ=some rp)(ep:rp.d= .int i)(hi:fi ρ=some ri)(ei:ri.d= .int j)(ha:fa ρ=some ra)(ea:ra.d= .int v)
  (h0:0<=i) (h:i<m) (k0:0<=j) (k:j<n) (q:Q (.nx (ρ.set x (slT (Qc m n (up2 f i.toNat j.toNat v)))))):Run (QbW x (Qci Qaf fp) fi fa) ρ Q:=by
 refine⟨_,?_,q⟩;have hn:ra.norm=(reI v):=by unfold HS.R.norm;rw[ea];rfl
 have hd:Qbf (Qc m n f) [i]=some (Qb n (f i.toNat)):=by
  simp only[Qbf,Qc,D.items,Za,QmR h0 h]
 have hu:Qbi [i] (Qc m n f) (.lst (((List.range n).map λk=>D.int (f i.toNat k)).set j.toNat (.int v)))=Qc m n (up2 f i.toNat j.toNat v):=by
  simp only[Qbi,Qc,Zj,Zt,QbO h0 h,Qkd];rw[Qfu];congr 2;funext k;unfold up2;split
  ·rename_i e;subst e;rfl
  ·rfl
 unfold QbW;rw[ha,Za,hx];simp only[Qci,Qaf,Za,hp,ep,Zbk,hi,ei,hd,Qb,Zj,Zt,QbO k0 k,hn,ea];simp only[kill,List.contains_nil,Bool.not_false,Bool.and_true,decide_true,ZaA,if_true];rw[hu]
noncomputable def QhX:DS:=(Qd (Qs 1 (QS (Qn (Qh 0) (dC (.int 0))) (dC (.int 1)))) (Qd (Qs 2 (QG (QaY (Qh 1)) (.nm 1) [none,none,some 1] QO (Q7 (Qao (Qa (dC (.int 0)) Qe)) (Qh 2)))) (Qd (Qs 5 (QS (Qn (Qh 0) (dC (.int 1))) (QG (Q2 (Qn (Qh 0) (dC (.int 1)))) (.tp [1,2]) [none,none,none] QO (QaP (Qa (Qh 2) (Qa (Qh 1) Qe)))))) (Qd (Qa7 (Q2 (QS (Qh 5) (Qn (Qh 0) (dC (.int 2))))) (.tp [3,4]) (Qd (QbW 2 (Qci Qaf (Qh 3)) (Qh 3) (dOp QaG (Qn (Qn (Qh 2) (Qh 3)) (Qh 3)) (dC (.int 1)))) (Qd (QbW 2 (Qci Qaf (Qh 3)) (Qh 4) (QS (Qn (Qn (Qh 2) (Qh 3)) (Qh 4)) (dC (.int 1)))) Qo))) (Qd (QH (QG (Q2 (QbJ (Qh 2) QbV (QaI (Qn (Qh 0) (dC (.int 0)))))) (.nm 1) [none,none,some 0] QO (QbJ (Qh 1) QbV (QaI (Qn (Qh 2) (dC (.int 0))))))) Qo)))))
theorem Qtw{m n k:Nat}{f:Mt2}(h:n<=m):cutD ((List.range m).map λi=>Qb k (f i)) none (some (n:Int))=(List.range n).map λi=>Qb k (f i):=by
 unfold cutD;simp only[Zj,Zt,HT.QiH,HT.QhK,ZbX,ZbV,Zba h];rw[← Zbm,List.take_range,Zba h]
def TabsOk(d:Den):Prop:=∀(m:Nat) (R L:Lpp),0<m->m<=1000->R.length+R.length+L.length<=1000000->(∀s∈R,Good m s)->(∀s∈L,Good m s)->d [QC m R L]=some (Qc m m (Qp m (Ql R L)),true)
theorem Qzc:TabsOk (Qq 6 QhX):=λm R L m0 hm hl hR hL=>by
 have gS:=QcB hR hL;have it:∀{ρ:En},ρ[0]? =some (slF (QC m R L))->Qh 0 ρ=some (reF (QC m R L)):=λh=>QbB h;have fin:Qc m m (Qp (m+1) (Ql R L))=Qc m m (Qp m (Ql R L)):=QuN λi hi j hj=>by
  rw[QcH (m:=m+1) ⋯ ⋯ λs hs=>⟨(gS s hs).1,(gS s hs).2.1⟩,QcH hi hj λs hs=>⟨(gS s hs).1,(gS s hs).2.1⟩]
 rw[← fin];refine QN ?_;refine rsa (Qad (a:=(m:Int)) (b:=1) (QeL (it rfl) rfl).1 rfl rfl rfl) ?_;refine rsa (QB (out:=λ_=>Qb (m+1) λ_=>0) (List.range (m+1)) (Qbc (n:=m+1) (r:=reI (m+1:Nat)) rfl rfl ⋯) rfl λx _=>⟨[none,slI x,slI (m+1:Nat)],rfl,_,Qev (n:=m+1) (r:=reI (m+1:Nat)) rfl rfl ⋯,rfl,rfl⟩) ?_;refine run_seq (Qz (Qkf (A:=R) (B:=R.map Prod.swap) (rb:=reT (Qam (R.map Prod.swap))) (QeL (it rfl) rfl).2.1 rfl ?_ rfl (by simp;omega)) ?_)
 ·have e1:(R.map λx=>pairD x.swap)=(R.map Prod.swap).map pairD:=by simp[Zaj,Function.comp_def]
  unfold Qam;rw[← e1];exact QB (toD:=pairD) (out:=λx=>pairD x.swap) R (Q1 (QeL (it rfl) rfl).2.1 rfl) rfl λx _=>⟨[none,slI x.1,slI x.2],rfl,⟨pairD x.swap,true,[]⟩,rfl,rfl,rfl⟩
 rw[QaJ];refine QaW (P:=λρ=>∃j3 j4,ρ=[slF (QC m R L),slI (m+1:Nat),slT (Qc (m+1) (m+1) (Qp (m+1) (Ql R L))),j3,j4,slT (Qam (R++R.map Prod.swap))]) ?_ ?_
 ·refine Qah (toD:=pairD) (Ql R L) (λi ρ=>∃j3 j4,ρ=[slF (QC m R L),slI (m+1:Nat),slT (Qc (m+1) (m+1) (Qp (m+1) ((Ql R L).take i))),j3,j4,slT (Qam (R++R.map Prod.swap))]) (ir:=⟨(Ql R L).map pairD,[]⟩) ?_ rfl ⟨none,none,rfl⟩ ?_ ?_
  ·exact Q1 (Qkf (A:=R++R.map Prod.swap) (B:=L) (ra:=⟨Qam (R++R.map Prod.swap),true,[5]⟩) rfl rfl (QeL (it rfl) rfl).2.2 rfl (by simp;omega)) rfl
  ·rintro i s ρ hi ⟨j3,j4,rfl⟩;obtain⟨s1,s2,s3,s4,s5⟩:=gS s (ZT hi);have c1:s.1<((m+1:Nat):Int):= ⋯
   have c2:s.2<((m+1:Nat):Int):= ⋯
   refine⟨_,rfl,?_⟩;have step:Qp (m+1) ((Ql R L).take (i+1))=stepT (m+1) (Qp (m+1) ((Ql R L).take i)) s:=by
    unfold Qp;rw[List.take_add_one,hi,List.foldl_append];rfl
   have e1:∀{ρ:En}{f:Mt2}(y:Nat) (k:Int),ρ[2]? =some (slT (Qc (m+1) (m+1) f))->ρ[3]? =some (slI s.1)->ρ[y]? =some (slI k)->0<=k->k<((m+1:Nat):Int)->Qn (Qn (Qh 2) (Qh 3)) (Qh y) ρ=some (reI (f s.1.toNat k.toNat)):=λ{ρ f} y k h2 h3 hy k0 kl=>
    QmQ (QdG (QbB h2) rfl (QpD h3) rfl s1 c1) rfl (QpD hy) rfl k0 kl
   refine run_seq (Qpk (i:=s.1) (j:=s.1) (m:=m+1) (n:=m+1) rfl rfl rfl rfl rfl (Qap (e1 3 s.1 rfl rfl rfl s1 c1) rfl rfl) rfl s1 c1 s1 c1 ?_);refine run_seq (Qpk (i:=s.1) (j:=s.2) (m:=m+1) (n:=m+1) rfl rfl rfl rfl rfl (Qad (e1 4 s.2 rfl rfl rfl s2 c2) rfl (Qgq (.int 1) _) rfl) rfl s1 c1 s2 c2 (Qt ⟨slI s.1,slI s.2,?_⟩));rw[step];unfold stepT;rw[if_pos ⟨c1,c2⟩,if_pos c1];rfl
  ·rintro ρ ⟨j3,j4,rfl⟩;rw[Zcj];exact⟨j3,j4,rfl⟩
 rintro ρ ⟨j3,j4,rfl⟩;refine Qv (QB (toD:=λ(i:Nat)=>Qb (m+1) (Qp (m+1) (Ql R L) i)) (out:=λ(i:Nat)=>Qb m (Qp (m+1) (Ql R L) i)) (ir:=⟨(List.range m).map λi=>Qb (m+1) (Qp (m+1) (Ql R L) i),[2]⟩) (List.range m) ?_ rfl λi hi=>⟨[none,slF (Qb (m+1) (Qp (m+1) (Ql R L) i)),slF (QC m R L)],rfl,_,Qq9 (m:=m+1) (n:=m) (ra:=reF (Qb (m+1) (Qp (m+1) (Ql R L) i))) rfl rfl (QeL (r:=reF (QC m R L)) rfl rfl).1 rfl ⋯,rfl,rfl⟩) ⟨rfl,rfl⟩;refine Q1 (r:=⟨.lst ((List.range m).map λi=>Qb (m+1) (Qp (m+1) (Ql R L) i)),false,[2]⟩) ?_ rfl;unfold QbJ QbV QaI;rw[QbB (d:=Qc (m+1) (m+1) (Qp (m+1) (Ql R L))) (b:=true) rfl,(QeL (it rfl) rfl).1];show some (Qbq (cutD ((List.range (m+1)).map λi=>Qb (m+1) (Qp (m+1) (Ql R L) i)) none (some (m:Int))) [2])=_;rw[Qtw ⋯];unfold Qbq;have:QY ((List.range m).map λi=>Qb (m+1) (Qp (m+1) (Ql R L) i))=false:=by
  cases m with
  | zero=>omega
  | succ m=>rw[ZbF];rfl
 rw[this];rfl
noncomputable def Qxb(l:List Nat):D:= .lst (l.map λ(p:Nat)=> .int (p:Int))
theorem Qs5(l:List Nat):Qxb l= .lst ((l.map λ(p:Nat)=>(p:Int)).map D.int):=by unfold Qxb;rw[Zaj];rfl
noncomputable def Qsg:Option Int->D
 | none=> .non
 | some i=> .int i
@[simp] theorem Qvc(o:Option Int):(Qsg o).flat=true:=by cases o<;>rfl
noncomputable def QCC(m:Nat)(F:Nat->Option Int):D:= .lst ((List.range m).map λi=>Qsg (F i))
@[simp] theorem QCL(m:Nat)(F:Nat->Option Int):(QCC m F).flat=false:=rfl
@[simp] theorem QCy(m:Nat)(F:Nat->Option Int):QY ((List.range m).map λi=>Qsg (F i))=true:=Qb7 (f:=λi=>Qsg (F i)) (λ_=>Qvc _) _
theorem QnT{fa fb:DE}{ρ:En}{ra rb:R}{i j:Int}{n:Nat}(ha:fa ρ=some ra)(ea:ra.d= .int i)(hb:fb ρ=some rb)(eb:rb.d= .int j)(hn:(n:Int)=j-i)(hl:n<=16777216)(h1: -(2^62)<=i)(h2:i<2^61):QeU fa fb ρ=some ⟨(List.range n).map λ(k:Nat)=> .int (i+k),[]⟩:=by
 unfold QeU;rw[ha,Za,hb,Za,ea,eb];show(if j-i<=16777216/\_ then _ else _)=_;rw[if_pos ⟨⋯,⋯,⋯,⋯,⋯⟩,show(j-i).toNat=n by omega];rfl
theorem Leg.mono(h:Leg m T f c)(e:∀i,i<m->f i<=g i):Leg m T g c:=by
 induction h with
 | nil=>exact .nil
 | @step c p t _ hp ht hle ih=>
  refine .step ih hp ht ?_;have:=e p hp;unfold Qf at hle ⊢;omega
theorem QpY(j:Nat):Qf m T (Qf m T f c) d j=Qf m T f (λi=>c i+d i) j:=by
 unfold Qf;have e:(λi=>(c i+d i)*T i j)=λi=>c i*T i j+d i*T i j:=by funext i;rw[ZQ]
 rw[e,Qat];show f j+Qi m (λi=>c i*T i j)+_=_;omega
theorem Leg.trans(h:Leg m T f c)(h2:Leg m T (Qf m T f c) d):Leg m T f (λi=>c i+d i):=by
 induction h2 with
 | nil=>exact h.cast λi=>by simp
 | @step d p t _ hp ht hle ih=>
  rw[QpY]at hle;refine(Leg.step ih hp ht hle).cast λi=>?_;unfold up;split
  ·rename_i e;subst e;show c i+d i+t=c i+(d i+t);omega
  ·rfl
theorem Told.lay(hC:Told m T F C)(hF:∀j,j<m->F j<=F' j)(hh:∀j,j<m->h j=Qf m T F C j+(F' j-F j))(hc:Told m T h c):Told m T F' (λi=>C i+c i)/\∀j,j<m->Qf m T h c j=Qf m T F' (λi=>C i+c i) j:=by
 have e1:∀j,j<m->h j=Qf m T F' C j:=λj hj=>by
  rw[hh j hj];unfold Qf;omega
 have e2:∀j,j<m->Qf m T h c j=Qf m T F' (λi=>C i+c i) j:=λj hj=>by
  rw[← QpY];exact QaN j (e1 j hj) λ_ _=>rfl
 exact⟨⟨(hC.leg.mono hF).trans (hc.leg.QoA e1),λj hj=>by rw[← e2 j hj];exact hc.pos j hj,λj hj=>by rw[← e2 j hj];exact hc.stb j hj⟩,e2⟩
theorem Told.one(tp:TP m T)(h:Told m T f c)(g:Told m T f d):∀i,i<m->c i=d i:=h.leg.unique tp g.leg h.stb g.stb
abbrev Qbd(i:Int):Prop:=Builtin.Int.intBits i<=2^20
theorem Qir(h:i.natAbs<2^300):Qbd i:=Zp (Zbz h) (by decide)
noncomputable def Qpt:DS:=(Qd (QH (QG (Q2 vv0) (.nm 1) [none,none,some 1] QO (Qn vv1 vv2))) Qo)
def QgG(d:Den):Prop:=∀(n m:Nat) (f:Mt2) (j:Nat),j<m->d [Qc n m f,.int j]=some (Qb n (λi=>f i j),true)
theorem QuF:QgG (Qq 2 Qpt):=λn m f j hj=>
 QN (Qv (QB (List.range n) (Q1 rfl rfl) rfl λi _=>⟨_,rfl,reI (f i j),Qae rfl rfl rfl rfl hj,rfl,rfl⟩) ⟨rfl,rfl⟩)
noncomputable def QoL(Qbw:Den):DS:=(Qd (QH (QG (QaY (dBf Qaa (Qa vv0 Qe))) (.nm 1) [none,none,some 0] QO (Qm 2 Qbw [] (Qa vv2 (Qa vv1 Qe))))) Qo)
theorem Qd3{n:Nat}(h:fa ρ=some r)(e:r.d=Qc n m f):dBf Qaa (Qa fa Qe) ρ=some (reI n):=by
 rw[Qc8 h e];simp
def QcJ(d:Den):Prop:=∀(n:Nat) (f:Mt2),n<=1000->d [Qc n n f]=some (Qc n n (λj i=>f i j),true)
theorem QuS(hc:QgG dc):QcJ (Qq 1 (QoL dc)):=λn f hn=>
 QN (Qv (QB (List.range n) (Qbc (Qd3 rfl rfl) rfl ⋯) rfl λj hj=>⟨[none,slI j,slF (Qc n n f)],rfl,reT (Qb n (λi=>f i j)),Qk rfl (hc n n f j (Ze.mp hj)) rfl,rfl,rfl⟩) ⟨rfl,rfl⟩)
noncomputable def QpV:DS:=(Qd (QH (dBf QfF (Qa (QG (Qak vv0 vv1) (.tp [1,2]) [none,none,none] QO (Q7 vv1 vv2)) Qe))) Qo)
def Qk5(d:Den):Prop:=∀(n:Nat) (a b:Mt1),(∀i,i<n->Qbd (a i)/\Qbd (b i))->d [Qb n a,Qb n b]=some (.int (Qi n λi=>a i*b i),true)
theorem Qux:Qk5 (Qq 2 QpV):=λn a b hb=>
 QN (Qv (Qri (QB (List.range n) (Qac rfl rfl rfl rfl) rfl λi hi=>⟨[none,slI (a i),slI (b i)],rfl,reI (a i*b i),Qan rfl rfl rfl rfl (QcO (hb i (Ze.mp hi)).1 (hb i (Ze.mp hi)).2),rfl,rfl⟩) rfl) ⟨rfl,rfl⟩)
noncomputable def QnA(QeY:Den):DS:=(Qd (QH (QG (Q2 vv1) (.nm 1) [none,none,some 0] QO (Qm 2 QeY [] (Qa vv2 (Qa vv1 Qe))))) Qo)
def Qga(d:Den):Prop:=∀(n k:Nat) (a:Mt1) (f:Mt2),(∀i,i<n->Qbd (a i))->(∀j i,j<k->i<n->Qbd (f j i))->d [Qb n a,Qc k n f]=some (Qb k (λj=>Qi n λi=>a i*f j i),true)
theorem QuV(hs:Qk5 ds):Qga (Qq 2 (QnA ds)):=λn k a f ha hf=>
 QN (Qv (QB (List.range k) (Q1 rfl rfl) rfl λj hj=>⟨_,rfl,reI (Qi n λi=>a i*f j i),Qk rfl (hs n a (f j) λi hi=>⟨ha i hi,hf j i (Ze.mp hj) hi⟩) rfl,rfl,rfl⟩) ⟨rfl,rfl⟩)
noncomputable def QnW(Q5:Den)(Qbp:Den):DS:=(Qd (Qs 2 (Qm 1 Q5 [] (Qa vv1 Qe))) (Qd (QH (QG (Q2 vv0) (.nm 1) [none,none,some 2] QO (Qm 2 Qbp [] (Qa vv1 (Qa vv2 Qe))))) Qo))
noncomputable def prodF(n:Nat)(f g:Mt2):Nat->Nat->Int:=λi j=>Qi n λk=>f i k*g k j
def Qsc(n:Nat)(f:Mt2):Prop:=∀i j,i<n->j<n->Qbd (f i j)
def QgM(d:Den):Prop:=∀(n:Nat) (f g:Mt2),n<=1000->Qsc n f->Qsc n g->d [Qc n n f,Qc n n g]=some (Qc n n (prodF n f g),true)
theorem Qr4(ht:QcJ dt)(hl:Qga dl):QgM (Qq 3 (QnW dt dl)):=λn f g hn hf hg=>by
 refine QN ?_;refine rsa (Qk rfl (ht n g hn) rfl) ?_;refine Qv (QB (List.range n) (Q1 rfl rfl) rfl λi hi=>⟨_,rfl,reT (Qb n (prodF n f g i)),Qk rfl (hl n n (f i) (λj i=>g i j) (λk hk=>hf i k (Ze.mp hi) hk) (λj k hj hk=>hg k j hk hj)) rfl,rfl,rfl⟩) ⟨rfl,rfl⟩
noncomputable def Qgw(QaD:Den):DS:=(Qd (sIf (bOr (QbG (QD (Qhf "list" vv0))) (QD (dOp gNe (dBf Qaa (Qa vv0 Qe)) vv1))) (Qd (QH (dC (.bl false))) Qo) Qo) (Qd (QH (dOp gEq (dBf Qaa (Qa (QG (Q2 vv0) (.nm 1) [none,none] (QD (Qm 1 QaD [] (Qa vv1 Qe))) vv1) Qe)) vv1)) Qo))
def Qgg(d:Den):Prop:=∀(n:Nat) (a:Mt1),d [Qb n a,.int n]=some (.bl true,true)
theorem Qyz(hw:QhP dw):Qgg (Qq 2 (Qgw dw)):=λn a=>by
 refine QN ?_;refine Qx (QQ (Qav (QaS (b:=true) (Qw rfl rfl)) (Qw (r:=reT (.bl false)) ((Qb4 (QcP rfl rfl) rfl rfl rfl).trans (by simp)) rfl)) (λh=>by cases h) (λ_=>Qt ?_));have ec:=Qdo (fi:=Q2 (Qh 0)) (t:= .nm 1) (cap:=[none,none]) (ft:=QD (Qm 1 dw [] (Qa (Qh 1) Qe))) (fe:=Qh 1) (ρ:=[slF (Qb n a),slI n]) (List.range n) (Q1 rfl rfl) rfl λi _=>⟨[none,slI (a i)],rfl,Qw (Qk rfl (hw (a i)) rfl) rfl,λ_=>⟨(reI (a i)),rfl,rfl,rfl⟩⟩;have el:=Qc8 ec rfl;rw[Zj,ZbT.mpr λ_ _=>rfl,Zt]at el;exact Qv (r:=reT (.bl true)) ((QbA el rfl rfl rfl).trans (by simp)) ⟨rfl,rfl⟩
theorem QkS(ha:fa ρ=some ra)(ea:ra.d=Qb m f)(hb:fb ρ=some rb)(eb:rb.d=Qb k g)(hl:m+k<=1000):QS fa fb ρ=some (reT (Qb (m+k) (λi=>if i<m then f i else g (i-m)))):=by
 have e:Qb (m+k) (λi=>if i<m then f i else g (i-m))= .lst (((List.range m).map λi=>D.int (f i))++((List.range k).map λi=>D.int (g i))):=by
  unfold Qb;rw[List.range_add,ZaO,Zaj];congr 2
  ·refine ZF λi hi=>?_;show D.int (if i<m then f i else g (i-m))=_;rw[if_pos (Ze.mp hi)]
  ·refine ZF λi hi=>?_;show D.int (if m+i<m then f (m+i)else g (m+i-m))=_;rw[if_neg ⋯,Nat.add_sub_cancel_left]
 rw[e];unfold QS;rw[ha,Za,hb,Za,ea,eb];simp only[Qb,Zj,Zt,QgL];rw[if_pos ⋯];unfold Qbq;rw[if_pos];rw[Qdi,Zg];exact⟨Qb7 (λ_=>rfl) _,Qb7 (λ_=>rfl) _⟩
noncomputable def sm:Nat->(Nat->Int)->Int
 | 0,_=>0
 | n+1,f=>sm n f+f n
theorem QaU:∀{n:Nat},(∀i,i<n->f i=g i)->sm n f=sm n g
 | 0,_=>rfl
 | n+1,h=>by unfold sm;rw[QaU λi hi=>h i ⋯,h n ⋯]
theorem QhH(x y:Int)(f g:Mt1):∀n,sm n (λi=>x*f i+y*g i)=x*sm n f+y*sm n g
 | 0=>by simp[sm]
 | n+1=>by
  unfold sm;rw[QhH x y f g n,ZaB,ZaB];show _+(x*f n+y*g n)=_;omega
theorem Qj7:∀{n:Nat},(∀i,i<n->f i=0)->sm n f=0
 | 0,_=>rfl
 | n+1,h=>by unfold sm;rw[Qj7 λi hi=>h i ⋯,h n ⋯];rfl
theorem QcL:∀{n:Nat},c<n->(∀i,i<n->i≠c->f i=0)->sm n f=f c
 | 0,hc,_=> ⋯
 | n+1,hc,h=>by
  unfold sm;by_cases e:c=n
  ·rw[Qj7 λi hi=>h i ⋯ ⋯,e];omega
  ·rw[QcL (c:=c) ⋯ λi hi=>h i ⋯,h n ⋯ (Ne.symm e)];omega
theorem Qmh:∀{n:Nat},c<d->d<n->(∀i,i<n->i≠c->i≠d->f i=0)->sm n f=f c+f d
 | 0,_,hc,_=> ⋯
 | n+1,hcd,hd,h=>by
  unfold sm;by_cases e:d=n
  ·rw[QcL (c:=c) ⋯ λi hi ne=>h i ⋯ ne ⋯,e]
  ·rw[Qmh (c:=c) (d:=d) hcd ⋯ λi hi=>h i ⋯,h n ⋯ ⋯ ⋯];omega
theorem QmB(x:Int)(f:Mt1):∀n,sm n (λi=>f i*x)=sm n f*x
 | 0=>by simp[sm]
 | n+1=>by unfold sm;rw[QmB x f n,ZQ]
noncomputable def skp(j c:Nat):Nat:=if c<j then c else c+1
noncomputable def sgn(j:Nat):Int:=if j % 2=0 then 1 else-1
theorem Qlf(j:Nat):sgn (j+1)= -sgn j:=by
 unfold sgn;by_cases h:j % 2=0
 ·rw[if_pos h,if_neg ⋯]
 ·rw[if_neg h,if_pos ⋯];rfl
noncomputable def det:Nat->(Nat->Nat->Int)->Int
 | 0,_=>1
 | n+1,m=>sm (n+1) λj=>sgn j*m j 0*det n λc r=>m (skp j c) (r+1)
noncomputable def cup(m:Mt2)(c:Nat)(a:Mt1):Nat->Nat->Int:=λj=>if j=c then a else m j
theorem QI(m:Mt2)(c:Nat)(a:Mt1):cup m c a c=a:=by unfold cup;rw[if_pos rfl]
theorem QF(m:Mt2)(a:Mt1)(h:j≠c):cup m c a j=m j:=by unfold cup;rw[if_neg h]
theorem Qas(m:Mt2)(c:Nat):cup m c (m c)=m:=by
 funext j;by_cases h:j=c
 ·rw[h,QI]
 ·rw[QF _ _ h]
theorem Qmy(m:Mt2)(c:Nat)(a b:Mt1):cup (cup m c a) c b=cup m c b:=by
 funext j;by_cases h:j=c
 ·rw[h,QI,QI]
 ·rw[QF _ _ h,QF _ _ h,QF _ _ h]
theorem Qaw(m:Mt2)(a b:Mt1)(h:c≠d):cup (cup m c a) d b=cup (cup m d b) c a:=by
 funext j;by_cases h1:j=c
 ·subst h1;rw[QF _ _ h,QI,QI]
 ·by_cases h2:j=d
  ·subst h2;rw[QI,QF _ _ h1,QI]
  ·rw[QF _ _ h2,QF _ _ h1,QF _ _ h1,QF _ _ h2]
theorem QW:∀{n:Nat}{m k:Mt2},(∀j,j<n->∀r,r<n->m j r=k j r)->det n m=det n k
 | 0,_,_,_=>rfl
 | n+1,m,k,h=>by
  unfold det;refine QaU λj hj=>?_;rw[h j hj 0 ⋯,QW (n:=n) (m:=λc r=>m (skp j c) (r+1)) (k:=λc r=>k (skp j c) (r+1)) λc hc r hr=>h _ (by unfold skp;split<;>omega) _ ⋯]
theorem Qjb(m:Mt2)(c:Nat)(v:Mt1):(λc' r=>cup m c v (skp c c') (r+1))=λc' r=>m (skp c c') (r+1):=by
 funext c' r;rw[QF _ _ (by unfold skp;split<;>omega)]
theorem Qh8(m:Mt2)(v:Mt1)(h:c≠j):(λc' r=>cup m c v (skp j c') (r+1))=cup (λc' r=>m (skp j c') (r+1)) (if c<j then c else c-1) (λr=>v (r+1)):=by
 funext c' r;by_cases e:c'=if c<j then c else c-1
 ·rw[e,QI];have:skp j (if c<j then c else c-1)=c:=by
   unfold skp;by_cases q:c<j
   ·rw[if_pos q,if_pos q]
   ·rw[if_neg q,if_neg ⋯];omega
  rw[this,QI]
 ·rw[QF _ _ e,QF];intro z;refine e ?_;unfold skp at z;by_cases q:c'<j
  ·rw[if_pos q]at z;rw[if_pos ⋯];omega
  ·rw[if_neg q]at z;rw[if_neg ⋯];omega
theorem QfZ(x y:Int)(a b:Mt1):∀(n:Nat) (m:Mt2) (c:Nat),c<n->∀(a b:Mt1),det n (cup m c λr=>x*a r+y*b r)=x*det n (cup m c a)+y*det n (cup m c b)
 | 0,_,_,h,_,_=> ⋯
 | n+1,m,c,h,a,b=>by
  unfold det;rw[← QhH];refine QaU λj hj=>?_;by_cases e:j=c
  ·subst e;rw[Qjb,Qjb,Qjb,QI,QI,QI];generalize det n _=q;generalize sgn j=s;simp only[ZaB,ZQ,Zq,ZS]
  ·rw[Qh8 m _ (Ne.symm e),Qh8 m _ (Ne.symm e),Qh8 m _ (Ne.symm e),QF _ _ e,QF _ _ e,QF _ _ e,QfZ x y a b n _ _ (by split<;>omega)];generalize det n _=q;generalize det n _=q';generalize sgn j*m j 0=s;simp only[ZaB,ZS]
theorem Qkn(h:c<n)(a b:Mt1):det n (cup m c λr=>a r+b r)=det n (cup m c a)+det n (cup m c b):=by
 have:=QfZ 1 1 a b n m c h a b;simpa only[ZR]using this
theorem QfR(h:c<n)(x:Int)(a:Mt1):det n (cup m c λr=>x*a r)=x*det n (cup m c a):=by
 have:=QfZ x 0 a a n m c h a a;simpa only[ZA,Zbt]using this
theorem Qj1:∀(n:Nat) (m:Mt2) (c:Nat),c+1<n->m c=m (c+1)->det n m=0
 | 0,_,_,h,_=> ⋯
 | n+1,m,c,h,e=>by
  unfold det;rw[Qmh (c:=c) (d:=c+1) ⋯ h]
  ·have:(λc' r=>m (skp c c') (r+1))=λc' r=>m (skp (c+1) c') (r+1):=by
    funext c' r;unfold skp;by_cases q:c'<c
    ·rw[if_pos q,if_pos ⋯]
    ·rw[if_neg q];by_cases q2:c'=c
     ·rw[if_pos ⋯,q2,e]
     ·rw[if_neg ⋯]
   rw[this,Qlf,e];generalize det n _=q;rw[Zak,Zak];omega
  ·intro j hj h1 h2;have:det n (λc' r=>m (skp j c') (r+1))=0:=by
    by_cases q:c<j
    ·refine Qj1 n _ c ⋯ ?_;funext r;show m (skp j c) (r+1)=m (skp j (c+1)) (r+1);unfold skp;rw[if_pos q,if_pos ⋯,e]
    ·refine Qj1 n _ (c-1) ⋯ ?_;funext r;show m (skp j (c-1)) (r+1)=m (skp j (c-1+1)) (r+1);unfold skp;rw[if_neg ⋯,if_neg ⋯,show c-1+1=c by omega,e]
   rw[this,ZC]
theorem QkJ(hc:c<n)(hd:d<n)(hcd:c≠d)(hz:∀k:Nat->Nat->Int,k c=k d->det n k=0)(a b:Mt1):det n (cup (cup m c a) d b)= -det n (cup (cup m c b) d a):=by
 have z:=hz (cup (cup m c λr=>a r+b r) d λr=>a r+b r) (by rw[QI,QF _ _ hcd,QI]);have za:=hz (cup (cup m c a) d a) (by rw[QI,QF _ _ hcd,QI]);have zb:=hz (cup (cup m c b) d b) (by rw[QI,QF _ _ hcd,QI]);rw[Qkn hd,Qaw _ _ _ hcd,Qkn hc,Qaw _ _ _ hcd,Qkn hc,Qaw _ _ _ (Ne.symm hcd),Qaw _ _ _ (Ne.symm hcd),Qaw _ _ _ (Ne.symm hcd),Qaw _ _ _ (Ne.symm hcd),za,zb]at z;omega
theorem QmH:∀(g n:Nat) (m:Mt2) (i:Nat),i+g+1<n->m i=m (i+g+1)->det n m=0
 | 0,n,m,i,h,e=>Qj1 n m i h e
 | g+1,n,m,i,h,e=>by
  have:=QkJ (m:=m) (c:=i+g+1) ⋯ ⋯ ⋯ (λk hk=>Qj1 n k _ ⋯ hk) (m (i+g+1)) (m (i+g+1+1));rw[Qas,Qas]at this;rw[this,QmH g n _ i ⋯]
  ·rfl
  ·rw[QF _ _ ⋯,QF _ _ ⋯,QF _ _ ⋯,QI];exact e
theorem Qee(hi:i<n)(hj:j<n)(hij:i≠j)(e:m i=m j):det n m=0:=by
 rcases Nat.lt_or_gt_of_ne hij with h | h
 ·exact QmH (j-i-1) n m i ⋯ (by rw[show i+(j-i-1)+1=j by omega];exact e)
 ·exact QmH (i-j-1) n m j ⋯ (by rw[show j+(i-j-1)+1=i by omega];exact e.symm)
theorem QdY(hc:c<n)(hd:d<n)(hcd:c≠d)(a b:Mt1):det n (cup (cup m c a) d b)= -det n (cup (cup m c b) d a):=QkJ hc hd hcd (λk hk=>Qee hc hd hcd hk) a b
theorem Qd7(h:c<n)(x:Mt1)(E:Mt2):∀k,det n (cup m c λr=>sm k λs=>x s*E s r)=sm k λs=>x s*det n (cup m c (E s))
 | 0=>by
  have:=QfR (m:=m) h 0 λ_=>0;rw[ZA]at this;unfold sm;simpa using this
 | k+1=>by
  unfold sm;rw[Qkn h,Qd7 h x E k,QfR h]
theorem Qqq:∀{n:Nat}(σ:Nat->Nat),(∀j,j<n+1->σ j<n)->∃i j,i<n+1/\j<n+1/\i≠j/\σ i=σ j
 | 0,σ,h=>absurd (h 0 ⋯) ⋯
 | n+1,σ,h=>by
  by_cases q:∃i,i<n+1/\σ i=σ (n+1)
  ·obtain⟨i,hi,e⟩:=q;exact⟨i,n+1,⋯,⋯,⋯,e⟩
  ·have ne:∀i,i<n+1->σ i≠σ (n+1):=λi hi e=>q ⟨i,hi,e⟩;have hv:=h (n+1) ⋯;obtain⟨i,j,hi,hj,hij,e⟩:=Qqq (n:=n) (λj=>if σ (n+1)<σ j then σ j-1 else σ j) λj hj=>by
    have:=h j ⋯;have:=ne j hj;show(if σ (n+1)<σ j then σ j-1 else σ j)<n;by_cases c:σ (n+1)<σ j
    ·rw[if_pos c];omega
    ·rw[if_neg c];omega
   refine⟨i,j,⋯,⋯,hij,?_⟩;have a:=ne i hi;have b:=ne j hj;have e:(if σ (n+1)<σ i then σ i-1 else σ i)=(if σ (n+1)<σ j then σ j-1 else σ j):=e;by_cases c:σ (n+1)<σ i
   ·rw[if_pos c]at e;by_cases d:σ (n+1)<σ j
    ·rw[if_pos d]at e;omega
    ·rw[if_neg d]at e;omega
   ·rw[if_neg c]at e;by_cases d:σ (n+1)<σ j
    ·rw[if_pos d]at e;omega
    ·rw[if_neg d]at e;omega
theorem QoM{n:Nat}{E:Mt2}{x:Mt2}:∀(k:Nat) (W:Mt2) (σ:Nat->Nat),k<=n+1->(∀j,j<n+1->σ j<n)->(∀j,j<k->W j=λr=>sm n λs=>x j s*E s r)->(∀j,k<=j->j<n+1->W j=E (σ j))->det (n+1) W=0
 | 0,W,σ,hk,hσ,_,h2=>by
  obtain⟨i,j,hi,hj,hij,e⟩:=Qqq σ hσ;exact Qee hi hj hij (by rw[h2 i ⋯ hi,h2 j ⋯ hj,e])
 | k+1,W,σ,hk,hσ,h1,h2=>by
  have:=Qd7 (n:=n+1) (m:=W) (c:=k) ⋯ (x k) E n;rw[← h1 k ⋯,Qas]at this;rw[this];refine Qj7 λs hs=>?_;rw[QoM k (cup W k (E s)) (λj=>if j=k then s else σ j) ⋯ (λj hj=>by show(if j=k then s else σ j)<n;by_cases e:j=k;(rw[if_pos e];exact hs);(rw[if_neg e];exact hσ j hj)) (λj hj=>by rw[QF _ _ ⋯];exact h1 j ⋯) λj h3 h4=>?_,ZC];show cup W k (E s) j=E (if j=k then s else σ j);by_cases e:j=k
  ·rw[e,QI,if_pos rfl]
  ·rw[QF _ _ e,if_neg e];exact h2 j ⋯ h4
noncomputable def cyc(m:Mt2)(a:Mt1)(l k:Nat):Nat->Nat->Int:=λc=>if c<k then m c else if c=k then a else if c<=l then m (c-1)else m c
theorem QwH(m:Mt2)(a:Mt1)(hk:k<l)(hl:l<n):det n (cyc m a l k)= -det n (cyc m a l (k+1)):=by
 have h:=QdY (n:=n) (m:=cyc m a l k) (c:=k) (d:=k+1) ⋯ ⋯ ⋯ a (m k);have e1:cup (cup (cyc m a l k) k a) (k+1) (m k)=cyc m a l k:=by
  have q1:cyc m a l k k=a:=by unfold cyc;rw[if_neg ⋯,if_pos rfl]
  have q2:cyc m a l k (k+1)=m k:=by unfold cyc;rw[if_neg ⋯,if_neg ⋯,if_pos ⋯,Zby]
  have:=Qas (cyc m a l k) k;rw[q1]at this;rw[this,← q2,Qas]
 have e2:cup (cup (cyc m a l k) k (m k)) (k+1) a=cyc m a l (k+1):=by
  funext c;by_cases h1:c=k+1
  ·subst h1;rw[QI];unfold cyc;rw[if_neg ⋯,if_pos rfl]
  ·rw[QF _ _ h1];by_cases h2:c=k
   ·subst h2;rw[QI];unfold cyc;rw[if_pos ⋯]
   ·rw[QF _ _ h2];unfold cyc;by_cases h3:c<k
    ·rw[if_pos h3,if_pos ⋯]
    ·rw[if_neg h3,if_neg h2,if_neg (show ¬c<k+1 by omega),if_neg h1]
 rw[e1,e2]at h;exact h
theorem QrE(m:Mt2)(a:Mt1)(hl:l<n):∀g k,k+g=l->det n (cyc m a l k)=sgn g*det n (cup m l a)
 | 0,k,h=>by
  have:cyc m a l k=cup m l a:=by
   funext c;unfold cyc cup;by_cases h1:c=l
   ·rw[if_neg ⋯,if_pos ⋯,if_pos h1]
   ·rw[if_neg h1];by_cases h2:c<k
    ·rw[if_pos h2]
    ·rw[if_neg h2,if_neg ⋯,if_neg ⋯]
  rw[this];unfold sgn;simp
 | g+1,k,h=>by
  rw[QwH m a ⋯ hl,QrE m a hl g (k+1) ⋯,Qlf,Zak]
theorem QzI(j:Nat):sgn j*sgn j=1:=by unfold sgn;split<;>rfl
noncomputable def bE(r s q:Nat):Int:=if q=0 then(if s=r then 1 else 0)else if s=q-1 then 1 else 0
theorem QiW(m:Mt2)(a:Mt1)(hr:r<n):det n m*a r=sm n λl=>det n (cup m l a)*m l r:=by
 have v0:∃v:Nat->Nat->Int,v=λj=>if j=0 then a else m (j-1):=⟨_,rfl⟩;obtain⟨v,hv⟩:=v0;have hv0:v 0=a:=by rw[hv];rfl
 have hvs:∀j,v (j+1)=m j:=λj=>by rw[hv];show(if j+1=0 then a else m (j+1-1))=_;rw[if_neg ⋯,Zby]
 have z:det (n+1) (λj s=>if s=0 then v j r else v j (s-1))=0:=by
  have key:det (n+1) (λj q=>sm n λs=>v j s*bE r s q)=0:=
   QoM (n+1) _ (λ_=>r) ⋯ (λ_ _=>hr) (λj _=>rfl) (λj h1 h2=> ⋯)
  rw[← key];refine QW λj hj s hs=>?_;by_cases e:s=0
  ·subst e;rw[if_pos rfl,QcL hr]
   ·unfold bE;rw[if_pos rfl,if_pos rfl,ZU]
   ·intro i _ ne;unfold bE;rw[if_pos rfl,if_neg ne,ZC]
  ·rw[if_neg e,QcL (c:=s-1) ⋯]
   ·unfold bE;rw[if_neg e,if_pos rfl,ZU]
   ·intro i _ ne;unfold bE;rw[if_neg e,if_neg ne,ZC]
 unfold det at z;have term:∀j,(sgn j*(if(0:Nat)=0 then v j r else v j (0-1))*det n λc q=>if q+1=0 then v (skp j c) r else v (skp j c) (q+1-1))=sgn j*v j r*det n λc=>v (skp j c):=λj=>by
  rw[if_pos rfl];congr 1
 have first:∀(k:Nat) (f:Mt1),sm (k+1) f=f 0+sm k λi=>f (i+1):=λk f=>by
  induction k with
  | zero=>show 0+f 0=f 0+0;omega
  | succ k ih=>show sm (k+1) f+f (k+1)=_;rw[ih];show _=f 0+(sm k (λi=>f (i+1))+f (k+1));omega
 rw[QaU λj _=>term j,first]at z;have t0:(λc=>v (skp 0 c))=m:=by funext c;unfold skp;rw[if_neg ⋯,hvs]
 have tl:∀l,l<n->sgn (l+1)*v (l+1) r*det n (λc=>v (skp (l+1) c))= -(det n (cup m l a)*m l r):=λl hl=>by
  have:(λc=>v (skp (l+1) c))=cyc m a l 0:=by
   funext c;unfold skp cyc;by_cases h0:c=0
   ·subst h0;rw[if_pos (show 0<l+1 by omega),if_neg (show ¬0<0 by omega),if_pos rfl,hv0]
   ·obtain⟨c',rfl⟩:∃c',c=c'+1:=⟨c-1,⋯⟩;rw[if_neg (show ¬c'+1<0 by omega),if_neg h0];by_cases h1:c'+1<=l
    ·rw[if_pos (show c'+1<l+1 by omega),if_pos h1,hvs,Zby]
    ·rw[if_neg (show ¬c'+1<l+1 by omega),if_neg h1,hvs]
  rw[this,QrE m a hl l 0 ⋯,hvs,Qlf];have q:=QzI l;generalize det n (cup m l a)=d at *;generalize m l r=x at *;have: -sgn l*x*(sgn l*d)= -(sgn l*sgn l*(d*x)):=by
   rw[Zak,Zak,Zq,ZS x,← Zq,ZL x d]
  rw[this,q,ZR]
 rw[t0,hv0]at z;have neg:=QhH (-1) 0 (λl=>det n (cup m l a)*m l r) (λ_=>0) n;rw[QaU (g:=λl=> -1*(det n (cup m l a)*m l r)+0*0) λl hl=>by rw[tl l hl];omega]at z;have s0:sgn 0=1:=rfl;rw[neg,s0,ZR]at z;rw[ZL];omega
theorem Qws(m:Mt2)(u a:Mt1)(hk:k<n)(hi:i<n)(hki:k≠i):det n m*det n (cup (cup m k u) i a)=det n (cup m k u)*det n (cup m i a)-det n (cup m i u)*det n (cup m k a):=by
 have h1:det n m*det n (cup (cup m k u) i a)=det n (cup (cup m i a) k λr=>det n m*u r):=by
  rw[QfR hk,Qaw _ _ _ hki]
 have h2:det n (cup (cup m i a) k λr=>det n m*u r)=det n (cup (cup m i a) k λr=>sm n λl=>det n (cup m l u)*m l r):=by
  refine QW λj hj r hr=>?_;by_cases e:j=k
  ·subst e;rw[QI,QI];exact QiW m u hr
  ·rw[QF _ _ e,QF _ _ e]
 rw[h1,h2,Qd7 hk (λl=>det n (cup m l u)) m n];have tk:det n (cup (cup m i a) k (m k))=det n (cup m i a):=by rw[Qaw _ _ _ (Ne.symm hki),Qas]
 have ti:det n (cup (cup m i a) k (m i))= -det n (cup m k a):=by
  rw[QdY hi hk (Ne.symm hki),Qas]
 have tn:∀l,l<n->l≠k->l≠i->det n (cup (cup m i a) k (m l))=0:=λl hl h1 h2=>Qee hk hl (Ne.symm h1) (by rw[QI,QF _ _ h1,QF _ _ h2]);rcases Nat.lt_or_gt_of_ne hki with h | h
 ·rw[Qmh h hi λl hl a b=>by rw[tn l hl a b,ZC],tk,ti,Zac];omega
 ·rw[Qmh h hk λl hl a b=>by rw[tn l hl b a,ZC],tk,ti,Zac];omega
noncomputable def QE(j r:Nat):Int:=if j=r then 1 else 0
theorem Qd0:∀n,det n QE=1
 | 0=>rfl
 | n+1=>by
  unfold det;rw[QcL (c:=0) ⋯ λi _ ne=>by unfold QE;rw[if_neg ne,ZC,ZA]];have:(λc r=>QE (skp 0 c) (r+1))=QE:=by
   funext c r;have e:skp 0 c=c+1:=by unfold skp;rw[if_neg ⋯]
   rw[e];unfold QE;by_cases h:c=r
   ·rw[if_pos h,if_pos ⋯]
   ·rw[if_neg h,if_neg ⋯]
  rw[this,Qd0 n];unfold QE sgn;simp
theorem Qpq(a:Mt1)(hi:i<n):det n (cup QE i a)=a i:=by
 have:=QiW QE a hi;rw[Qd0,ZR,QcL (c:=i) hi λl _ ne=>by rw[show QE l i=0 by unfold QE;rw[if_neg ne],ZC]]at this;rw[this,show QE i i=1 by unfold QE;rw[if_pos rfl],ZU]
structure Clr (n N k:Nat) (A m R:Mt2) (d:Int):Prop where
 le:k<=n
 det:HS.det n m=d
 nz:d≠0
 ent:∀i j,i<n->j<N->R i j=HS.det n (cup m i (A j))
 own:∀j,j<k->m j=A j
theorem Clr.start(n N:Nat)(A:Mt2):Clr n N 0 A QE (λi j=>A j i) 1:=⟨⋯,Qd0 n,by decide,λi j hi _=>(Qpq (A j) hi).symm,λj hj=> ⋯⟩
theorem Clr.exact{n N k:Nat}{A m R:Mt2}{d:Int}(h:Clr n N k A m R d)(hk:k<n)(kN:k<N){i j:Nat}(hi:i<n)(hj:j<N)(ne:i≠k):R k k*R i j-R i k*R k j=d*HS.det n (cup (cup m k (A k)) i (A j)):=by
 rw[h.ent k k hk kN,h.ent i j hi hj,h.ent i k hi kN,h.ent k j hk hj,← Qws m (A k) (A j) hk hi (Ne.symm ne),h.det]
theorem Clr.step{n N k:Nat}{A m R R':Mt2}{d:Int}(h:Clr n N k A m R d)(hk:k<n)(kN:k<N)(hp:R k k≠0)(h1:∀j,j<N->R' k j=R k j)(h2:∀i j,i<n->i≠k->j<N->∀q,R k k*R i j-R i k*R k j=d*q->R' i j=q):Clr n N (k+1) A (cup m k (A k)) R' (R k k):=by
 refine⟨hk,(h.ent k k hk kN).symm,hp,λi j hi hj=>?_,λj hj=>?_⟩
 ·by_cases e:i=k
  ·subst e;rw[h1 j hj,h.ent i j hi hj,Qmy]
  ·exact h2 i j hi e hj _ (h.exact hk kN hi hj e)
 ·by_cases e:j=k
  ·subst e;rw[QI]
  ·rw[QF _ _ e];exact h.own j ⋯
theorem Clr.tell{n N k:Nat}{A m R:Mt2}{d:Int}(h:Clr n N k A m R d){j r:Nat}(hj:j<N)(hr:r<n):d*A j r=sm n λl=>R l j*m l r:=by
 have:=QiW m (A j) hr;rw[h.det]at this;rw[this];exact QaU λl hl=>by rw[h.ent l j hl hj]
noncomputable def bnd(B:Nat):Nat->Nat
 | 0=>1
 | n+1=>(n+1)*(B*bnd B n)
theorem Qs1:∀{n:Nat},(∀i,i<n->(f i).natAbs<=C)->(sm n f).natAbs<=n*C
 | 0,_=>by simp[sm]
 | n+1,h=>by
  unfold sm;have h1:=Qs1 (n:=n) λi hi=>h i ⋯;have h2:=h n ⋯;have:=ZbI (sm n f) (f n);rw[Nat.succ_mul];omega
theorem Qxt(j:Nat):(sgn j).natAbs=1:=by unfold sgn;split<;>rfl
theorem Qd4:∀{n:Nat}{m:Mt2},(∀j,j<n->∀r,r<n->(m j r).natAbs<=B)->(det n m).natAbs<=bnd B n
 | 0,_,_=>by show(1:Int).natAbs<=1;decide
 | n+1,m,h=>by
  unfold det bnd;refine Qs1 λj hj=>?_;rw[Zad,Zad,Qxt,Nat.one_mul];refine ZaU (h j hj 0 ⋯) (Qd4 λc hc r hr=>h _ ?_ _ ⋯);unfold skp;split<;>omega
theorem QtG(hn:n<=8):bnd (2^200) n<2^2000:=by
 have h:∀k,k<9->bnd (2^200) k<2^2000:=by decide+kernel
 exact h n ⋯
def Qsr(n:Nat)(m:Mt2):Prop:=∀j,j<n->∀r,r<n->(m j r).natAbs<=2^200
def QjE(n:Nat)(A:Mt2):Prop:=∀k,k<n->∀c:Nat->Int,(∀r,r<=k->sm (k+1) (λl=>c l*A l r)=0)->c k=0
structure Qh2 (n N k:Nat) (A m R:Mt2) (d:Int):Prop where
 clr:Clr n N k A m R d
 unit:∀l,k<=l->l<n->m l=QE l
 col:Qsr n m
theorem Qsr.put(h:Qsr n m)(ha:∀r,r<n->(a r).natAbs<=2^200):Qsr n (cup m i a):=λj hj r hr=>by
 by_cases e:j=i
 ·subst e;rw[QI];exact ha r hr
 ·rw[QF _ _ e];exact h j hj r hr
theorem Qh2.start(n N:Nat)(A:Mt2):Qh2 n N 0 A QE (λi j=>A j i) 1:=⟨Clr.start n N A,λ_ _ _=>rfl,λj _ r _=>by unfold QE;split<;>decide⟩
theorem QgE:∀{n:Nat},k<=n->(∀i,k<=i->i<n->f i=0)->sm n f=sm k f
 | 0,h,_=>by rw[Nat.le_zero.mp h]
 | n+1,h,z=>by
  by_cases e:k=n+1
  ·rw[e]
  ·show sm n f+f n=sm k f;rw[QgE (n:=n) ⋯ λi h1 h2=>z i h1 ⋯,z n ⋯ ⋯,Zbt]
theorem Qh2.QB3{n N k:Nat}{A m R:Mt2}{d:Int}(h:Qh2 n N k A m R d)(hk:k<n)(kN:k<N)(hl:QjE n A):R k k≠0:=λz=>by
 refine h.clr.nz ?_;have:=hl k hk (λl=>if l=k then-d else R l k) λr hr=>by
  have t:=h.clr.tell kN (show r<n by omega);rw[QgE (k:=k) ⋯]at t
  ·show(sm k λl=>(if l=k then-d else R l k)*A l r)+(if k=k then-d else R k k)*A k r=0;rw[if_pos rfl,QaU (g:=λl=>R l k*m l r) λl hl=>by rw[if_neg ⋯,h.clr.own l hl],← t,Zak];omega
  ·intro l h1 h2;by_cases e:l=k
   ·rw[e,z,ZA]
   ·rw[h.unit l ⋯ h2,show QE l r=0 by unfold QE;rw[if_neg ⋯],ZC]
 rw[if_pos rfl]at this;omega
theorem Qh2.step{n N k:Nat}{A m R R':Mt2}{d:Int}(h:Qh2 n N k A m R d)(hk:k<n)(kN:k<N)(hA:∀j,j<N->∀r,r<n->(A j r).natAbs<=2^200)(hp:R k k≠0)(h1:∀j,j<N->R' k j=R k j)(h2:∀i j,i<n->i≠k->j<N->∀q,R k k*R i j-R i k*R k j=d*q->R' i j=q):Qh2 n N (k+1) A (cup m k (A k)) R' (R k k):=
 ⟨h.clr.step hk kN hp h1 h2,λl h3 h4=>by rw[QF _ _ ⋯];exact h.unit l ⋯ h4,h.col.put (hA k kN)⟩
theorem Qa6(h:i.natAbs<2^2000):Qbd i:=Zp (Zbz h) (by decide)
theorem QsM(hd:d≠0)(h:a=d*q):Qdb a d=q:=by
 rw[Qkg,h,Int.mul_fdiv_cancel_left q hd]
theorem Qdf(ha:fa ρ=some ra)(ea:ra.d= .int a)(hb:fb ρ=some rb)(eb:rb.d= .int b):dOp QaG fa fb ρ=some (reI (a-b)):=by
 refine Qap ha hb ?_;rw[ea,eb];rfl
theorem QeT(ha:fa ρ=some ra)(ea:ra.d= .int a)(hb:fb ρ=some rb)(eb:rb.d= .int b)(hz:b≠0)(h2:b.natAbs<2^2000)(h:a=b*q):dOp Qco fa fb ρ=some (reI q):=by
 refine Qap ha hb ?_;rw[ea,eb];show(if QbH b=true then some (D.int (Qdb a b))else none)=_;have:QbH b=true:=by
  unfold QbH;simp only[Zg,decide_eq_true_eq];exact⟨hz,Zw h2 (Zn (by decide) (by decide))⟩
 rw[if_pos this,QsM hz h]
noncomputable def QkD:DS:=(Qd (QH (QG (Qak vv0 vv1) (.tp [1,2]) [none,none,none,some 2,some 3,some 0,some 1] QO (dOp Qco (dOp QaG (Q7 (Qn vv6 vv3) vv1) (Q7 (Qn vv5 vv3) vv2)) vv4))) Qo)
noncomputable def Qg9(Qcq:Den)(QcZ:Den):DS:=(Qd (Qs 1 (QaA vv0)) (Qd (Qs 2 kk1) (Qd (Qa7 (QaY (dBf Qaa (Qa vv0 Qe))) (.nm 3) (Qd (Qs 1 (Qm 2 Qcq [] (Qa vv1 (Qa vv3 Qe)))) (Qd (Qs 4 (QaA (Qn vv1 vv3))) (Qd (sIf (QD (dOp gEq (Qn vv4 vv3) kk0)) (Qd (QH (QaP (Qa vv1 (Qa kk0 Qe)))) Qo) Qo) (Qd (Qs 1 (QG (Q2 vv1) (.nm 1) [none,none,some 3,some 2,some 4] QO (Qm 4 QcZ [] (Qa vv1 (Qa vv4 (Qa vv2 (Qa vv3 Qe))))))) (Qd (QbW 1 Qaf vv3 vv4) (Qd (Qs 2 (QaA (Qn vv4 vv3))) Qo))))))) (Qd (QH (QaP (Qa vv1 (Qa vv2 Qe)))) Qo))))
theorem Qbh(h:fs ρ=some r)(e:den (r.ds++dfl)=some (d,false))(hn:r.ds.length+dfl.length=n):Qm n den dfl fs ρ=some (R.norm ⟨d,false,r.M⟩):=by
 unfold Qm;rw[h,Za,if_pos hn,e];rfl
theorem Qto{k:Nat}(hx:ρ[x]? =some (slT (Qc n N g)))(hi:fi ρ=some (reI k))(ha:fa ρ=some (reF (Qb N p)))(hk:k<n)
  (q:Q (.nx (ρ.set x (slF (Qc n N (λi j=>if i=k then p j else g i j)))))):Run (QbW x Qaf fi fa) ρ Q:=by
 refine⟨_,?_,q⟩;unfold QbW;rw[ha,Za,hx];have hn:(HS.R.mk (Qb N p) false []).norm=(reF (Qb N p)):=by unfold R.norm Qb;rfl
 simp only[Qaf,Za,hi,Qc,Qbf,Zj,Zt,hn];rw[QbO (show(0:Int)<=k by omega) ⋯];simp only[Za,Zab];have e:((List.range n).map λi=>Qb N (g i)).set k (Qb N p)=(List.range n).map λi=>Qb N (λj=>if i=k then p j else g i j):=by
  refine Zbf λi=>?_;rw[ZbZ];by_cases h:k=i
  ·subst h;rw[if_pos rfl,if_pos (by simpa using hk),Zr,ZK hk];simp
  ·rw[if_neg h,Zr,Zr];by_cases h2:i<n
   ·rw[ZK h2];simp only[ZX,if_neg (Ne.symm h)]
   ·rw[Zu (by simpa using h2)];rfl
 rw[e];rfl
theorem Qbv(f:Mt1):∀n,sm n f=Qi n f
 | 0=>rfl
 | n+1=>by rw[Qai,← Qbv f n];rfl
theorem Qnj(h:∀i,i<m->0<=f i):0<=Qi m f:=by
 have:=QeV h;rw[Qaz]at this;exact this
theorem Qpb{m k:Nat}{T:Mt2}(tp:TP m T){c:Mt1}(h0:∀l,k<l->c l=0)(h:∀r,r<m->r<=k->0<=Qi m (λl=>c l*T l r)):∀l,l<m->c l<=0:=by
 obtain⟨w,w0,hw⟩:=tp.wt;have p0:∀l,0<=(if 0<c l then c l else 0):=λl=>by split<;>omega
 have v0:∀r,r<m->0<=Qi m (λl=>(if 0<c l then c l else 0)*T l r):=λr hr=>by
  by_cases h1:0<c r
  ·have hrk:r<=k:=by
    by_cases z:k<r
    ·rw[h0 r z]at h1;omega
    ·omega
   have e:Qi m (λl=>(if 0<c l then c l else 0)*T l r)=Qi m (λl=>((if 0<c l then c l else 0)-c l)*T l r)+Qi m (λl=>c l*T l r):=by
    rw[← Qat m (λl=>((if 0<c l then c l else 0)-c l)*T l r) (λl=>c l*T l r)];exact Qg λl _=>by rw[← ZQ];congr 1;omega
   rw[e];refine Int.add_nonneg ?_ (h r hr hrk);refine Qnj λl hl=>?_;by_cases e2:l=r
   ·subst e2;rw[if_pos h1,ZbH,ZA];exact Zbp _
   ·refine ZaD ?_ (tp.pos l r hl hr e2);split<;>omega
  ·refine Qnj λl hl=>?_;by_cases e2:l=r
   ·subst e2;rw[if_neg h1,ZA];exact Zbp _
   ·exact ZaD (p0 l) (tp.pos l r hl hr e2)
 have s1:0<=Qi m λr=>Qi m (λl=>(if 0<c l then c l else 0)*T l r)*w r:=by
  have:Qi m (λ_=>(0:Int))<=Qi m λr=>Qi m (λl=>(if 0<c l then c l else 0)*T l r)*w r:=QeV λr hr=>ZaD (v0 r hr) (w0 r);rw[Qaz]at this;exact this
 have s2:(Qi m λr=>Qi m (λl=>(if 0<c l then c l else 0)*T l r)*w r)=Qi m λl=>(if 0<c l then c l else 0)*Qi m λr=>T l r*w r:=by
  have e1:(λr=>Qi m (λl=>(if 0<c l then c l else 0)*T l r)*w r)=λr=>Qi m λl=>(if 0<c l then c l else 0)*(T l r*w r):=by
   funext r;rw[ZL,← QP];exact Qg λl _=>by rw[ZL (w r),Zq]
  rw[e1,Qbn];exact Qg λl _=>by rw[QP]
 have s3:(Qi m λl=>(if 0<c l then c l else 0)*Qi m λr=>T l r*w r)<=Qi m λl=> -(if 0<c l then c l else 0):=QeV λl hl=>by
  have:=ZZ (hw l hl) (p0 l);omega
 rw[Qbu]at s3;intro l hl;have big:(if 0<c l then c l else 0)<=Qi m λl=>(if 0<c l then c l else 0):=by
  have:=QaF (m:=m) hl (if 0<c l then c l else 0) (λ_=>1);have h2:Qi m (λi=>(if i=l then(if 0<c l then c l else 0)else 0)*1)<=Qi m λl=>(if 0<c l then c l else 0):=QeV λi _=>by
   rw[ZU];by_cases e:i=l
   ·subst e;rw[if_pos rfl];exact Zbp _
   ·rw[if_neg e];exact p0 i
  omega
 by_cases z:0<c l
 ·rw[if_pos z]at big;omega
 ·omega
theorem Qmw{m k:Nat}{T:Mt2}(tp:TP m T){c:Mt1}(h0:∀l,k<l->c l=0)(h:∀r,r<m->r<=k->Qi m (λl=>c l*T l r)=0):∀l,l<m->c l<=0:=Qpb tp h0 λr hr hk=>Int.le_of_eq (h r hr hk).symm
theorem QfU{m:Nat}{T:Mt2}(tp:TP m T):QjE m λl r=>0-T l r:=λk hk c h=>by
 have ext:∀r,r<=k->Qi m (λl=>(if l<=k then c l else 0)*T l r)=0:=λr hr=>by
  have e:=h r hr;rw[← Qbv,QgE (k:=k+1) ⋯]
  ·have n:=QhH (-1) 0 (λl=>c l*(0-T l r)) (λ_=>0) (k+1);rw[e]at n;rw[QaU (g:=λl=> -1*(c l*(0-T l r))+0*0) λl hl=>by rw[if_pos ⋯,ZY,Zac];omega,n];omega
  ·intro l h1 h2;rw[if_neg ⋯,ZA]
 have a:=Qmw tp (λl hl=>by show(if l<=k then c l else 0)=0;rw[if_neg ⋯]) (λr _ hr=>ext r hr) k hk;have b:=Qmw (k:=k) tp (λl hl=>by show(if l<=k then-c l else 0)=0;rw[if_neg ⋯]) (λr _ hr=>by
  have:=ext r hr;rw[Qg (g:=λl=> -((if l<=k then c l else 0)*T l r)) λl _=>by split<;>simp[Zak],Qbu,this];rfl) k hk
 have a:(if k<=k then c k else 0)<=0:=a;have b:(if k<=k then-c k else 0)<=0:=b;rw[if_pos (Zh k)]at a b;omega
noncomputable def Qlv:DS:=(Qd (QH (QG (Q2 vv0) (.nm 1) [none,none] QO (dOp QaG kk0 vv1))) Qo)
def QlT(d:Den):Prop:=∀(n:Nat) (a:Mt1),d [Qb n a]=some (Qb n λi=>0-a i,true)
theorem QAp:QlT (Qq 1 Qlv):=λn a=>QN (Qv (QB (List.range n) (Q1 rfl rfl) rfl λi _=>⟨[none,slI (a i)],rfl,reI (0-a i),rfl,rfl,rfl⟩) ⟨rfl,rfl⟩)
noncomputable def Qku(Qa2:Den)(Q9:Den):DS:=(Qd (QH (QG (Q2 (Qm 1 Q9 [] (Qa vv0 Qe))) (.nm 1) [none,none] QO (Qm 1 Qa2 [] (Qa vv1 Qe)))) Qo)
def Qgf(d:Den):Prop:=∀(m:Nat) (R L:Lpp),m<=1000->R.length+R.length+L.length<=1000000->(∀s∈R,Good m s)->(∀s∈L,Good m s)->d [QC m R L]=some (Qc m m λi j=>0-Qp m (Ql R L) i j,true)
theorem QuJ(ho:QlT dop)(ht:Qgt dt):Qgf (Qq 1 (Qku dop dt)):=λm R L hm hl hR hL=>by
 have et:=ht m R L hm hl hR hL;generalize Qp m (Ql R L)=T at *;exact QN (Qv (QB (List.range m) (Q1 (Qk rfl et rfl) rfl) rfl λi _=>⟨[none,slF (Qb m (T i))],rfl,reT (Qb m λj=>0-T i j),Qk rfl (ho m (T i)) rfl,rfl,rfl⟩) ⟨rfl,rfl⟩)
noncomputable def Qh1:DS:=(Qd (Qs 1 kk0) (Qd (Qa7 (Q2 vv0) (.nm 2) (Qd (Qs 3 (QaA vv2)) (Qd (Qca (QD (dOp gNe vv3 kk0)) (Qd (Qs 4 (dOp Qa0 vv1 vv3)) (Qd (Qs 1 (QaA vv3)) (Qd (Qs 3 (QaA vv4)) Qo)))) Qo))) (Qd (QH (dBf QpL (Qa vv1 Qe))) Qo)))
theorem Qwt:(t∣b/\t∣Qc3 a b)↔(t∣a/\t∣b):=by
 have e:Qc3 a b=a-b*Qdb a b:=by
  rw[Qkg,show Qc3 a b=a.fmod b from Qj5 a b,Int.fmod_def]
 rw[e];constructor
 ·rintro⟨h1,h2⟩;refine⟨?_,h1⟩;have:=ZaQ h2 (ZaC (c:=Qdb a b) h1);rwa[ZaV]at this
 ·rintro⟨h1,h2⟩;exact⟨h2,ZbA h1 (ZaC h2)⟩
theorem QyO(h:b≠0):(Qc3 a b).natAbs<b.natAbs:=by
 rw[show Qc3 a b=a.fmod b from Qj5 a b];by_cases hb:0<b
 ·have h1:=Zcq a hb;have h2:=Int.fmod_lt_of_pos a hb;omega
 ·have hb':0< -b:= ⋯
  have h1:=Zcq (-a) hb';have h2:=Int.fmod_lt_of_pos (-a) hb';have h3:=Int.neg_fmod_neg a b;omega
def Qic(d:Den):Prop:=∀(xs:List Int),∃g:Int,d [QA xs]=some (.int g,true)/\0<=g/\∀t,t∣g↔∀x∈xs,t∣x
theorem QtC:Qic (Qq 5 Qh1):=λxs=>by
 have key:Run Qh1 [slF (QA xs),none,none,none,none] λo=>match o with | .rt d fr=>fr=true/\∃g,d= .int g/\0<=g/\∀t,t∣g↔∀x∈xs,t∣x | _=>False:=by
  refine rsa rfl ?_;refine Qx (Qah xs (λk ρ=>∃g j2 j3 j4,(∀t,t∣g↔∀x∈xs.take k,t∣x)/\ρ=[slF (QA xs),slI g,j2,j3,j4]) (Q1 rfl rfl) rfl ⟨0,none,none,none,λt=>by simp,rfl⟩ ?_ ?_)
  ·rintro k x ρ hk ⟨g,j2,j3,j4,hg,rfl⟩;refine⟨[slF (QA xs),slI g,slI x,j3,j4],rfl,?_⟩;refine run_seq (Qz rfl ?_);rw[Qcf rfl];refine QaW (P:=λρ=>∃g' j4,(∀t,t∣g'↔(t∣g/\t∣x))/\ρ=[slF (QA xs),slI g',slI x,slI 0,j4]) ?_ ?_
   ·refine Qfe (λn ρ=>∃g' r j4,n=r.natAbs/\(∀t,(t∣g'/\t∣r)↔(t∣g/\t∣x))/\ρ=[slF (QA xs),slI g',slI x,slI r,j4]) ?_ x.natAbs _ ⟨g,x,j4,rfl,λ_=>Iff.rfl,rfl⟩;rintro n ρ ⟨g',r,j4,rfl,hd,rfl⟩;refine⟨!decide (r=0),Qw (Qb4 rfl rfl rfl rfl) rfl,λh=>?_,λh=>?_⟩
    ·have hr:r=0:=by simpa using h
     subst hr;exact⟨g',j4,λt=>by rw[← hd t];simp,rfl⟩
    ·have hr:r≠0:=by simpa using h
     refine rsa (Qap rfl rfl (by show(if r≠0 then some (D.int (Qc3 g' r))else none)=_;rw[if_pos hr])) ?_;refine run_seq (Qz rfl ?_);rw[Qcf rfl];refine run_seq (Qz rfl (Qt ?_));rw[Qcf rfl];exact⟨_,QyO hr,r,Qc3 g' r,_,rfl,λt=>Qwt.trans (hd t),rfl⟩
   ·rintro ρ ⟨g',j4,hd,rfl⟩;refine Qt ⟨g',_,_,_,λt=>?_,rfl⟩;rw[hd t,hg t,List.take_succ,hk];simp only[ZH,Option.toList_some,ZD];exact⟨λ⟨a,b⟩ y hy=>hy.elim (a y) λe=>e▸b,λa=>⟨λy hy=>a y (.inl hy),a x (.inr rfl)⟩⟩
  ·rintro ρ ⟨g,j2,j3,j4,hg,rfl⟩;rw[Zcj]at hg;refine Qv rfl ⟨rfl,_,rfl,by split<;>omega,λt=>?_⟩;rw[← hg t];split
   ·exact Int.dvd_neg
   ·exact Iff.rfl
 obtain⟨o,h1,h2⟩:=key;cases o with
 | rt d fr=>
  obtain⟨rfl,g,rfl,g0,hg⟩:=h2;exact⟨g,by show Option.bind (Qh1 [slF (QA xs),none,none,none,none]) outD=_;rw[h1];rfl,g0,hg⟩
 | _=>exact h2.elim
noncomputable def Qey(QbL:Den):DS:=(Qd (Qs 1 (Qm 1 QbL [] (Qa vv0 Qe))) (Qd (sIf (QD (dOp gEq (Qn vv1 kk1) kk0)) (Qd Qy Qo) Qo) (Qd (QH vv1) Qo)))
noncomputable def Qjm(Q5:Den)(Qax:Den)(Qbw:Den)(Qcg:Den):DS:=(Qd (Qs 2 (dBf Qaa (Qa vv0 Qe))) (Qd (sIf (QD (dOp gNe (dBf Qaa (Qa vv1 Qe)) vv2)) (Qd Qy Qo) Qo) (Qd (Qs 3 (Qm 1 Qax [] (Qa (QG (Qak (Qm 1 Q5 [] (Qa vv0 Qe)) vv1) (.tp [1,2]) [none,none,none] QO (QS vv1 (Qao (Qa vv2 Qe)))) Qe))) (Qd (Qs 4 (Qm 2 Qbw [] (Qa (Qn vv3 kk0) (Qa vv2 Qe)))) (Qd (Qs 5 (Qm 1 Qcg [] (Qa (QS vv4 (Qao (Qa (Qn vv3 kk1) Qe))) Qe))) (Qd (sIf (QD (dOp gLt (Qn vv3 kk1) kk0)) (Qd (Qs 5 (dOp QaG kk0 vv5)) Qo) Qo) (Qd (QH (QaP (Qa (QG (Q2 vv4) (.nm 1) [none,none,some 5] QO (dOp Qco vv1 vv2)) (Qa (dOp Qco (Qn vv3 kk1) vv5) Qe)))) Qo)))))))
theorem Qlp(ha:fa ρ=some ra)(ea:ra.d=Qb m f)(hb:fb ρ=some (reI x))(hm:m<=1000):QS fa (Qao (Qa fb Qe)) ρ=some (reT (Qb (m+1) (up f m x))):=by
 have hb:Qao (Qa fb Qe) ρ=some (reT (.lst [.int x])):=(Qtc (Qr hb (QK _)) (by simp)).trans rfl;unfold QS;rw[ha,Za,hb,Za,ea];simp only[Qb,Zj,Zt,QgL];rw[if_pos (by simp;omega)];unfold Qbq;rw[if_pos (by rw[Qdi,Zg];exact⟨Qb7 (λ_=>rfl) _,rfl⟩)];congr 3;rw[List.range_succ,ZaO];congr 1
 ·refine ZF λi hi=>?_;rw[Qda,if_neg (by have:=Ze.mp hi;omega)]
 ·show _=[D.int (up f m x m)];rw[Qda,if_pos rfl]
theorem Qgk(n:Nat)(f:Mt1):Qb n f=QA ((List.range n).map f):=by unfold Qb QA;rw[Zaj];rfl
def QkU(d:Den):Prop:=∀(n:Nat) (f:Mt2) (row:Mt1),n<=8->(∀j r,j<n->r<n->(f j r).natAbs<=2^200)->(∀r,r<n->(row r).natAbs<=2^200)->QjE n f->∃tops q,d [Qc n n f,Qb n row]=some (.tup [Qb n tops,.int q],true)/\0<q/\q.natAbs<2^2000/\(∀r,r<n->q*row r=sm n λl=>tops l*f l r)/\(∀l,l<n->(tops l).natAbs<2^2000)/\(q≠1->∃l,l<n/\¬q∣tops l)
noncomputable def QiS(QX:Den)(QaL:Den):DS:=(Qd (Qs 2 (Qm 2 QaL [] (Qa (Qm 1 QX [] (Qa vv0 Qe)) (Qa vv1 Qe)))) (Qd (QH (QG (Q2 (Qn vv2 kk0)) (.nm 1) [none,none,some 2] QO (dOp Qco vv1 (Qn vv2 kk1)))) Qo))
theorem Qna(ha:fa ρ=some ra)(ea:ra.d= .int a)(hb:fb ρ=some rb)(eb:rb.d= .int b)(h:0<b)(h2:b.natAbs<2^2000):dOp Qco fa fb ρ=some (reI (a / b)):=by
 refine Qap ha hb ?_;rw[ea,eb];show(if QbH b=true then some (D.int (Qdb a b))else none)=_;have:QbH b=true:=by
  unfold QbH;simp only[Zg,decide_eq_true_eq];exact⟨⋯,Zw h2 (Zn (by decide) (by decide))⟩
 rw[if_pos this,Qid _ _ ⋯]
theorem Qvd(h:∀i,i<m-> -C<=f i/\f i<=C): -(m*C)<=Qi m f/\Qi m f<=m*C:=by
 induction m with
 | zero=>simp[Qi]
 | succ m ih=>
  rw[Qai];have h1:=ih λi hi=>h i ⋯;have h2:=h m ⋯;have e:((m+1:Nat):Int)*C=m*C+C:=by rw[ZaP,ZQ];simp
  omega
theorem Qus{m:Nat}{T:Mt2}(hm:m<=8)(hT:∀i j,i<m->j<m->(T i j).natAbs<2^64){f tops:Mt1}{q:Int}(q0:0<q)(h:∀r,r<m->q*f r=sm m λl=>tops l*(0-T l r)):∀r,r<m-> -(2^67)<=Qf m T f (λl=>tops l / q) r/\Qf m T f (λl=>tops l / q) r<=2^67:=λr hr=>by
 have e:q*Qf m T f (λl=>tops l / q) r=Qi m λl=> -(tops l % q)*T l r:=by
  unfold Qf;rw[ZaB,h r hr,Qbv,← QP,← Qat];refine Qg λl _=>?_;have:=ZaX (tops l) q;have e2:q*(tops l / q*T l r)=(q*(tops l / q))*T l r:=by rw[Zq]
  rw[e2,show q*(tops l / q)=tops l-tops l % q by omega,ZY,Zac,Int.sub_mul,Zak];omega
 have b:=Qvd (f:=λl=> -(tops l % q)*T l r) (C:=q*2^64) λl hl=>by
  have h1:=ZI (tops l) (by omega:q≠0);have h2:=ZG (tops l) q0;have h3:=hT l r hl hr;have h4:tops l % q*(T l r)<=q*2^64/\ -(q*2^64)<=tops l % q*(T l r):=by
   have a1:tops l % q*T l r<=tops l % q*2^64:=ZZ ⋯ h1;have a2:tops l % q*2^64<=q*2^64:=Zan ⋯ (by decide);have a3:tops l % q*(-(2^64))<=tops l % q*T l r:=ZZ ⋯ h1;rw[Zac]at a3;omega
  rw[Zak];omega
 rw[← e]at b;have hm':(m:Int)*(q*2^64)<=8*(q*2^64):=Zan ⋯ ⋯;generalize Qf m T f (λl=>tops l / q) r=x at b ⊢;constructor
 ·refine ZP λz=>?_;have:=ZZ (show x<= -(2^67)-1 by omega) (show 0<=q by omega);rw[ZbP,Zac,ZU]at this;omega
 ·refine ZP λz=>?_;have:=ZZ (show(2^67+1:Int)<=x by omega) (show 0<=q by omega);rw[ZaB,ZU]at this;omega
noncomputable def QgS(QcV:Den):DS:=(Qd (QH (QG (Q2 (Qm 1 QcV [] (Qa vv0 Qe))) (.nm 1) [none,none] QO (Q7 kk2 vv1))) Qo)
def Qja(d:Den):Prop:=∀(m:Nat) (R L:Lpp),m<=1000->R.length+R.length+L.length<=1000000->(∀s∈R,Good m s)->(∀s∈L,Good m s)->d [QC m R L]=some (Qb m λi=>2*QcI R L i,true)
theorem Qr0(hs:QpB ds):Qja (Qq 1 (QgS ds)):=λm R L hm hl hR hL=>
 QN (Qv (QB (List.range m) (Q1 (Qk rfl (hs m R L hm hl hR hL) rfl) rfl) rfl λi _=>⟨[none,slI (QcI R L i)],rfl,reI (2*QcI R L i),Qan rfl rfl rfl rfl (Qc0 (by decide)),rfl,rfl⟩) ⟨rfl,rfl⟩)
theorem QpG(hN:n<=N)(hA:∀j,j<N->∀r,r<n->(A j r).natAbs<=2^200)(hl:QjE n A):∀k,k<=n->∃m R d,Qh2 n N k A m R d
 | 0,_=>⟨_,_,_,Qh2.start n N A⟩
 | k+1,hk=>by
  obtain⟨m,R,d,C⟩:=QpG hN hA hl k ⋯;have pv:=C.QB3 (show k<n by omega) ⋯ hl;have ex:∀i j,∃q,i<n->i≠k->j<N->R k k*R i j-R i k*R k j=d*q:=λi j=>by
   by_cases h:i<n/\i≠k/\j<N
   ·exact⟨_,λh1 h2 h3=>C.clr.exact ⋯ ⋯ h1 h3 h2⟩
   ·exact⟨0,λh1 h2 h3=>absurd ⟨h1,h2,h3⟩ h⟩
  refine⟨_,λi j=>if i=k then R k j else(ex i j).choose,_,C.step ⋯ ⋯ hA pv (λj _=>by rw[if_pos rfl]) λi j hi ne hj q hq=>?_⟩;rw[if_neg ne];exact Zah C.clr.nz (((ex i j).choose_spec hi ne hj).symm.trans hq)
theorem QpE{n N:Nat}(n8:n<=8){A:Mt2}{g v:Mt1}(hA:∀j,j<n->∀r,r<n->(A j r).natAbs<=2^200)(hl:QjE n A)(hg:∀r,r<n->(g r).natAbs<=2^200)(h:∀r,r<n->g r=sm n λl=>v l*A l r):∀l,l<n->(v l).natAbs<2^2000:=λl hln=>by
 obtain⟨m,R,d,C⟩:=QpG (Zh n) hA hl n (Zh n);have e1:det n (cup A l g)=v l*det n A:=by
  have e:det n (cup A l g)=det n (cup A l λr=>sm n λi=>v i*A i r):=by
   refine QW λj hj r hr=>?_;by_cases q:j=l
   ·subst q;rw[QI,QI];exact h r hr
   ·rw[QF _ _ q,QF _ _ q]
  rw[e,Qd7 hln v A n,QcL hln λi hi ne=>by rw[Qee hln hi (Ne.symm ne) (by rw[QI,QF _ _ ne]),ZC],Qas]
 have e2:det n A=d:=by
  rw[← C.clr.det];exact QW λj hj r _=>by rw[C.clr.own j hj]
 have b:=ZO (Qd4 (m:=cup A l g) λj hj r hr=>by
  by_cases q:j=l
  ·subst q;rw[QI];exact hg r hr
  ·rw[QF _ _ q];exact hA j hj r hr) (QtG n8)
 rw[e1,e2,Zad]at b;have dz:=C.clr.nz;have:=ZbB (v l).natAbs (show 0<d.natAbs by omega);omega
noncomputable def QM(m:Nat)(T:Mt2)(v:Mt1):Nat->Int:=λj=>2*(0-T j j)-Qf m T (λj=>2*(0-T j j)) v j
theorem Qg3(j:Nat):QM m T v j= -Qi m λi=>v i*T i j:=by
 unfold QM Qf;show 2*(0-T j j)-(2*(0-T j j)+_)=_;omega
def Rec(m:Nat)(T:Mt2)(v x:Mt1):Prop:=∃(y u:Mt1),(∀j,j<m->0<=y j)/\Told m T (λj=>y j+QM m T v j) u/\∀j,j<m->x j=Qf m T (λj=>y j+QM m T v j) u j
structure Dbl (m:Nat) (T:Mt2) (v:Mt1):Prop where
 told:Told m T (λj=>2*(0-T j j)) v
theorem Dbl.big(h:Dbl m T v)(hj:j<m):(0-T j j)+1<=QM m T v j/\QM m T v j<=2*(0-T j j):=by
 have h1:=h.told.stb j hj;have h2:=h.told.pos j hj;unfold QM;omega
noncomputable def QqZ(Q3:Den)(QbZ:Den)(Qf1:Den)(Qbg:Den)(QcQ:Den):DS:=(Qd (Qdp (Qm 2 Q3 [] (Qa vv0 (Qa (Qao (Qa vv1 Qe)) Qe)))) (Qd (Qs 2 (Qm 2 QbZ [] (Qa vv0 (Qa vv1 Qe)))) (Qd (Qs 3 (Qm 3 Qf1 [] (Qa vv0 (Qa vv1 (Qa vv2 Qe))))) (Qd (Qs 4 (Qm 2 QcQ [] (Qa vv0 (Qa (Qm 1 Qbg [] (Qa vv0 Qe)) Qe)))) (Qd (Qs 5 (QG (Qak (Qm 1 Qbg [] (Qa vv0 Qe)) (Qn vv4 kk0)) (.tp [1,2]) [none,none,none] QO (dOp QaG vv1 vv2))) (Qd (Qs 6 (QS (dBf Qh0 (Qa (QS (Qao (Qa kk0 Qe)) (QG (Qak vv3 vv5) (.tp [1,2]) [none,none,none] QO (dOp QaG kk0 (dOp Qco vv1 vv2)))) Qe)) kk1)) (Qd (Qs 7 (QG (Qak vv3 vv5) (.tp [1,2]) [none,none,none,some 6] QO (QS vv1 (Q7 vv3 vv2)))) (Qd (Qs 8 (Qm 2 QcQ [] (Qa vv0 (Qa vv7 Qe)))) (Qd (Qs 9 (QG (QhI vv2 (Qn vv4 kk1) (Qn vv8 kk1)) (.tp [1,2,3]) [none,none,none,none,some 6] QO (QS (dOp QaG vv1 (Q7 vv4 vv2)) vv3))) (Qd (QH (QaP (Qa (Qn vv8 kk0) (Qa vv9 Qe)))) Qo))))))))))
theorem QCb:Qg2 ((List.range m).map f) ((List.range m).map g) ((List.range m).map h)=(List.range m).map λi=> .tup [f i,g i,h i]:=by
 unfold Qg2;refine Zbf λi=>?_;by_cases hi:i<m
 ·have a:∀(k:Nat->D),((List.range m).map k)[i]? =some (k i):=λk=>by rw[Zr,ZK hi];rfl
  have e1:(((List.range m).map g).zip ((List.range m).map h))[i]? =some (g i,h i):=ZaG.mpr ⟨a g,a h⟩;have e2:(((List.range m).map f).zip (((List.range m).map g).zip ((List.range m).map h)))[i]? =some (f i,(g i,h i)):=ZaG.mpr ⟨a f,e1⟩;rw[Zr,e2,a];rfl
 ·rw[Zu (by simp;omega),Zu (by simp;omega)]
theorem QkO(ha:fa ρ=some ra)(ea:ra.d= .lst ((List.range m).map f))(hb:fb ρ=some rb)(eb:rb.d= .lst ((List.range m).map g))(hc:fc ρ=some rc)(ec:rc.d= .lst ((List.range m).map h)):QhI fa fb fc ρ=some ⟨(List.range m).map λi=> .tup [f i,g i,h i],ra.M++(rb.M++rc.M)⟩:=by
 unfold QhI;rw[ha,Za,hb,Za,hc,Za,ea,eb,ec];show(if _ then _ else _)=_;rw[if_pos (by simp),QCb]
def QhF(d:Den):Prop:=∀(m:Nat) (R L:Lpp) (f:Mt1),0<m->m<=8->Qa5 m R L->(∀j,j<m->(f j).natAbs<=2^200)->∃k v,d [QC m R L,Qb m f]=some (.tup [Qb m (Qf m (Qp m (Ql R L)) f k),Qb m k],true)/\Dbl m (Qp m (Ql R L)) v/\Rec m (Qp m (Ql R L)) v (Qf m (Qp m (Ql R L)) f k)/\Stb m (Qp m (Ql R L)) (Qf m (Qp m (Ql R L)) f k)/\∀j,j<m->0<=Qf m (Qp m (Ql R L)) f k j
theorem Dbl.round{m:Nat}{T:Mt2}{v:Mt1}(h:Dbl m T v)(tp:TP m T){y u:Mt1}(y0:∀j,j<m->0<=y j)(hu:Told m T (λj=>y j+QM m T v j) u):Told m T (λj=>y j+QM m T v j+QM m T v j) (λi=>v i+u i)/\∀j,j<m->Qf m T (λj=>y j+QM m T v j) u j=Qf m T (λj=>y j+QM m T v j+QM m T v j) (λi=>v i+u i) j:=by
 refine h.told.lay (λj hj=>?_) (λj hj=>?_) hu
 ·have b:=h.big hj;have:=h.told.stb j hj;have e:QM m T v j=2*(0-T j j)-Qf m T (λj=>2*(0-T j j)) v j:=rfl;have:=y0 j hj;omega
 ·have e:QM m T v j=2*(0-T j j)-Qf m T (λj=>2*(0-T j j)) v j:=rfl;omega
theorem Rec.comes{m:Nat}{T:Mt2}{v x w:Mt1}(tp:TP m T)(h:Dbl m T v)(hr:Rec m T v x)(hw:Told m T (λj=>x j+QM m T v j) w):∀j,j<m->Qf m T (λj=>x j+QM m T v j) w j=x j:=λj hj=>by
 obtain⟨y,u,y0,hu,ex⟩:=hr;obtain⟨t2,e2⟩:=h.round tp y0 hu;obtain⟨t1,e1⟩:=hu.lay (F':=λj=>y j+QM m T v j+QM m T v j) (λj hj=>by have:=h.big hj;have:=tp.neg j hj;show _<=y j+QM m T v j+QM m T v j;omega) (λj hj=>by show x j+_=_;rw[ex j hj];omega) hw;have one:=t1.one tp t2;rw[e1 j hj,ex j hj,e2 j hj];exact QaN j rfl one
theorem Dbl.pos(tp:TP m T)(h:Dbl m T v)(hj:j<m):1<=v j:=by
 refine ZP λz=>?_;have v0:v j=0:=by have:=h.told.leg.nonneg j;omega
 have s:=h.told.stb j hj;have:0<=Qi m λi=>v i*T i j:=Qnj λi hi=>by
  by_cases e:i=j
  ·rw[e,v0,ZA];exact Zbp _
  ·exact ZaD (h.told.leg.nonneg i) (tp.pos i j hi hj e)
 have e:Qf m T (λj=>2*(0-T j j)) v j=2*(0-T j j)+Qi m λi=>v i*T i j:=rfl;have:=tp.neg j hj;omega
theorem Rec.Qxh{m:Nat}{T:Mt2}{v y u:Mt1}(tp:TP m T)(h:Dbl m T v)(y0:∀j,j<m->0<=y j)(hu:Told m T (λj=>y j+QM m T v j) u):∀N:Nat,Told m T (λj=>(y j+N*QM m T v j)+QM m T v j) (λi=>u i+N*v i)/\∀j,j<m->Qf m T (λj=>(y j+N*QM m T v j)+QM m T v j) (λi=>u i+N*v i) j=Qf m T (λj=>y j+QM m T v j) u j
 | 0=>by
  have e1:(λj=>(y j+((0:Nat):Int)*QM m T v j)+QM m T v j)=λj=>y j+QM m T v j:=by funext j;simp
  have e2:(λi=>u i+((0:Nat):Int)*v i)=u:=by funext i;simp
  rw[e1,e2];exact⟨hu,λ_ _=>rfl⟩
 | N+1=>by
  obtain⟨t,e⟩:=Rec.Qxh tp h y0 hu N;obtain⟨t2,e2⟩:=h.round tp (λj hj=>by
   have:=h.big hj;have:=tp.neg j hj;have:=ZaD (show(0:Int)<=N by omega) (show 0<=QM m T v j by omega);have:=y0 j hj;show 0<=y j+N*QM m T v j;omega) t
  have e3:(λj=>(y j+((N+1:Nat):Int)*QM m T v j)+QM m T v j)=λj=>y j+N*QM m T v j+QM m T v j+QM m T v j:=by
   funext j;rw[ZaP,ZQ];simp;omega
  have e4:(λi=>u i+((N+1:Nat):Int)*v i)=λi=>v i+(u i+N*v i):=by
   funext i;rw[ZaP,ZQ];simp;omega
  rw[e3,e4];exact⟨t2,λj hj=>by rw[← e2 j hj,e j hj]⟩
theorem Qnl(j:Nat):Qf m T (Qf m T f c) d j=Qf m T f (λi=>c i+d i) j:=by
 unfold Qf;have:(λi=>(c i+d i)*T i j)=λi=>c i*T i j+d i*T i j:=by funext i;rw[ZQ]
 rw[this,Qat];omega
theorem QvN(d:Mt1):∃N:Nat,∀i,i<m-> -(N:Int)<=d i:=by
 induction m with
 | zero=>exact⟨0,λi hi=> ⋯⟩
 | succ m ih=>
  obtain⟨N,h⟩:=ih;refine⟨N+(d m).natAbs,λi hi=>?_⟩;by_cases e:i=m
  ·subst e;omega
  ·have:=h i ⋯;omega
theorem Rec.least{m:Nat}{T:Mt2}{v x d:Mt1}(tp:TP m T)(h:Dbl m T v)(hr:Rec m T v x)(hs:Stb m T (Qf m T x d)):∀i,i<m->0<=d i:=by
 obtain⟨y,u,y0,hu,ex⟩:=hr;obtain⟨N,hN⟩:=QvN d;obtain⟨t,e⟩:=Rec.Qxh tp h y0 hu N;have:=t.leg.least tp (c':=λi=>(u i+N*v i)+d i) (λi hi=>by
  have h1:=h.pos tp hi;have h2:=hu.leg.nonneg i;have h3:=hN i hi;have h4:=ZZ h1 (show(0:Int)<=N by omega);show 0<=u i+N*v i+d i;omega) (λp hp=>by
  have:=hs p hp;rw[← Qnl];have e2:Qf m T (Qf m T (λj=>(y j+N*QM m T v j)+QM m T v j) λi=>u i+N*v i) d p=Qf m T x d p:=QaN p (by rw[e p hp,ex p hp]) λ_ _=>rfl;rw[e2];exact this)
 intro i hi;have:=this i hi;omega
theorem Rec.one(tp:TP m T)(h:Dbl m T v)(h':Dbl m T v')(hr:Rec m T v x)(hr':Rec m T v' x')(sx:Stb m T x)(sx':Stb m T x')(e:∀j,j<m->x' j=Qf m T x d j):∀i,i<m->d i=0:=λi hi=>by
 have a:=hr.least tp h (λp hp=>by rw[← e p hp];exact sx' p hp) i hi;have b:=hr'.least tp h' (λp hp=>by
  have:Qf m T x' (λi=> -d i) p=x p:=by
   have q:Qf m T x' (λi=> -d i) p=Qf m T (Qf m T x d) (λi=> -d i) p:=QaN p (e p hp) λ_ _=>rfl;rw[q,Qnl];unfold Qf;rw[Qg λi _=>by show(d i+ -d i)*T i p=0;rw[Int.add_right_neg,ZA],Qaz];omega
  rw[this];exact sx p hp) i hi
 omega
noncomputable def Qck:DS:=(Qd (Qa7 (Qak vv0 vv2) (.tp [3,4]) (Qd (Qs 1 (QG (Qak vv1 vv3) (.tp [1,2]) [none,none,none,some 4] QO (QS vv1 (Q7 vv3 vv2)))) Qo)) (Qd (QH vv1) Qo))
def QfO(d:Den):Prop:=∀(m:Nat) (T:Mt2) (f c:Mt1),0<m->m<=1000->(∀i j,i<m->j<m->(T i j).natAbs<2^64)->d [Qc m m T,Qb m f,Qb m c]=some (Qb m (Qf m T f c),true)
theorem QqX:QfO (Qq 5 Qck):=λm T f c m0 hm hT=>by
 have key:Run Qck [slF (Qc m m T),slF (Qb m f),slF (Qb m c),none,none] λo=>match o with | .rt d fr=>fr=true/\d=Qb m (Qf m T f c) | _=>False:=by
  refine Qx (Qah (List.range m) (λk ρ=>∃b j3 j4,(0<k->b=true)/\ρ=[slF (Qc m m T),some (Qb m (λj=>f j+Qi k λi=>c i*T i j),b),slF (Qb m c),j3,j4]) (Qac rfl rfl rfl rfl) rfl ⟨false,none,none,λh=> ⋯,?_⟩ ?_ ?_)
  ·show [slF (Qc m m T),slF (Qb m f),slF (Qb m c),none,none]=_;rw[show(λj=>f j+Qi 0 λi=>c i*T i j)=f from by funext j;simp[Qi]]
  ·rintro k k' ρ hk ⟨b,j3,j4,_,rfl⟩;obtain⟨hkm,rfl⟩:=QbF hk;refine⟨[slF (Qc m m T),some (Qb m (λj=>f j+Qi k λi=>c i*T i j),b),slF (Qb m c),slF (Qb m (T k)),slI (c k)],rfl,?_⟩;refine run_seq (Qz (QB (out:=λ(j:Nat)=> .int (f j+Qi (k+1) λi=>c i*T i j)) (List.range m) (ir:=⟨(List.range m).map λj=> .tup [.int (f j+Qi k λi=>c i*T i j),.int (T k j)],if b=true then [1]else []⟩) (by cases b;exact Qac (ra:=reF (Qb m (λj=>f j+Qi k λi=>c i*T i j))) (rb:=reF (Qb m (T k))) rfl rfl rfl rfl;exact Qac (ra:=⟨Qb m (λj=>f j+Qi k λi=>c i*T i j),true,[1]⟩) (rb:=reF (Qb m (T k))) rfl rfl rfl rfl) rfl λj hj=>⟨[none,slI (f j+Qi k λi=>c i*T i j),slI (T k j),slI (c k)],rfl,reI (f j+(Qi k λi=>c i*T i j)+c k*T k j),Qad rfl rfl (Qan rfl rfl rfl rfl (QcW (hT k j hkm (Ze.mp hj)))) rfl,by rw[Qai,Zcv],rfl⟩) (Qt ?_));rw[QaJ];exact⟨true,_,_,λ_=>rfl,rfl⟩
  ·rintro ρ ⟨b,j3,j4,hb,rfl⟩;rw[Zt]at hb ⊢;have hb:=hb m0;subst hb;exact Qv rfl ⟨rfl,rfl⟩
 obtain⟨o,h1,h2⟩:=key;cases o with
 | rt d fr=>
  obtain⟨rfl,rfl⟩:=h2;show Option.bind (Qck [slF (Qc m m T),slF (Qb m f),slF (Qb m c),none,none]) outD=_;rw[h1];rfl
 | _=>exact h2.elim
noncomputable def Qc6:DS:=(Qd (Qs 2 (dC (.bl true))) (Qd (Qca (QD vv2) (Qd (Qs 2 (dC (.bl false))) (Qd (Qa7 (QaY (dBf Qaa (Qa vv1 Qe))) (.nm 3) (Qd (Qs 4 (dOp Qco (Qn vv1 vv3) (dOp QaG kk0 (Qn (Qn vv0 vv3) vv3)))) (Qd (sIf (QD (dOp gGt vv4 kk0)) (Qd (Qs 1 (QG (Qak vv1 (Qn vv0 vv3)) (.tp [1,2]) [none,none,none,some 4] QO (QS vv1 (Q7 vv3 vv2)))) (Qd (Qs 2 (dC (.bl true))) Qo)) Qo) Qo))) Qo))) (Qd (QH vv1) Qo)))
def QpU(d:Den):Prop:=∀(m:Nat) (T:Mt2) (f:Mt1),m<=1000->TP m T->(∀j,j<m->0<=f j)->∃c fr,d [Qc m m T,Qb m f]=some (Qb m (Qf m T f c),fr)/\Told m T f c
theorem Qpa{m:Nat}{T:Mt2}{f:Mt1}:Qf m T f (λ_=>0)=f:=by
 funext j;unfold Qf;rw[Qg λi _=>ZA _,Qaz,Zbt]
theorem Qx9:QpU (Qq 5 Qc6):=λm T f hm tp hpos=>by
 obtain⟨w,hw0,hw⟩:=tp.wt;have key:Run Qc6 [slF (Qc m m T),slF (Qb m f),none,none,none] (Rt λd fr=>∃k',d=Qb m (Qf m T f k')/\Leg m T f k'/\(∀j,j<m->0<=Qf m T f k' j)/\Stb m T (Qf m T f k')):=by
  refine rsa (d:= .bl true) rfl ?_;refine run_seq (Run.mono (Q:=Nx λρ=>∃k' bh j2 j3 j4,Leg m T f k'/\(∀j,j<m->0<=Qf m T f k' j)/\Stb m T (Qf m T f k')/\ρ=[slF (Qc m m T),some (Qb m (Qf m T f k'),bh),j2,j3,j4]) ?_ ?_)
  ·refine Qfe (λn ρ=>∃k' bz bh j3 j4,Leg m T f k'/\(∀j,j<m->0<=Qf m T f k' j)/\(bz=false->Stb m T (Qf m T f k'))/\n=(wtF m w (Qf m T f k')).toNat+(if bz=true then 1 else 0)/\ρ=[slF (Qc m m T),some (Qb m (Qf m T f k'),bh),slT (.bl bz),j3,j4]) ?_ _ _ ⟨λ_=>0,true,false,none,none,.nil,λj hj=>by rw[Qpa];exact hpos j hj,λh=>by(cases h),rfl,by rw[Qpa];rfl⟩;rintro n ρ ⟨k',bz,bh,j3,j4,hL,hP,hS,rfl,rfl⟩;refine⟨bz,Qw (b:=bz) rfl rfl,λh=>⟨k',_,_,_,_,hL,hP,hS h,rfl⟩,λhb=>?_⟩;subst hb;refine rsa (d:= .bl false) rfl ?_;refine Qx (Run.mono (Q:=Nx λρ=>∃k2 b2 bh j3 j4,Leg m T f k2/\(∀j,j<m->0<=Qf m T f k2 j)/\(b2=false->Stb m T (Qf m T f k2))/\(wtF m w (Qf m T f k2)+(if b2=true then 1 else 0)<=wtF m w (Qf m T f k'))/\ρ=[slF (Qc m m T),some (Qb m (Qf m T f k2),bh),slT (.bl b2),j3,j4]) ?_ ?_)
   ·refine Qah (toD:=λ(p:Nat)=> .int (p:Int)) (List.range m) (λi ρ=>∃k2 b2 bh j3 j4,Leg m T f k2/\(∀j,j<m->0<=Qf m T f k2 j)/\(b2=false->∀p,p<i->Qf m T f k2 p<0-T p p)/\(wtF m w (Qf m T f k2)+(if b2=true then 1 else 0)<=wtF m w (Qf m T f k'))/\ρ=[slF (Qc m m T),some (Qb m (Qf m T f k2),bh),slT (.bl b2),j3,j4]) (Qbc (n:=m) ((by cases bh;exact Qc8 (xs:=(List.range m).map λi=> .int (Qf m T f k' i)) (r:=reF (Qb m (Qf m T f k'))) rfl rfl;exact Qc8 (xs:=(List.range m).map λi=> .int (Qf m T f k' i)) (r:=⟨Qb m (Qf m T f k'),true,[1]⟩) rfl rfl:dBf Qaa (Qa (Qh 1) Qe) _=some (reT (.int ((List.range m).map λi=>D.int (Qf m T f k' i)).length))).trans (by rw[Zj,Zt])) rfl ⋯) rfl ⟨k',false,_,_,_,hL,hP,λ_ p hp=>absurd hp ⋯,by simp,rfl⟩ ?_ ?_
    ·rintro i p ρ hi ⟨k2,b2,bh,j3,j4,hL2,hP2,hS2,hW2,rfl⟩;have hp':i<m/\i=p:=by
      obtain⟨h1,h2⟩:=Zi.mp hi;simp at h1 h2;exact⟨h1,h2⟩
     obtain⟨him,rfl⟩:=hp';have hneg:=tp.neg i him;have hb:=tp.bnd i i him him;have h0:=hP2 i him;refine⟨[slF (Qc m m T),some (Qb m (Qf m T f k2),bh),slT (.bl b2),slI i,j4],rfl,?_⟩;have eT:Qn (Qh 0) (Qh 3) [slF (Qc m m T),some (Qb m (Qf m T f k2),bh),slT (.bl b2),slI i,j4]=some (reF (Qb m (T i))):=(QdG (m:=m) (n:=m) (f:=T) (i:=i) (ra:=reF (Qc m m T)) (rb:=reI i) rfl rfl rfl rfl ⋯ ⋯).trans rfl;have eh:Qn (Qh 1) (Qh 3) [slF (Qc m m T),some (Qb m (Qf m T f k2),bh),slT (.bl b2),slI i,j4]=some (reI (Qf m T f k2 i)):=by
      cases bh
      ·exact Qae (m:=m) (f:=Qf m T f k2) (i:=i) (ra:=reF (Qb m (Qf m T f k2))) (rb:=reI i) rfl rfl rfl rfl him
      ·exact Qae (m:=m) (f:=Qf m T f k2) (i:=i) (ra:=⟨Qb m (Qf m T f k2),true,[1]⟩) (rb:=reI i) rfl rfl rfl rfl him
     refine rsa (Qq6 (a:=Qf m T f k2 i) (b:=0-T i i) eh rfl (Qdf (a:=0) (b:=T i i) (ra:=reI 0) rfl rfl (Qae (m:=m) (f:=T i) (i:=i) eT rfl (rb:=reI i) rfl rfl him) rfl) rfl ⋯ ⋯) ?_;generalize et:Qf m T f k2 i / (0-T i i)=t;have t0:0<=t:=by rw[← et];exact Zbb h0 ⋯
     refine Qx (QQ (b:=decide (0<t)) (Qw (b:=decide (0<t)) (r:=reT (.bl (decide (0<t)))) rfl rfl) (λh=>?_) (λh=>?_))
     ·have h:=of_decide_eq_true h;have hle:t*(0-T i i)<=Qf m T f k2 i:=by rw[← et];exact Ql4 ⋯
      refine run_seq (Qz (r:=reT (Qb m (Qf m T f (up k2 i (k2 i+t))))) ?_ ?_)
      ·have e:=QB (fi:=Qak (Qh 1) (Qn (Qh 0) (Qh 3))) (t:= .tp [1,2]) (cap:=[none,none,none,some 4]) (fe:=QS (Qh 1) (Q7 (Qh 3) (Qh 2))) (ρ:=[slF (Qc m m T),some (Qb m (Qf m T f k2),bh),slT (.bl b2),slI i,slI t])
        (List.range m) (ir:=⟨(List.range m).map λj=> .tup [.int (Qf m T f k2 j),.int (T i j)],if bh=true then [1]else []⟩) (by
         have eT':Qn (Qh 0) (Qh 3) [slF (Qc m m T),some (Qb m (Qf m T f k2),bh),slT (.bl b2),slI i,slI t]=some (reF (Qb m (T i))):=(QdG rfl rfl rfl rfl ⋯ ⋯).trans rfl;cases bh
         ·exact Qac (ra:=reF (Qb m (Qf m T f k2))) rfl rfl eT' rfl
         ·exact Qac (ra:=⟨Qb m (Qf m T f k2),true,[1]⟩) rfl rfl eT' rfl) rfl λj hj=>by
         have hj:=Ze.mp hj;exact⟨[none,slI (Qf m T f k2 j),slI (T i j),slI t],rfl,_,Qad rfl rfl (Qan rfl rfl rfl rfl (QcW (tp.bnd i j him hj))) rfl,rfl,rfl⟩
       refine e.trans ?_;congr 2;show D.lst _=D.lst _;congr 1;refine ZF λj _=>?_;rw[Qhu him]
      ·rw[QaJ];refine run_seq (Qz rfl (Qt (Qt ?_)));rw[QaJ];have hup:=Qxk hw (f:=f) (c:=k2) him t0;refine⟨up k2 i (k2 i+t),true,true,_,_,.step hL2 him t0 hle,λj hj=>?_,λz=>(by cases z),?_,rfl⟩
       ·rw[Qhu him];by_cases hji:j=i
        ·subst hji;have:t*T j j= -(t*(0-T j j)):=by rw[ZY,Zac,Zbh]
         omega
        ·have:=hP2 j hj;have:=ZaD t0 (tp.pos i j him hj (λz=>hji z.symm));omega
       ·rw[if_pos rfl];have:(0:Int)<=if b2=true then 1 else 0:=by split<;>omega
        omega
     ·have h:=of_decide_eq_false h;refine Qt (Qt ⟨k2,b2,bh,_,_,hL2,hP2,λhb2 p hp=>?_,hW2,rfl⟩);by_cases hpi:p=i
      ·subst hpi;exact Qlt ⋯ (by rw[et];exact h) h0
      ·exact hS2 hb2 p ⋯
    ·rintro ρ ⟨k2,b2,bh,j3,j4,hL2,hP2,hS2,hW2,rfl⟩;rw[Zt]at hS2;exact⟨k2,b2,bh,_,_,hL2,hP2,hS2,hW2,rfl⟩
   ·intro o ho;cases o with
    | nx ρ=>
     obtain⟨k2,b2,bh,j3,j4,hL2,hP2,hS2,hW2,rfl⟩:=ho;refine Qt ⟨_,?_,k2,b2,bh,_,_,hL2,hP2,hS2,rfl,rfl⟩;have n1:=Qnt hw0 hP2;rw[if_pos rfl];cases b2<;>simp at hW2 ⊢ <;>omega
    | _=>exact ho.elim
  ·intro o ho;cases o with
   | nx ρ=>
    obtain⟨k',bh,j2,j3,j4,hL,hP,hS,rfl⟩:=ho;cases bh
    ·exact Qv rfl ⟨k',rfl,hL,hP,hS⟩
    ·exact Qv rfl ⟨k',rfl,hL,hP,hS⟩
   | _=>exact ho.elim
 obtain⟨o,h1,h2⟩:=key;cases o with
 | rt d fr=>
  obtain⟨k',rfl,h3,h4,h5⟩:=h2;exact⟨k',fr,by show Option.bind (Qc6 [slF (Qc m m T),slF (Qb m f),none,none,none]) outD=_;rw[h1];rfl,h3,h4,h5⟩
 | _=>exact h2.elim
noncomputable def QgA(QaT:Den):DS:=(Qd (Qa7 (QaY (dBf Qaa (Qa vv1 Qe))) (.nm 2) (Qd (sIf (bOr (QD (dOp gLt (Qn vv1 vv2) kk0)) (QD (dOp gGe (Qn vv1 vv2) (dOp QaG kk0 (Qn (Qn vv0 vv2) vv2))))) (Qd (QH (dC (.bl false))) Qo) Qo) Qo)) (Qd (Qs 3 (QG (QaY (dBf Qaa (Qa vv1 Qe))) (.nm 1) [none,none,some 0] QO (dOp QaG kk0 (Q7 kk2 (Qn (Qn vv2 vv1) vv1))))) (Qd (Qs 4 (Qm 2 QaT [] (Qa vv0 (Qa vv3 Qe)))) (Qd (Qs 5 (QG (QhI vv1 vv3 vv4) (.tp [1,2,3]) [none,none,none,none] QO (dOp QaG (QS vv1 vv2) vv3))) (Qd (QH (dOp gEq (Qm 2 QaT [] (Qa vv0 (Qa vv5 Qe))) vv1)) Qo)))))
def QjB(d:Den):Prop:=∀(m:Nat) (T:Mt2) (x v:Mt1),0<m->m<=8->TP m T->Dbl m T v->Rec m T v x->Stb m T x->(∀j,j<m->0<=x j)->d [Qc m m T,Qb m x]=some (.bl true,true)
theorem Rec.of{m:Nat}{T:Mt2}{v v' x:Mt1}(tp:TP m T)(h:Dbl m T v)(h':Dbl m T v'):∀j,QM m T v' j=QM m T v j:=λj=>by
 have e:=h.told.one tp h'.told;rw[Qg3,Qg3];exact congrArg (λz=> -z) (Qg λi hi=>by rw[e i hi])
theorem Qr8{dm:Den}(hm:QpU dm):QjB (Qq 6 (QgA dm)):=λm T x v m0 m8 tp Dv hr sx x0=>by
 have neg:=tp.neg;obtain⟨v',fr1,e1,t1⟩:=hm m T (λj=>2*(0-T j j)) ⋯ tp λj hj=>by have:=neg j hj;omega
 have D':Dbl m T v':=⟨t1⟩;have mo:=Rec.of (x:=x) tp Dv D';have hz:∀j,x j+2*(0-T j j)-Qf m T (λj=>2*(0-T j j)) v' j=x j+QM m T v j:=λj=>by
  rw[← mo j];unfold QM;omega
 obtain⟨w,fr2,e2,t2⟩:=hm m T (λj=>x j+QM m T v j) ⋯ tp λj hj=>by
  have:=x0 j hj;have:=Dv.big hj;have:=neg j hj;omega
 have back:=hr.comes tp Dv t2;have eb:Qb m (Qf m T (λj=>x j+QM m T v j) w)=Qb m x:=congrArg D.lst (ZF λj hj=>by rw[back j (Ze.mp hj)]);rw[eb]at e2;have elen:∀{ρ:En},ρ[1]? =some (slF (Qb m x))->dBf Qaa (Qa (Qh 1) Qe) ρ=some (reI m):=λ{ρ} h=>(Qc8 (xs:=(List.range m).map λi=> .int (x i)) (QbB h) rfl).trans (by rw[Zj,Zt]);refine QN ?_;refine Qx (Qah (toD:=λ(p:Nat)=> .int (p:Int)) (List.range m) (λ_ ρ=>∃j2,ρ=[slF (Qc m m T),slF (Qb m x),j2,none,none,none]) (Qbc (n:=m) (elen rfl) rfl ⋯) rfl ⟨none,rfl⟩ ?_ ?_)
 ·rintro i p ρ hi ⟨j2,rfl⟩;have hp':i<m/\i=p:=by
   obtain⟨h1,h2⟩:=Zi.mp hi;simp at h1 h2;exact⟨h1,h2⟩
  obtain⟨him,rfl⟩:=hp';have ex:Qn (Qh 1) (Qh 2) [slF (Qc m m T),slF (Qb m x),slI i,none,none,none]=some (reI (x i)):=Qae (m:=m) (f:=x) (i:=i) (ra:=reF (Qb m x)) (rb:=reI i) rfl rfl rfl rfl him;have eT:Qn (Qn (Qh 0) (Qh 2)) (Qh 2) [slF (Qc m m T),slF (Qb m x),slI i,none,none,none]=some (reI (T i i)):=Qae (m:=m) (f:=T i) (i:=i) ((QdG (m:=m) (n:=m) (f:=T) (i:=i) (ra:=reF (Qc m m T)) (rb:=reI i) rfl rfl rfl rfl ⋯ ⋯).trans rfl) rfl (rb:=reI i) rfl rfl him;refine⟨[slF (Qc m m T),slF (Qb m x),slI i,none,none,none],rfl,?_⟩;refine Qx (QQ (b:=false) ((Qav (a:=false) (b:=false) (Qw (b:=false) (Qap (d:= .bl false) (rb:=reI 0) ex rfl ?_) rfl) (Qw (b:=false) (Qap (d:= .bl false) ex (Qdf (a:=0) (b:=T i i) (ra:=reI 0) rfl rfl eT rfl) ?_) rfl)).trans rfl) (λh=>by cases h) (λ_=>Qt (Qt ⟨_,rfl⟩)))
  ·show some (D.bl (decide (x i<0)))=_;rw[decide_eq_false (by have:=x0 i him;omega)]
  ·show some (D.bl (decide (0-T i i<=x i)))=_;rw[decide_eq_false (by have:=sx i him;omega)]
 rintro ρ ⟨j2,rfl⟩;refine rsa (d:=Qb m λj=>2*(0-T j j)) (QB (toD:=λ(j:Nat)=> .int (j:Int)) (out:=λ(j:Nat)=> .int (2*(0-T j j))) (List.range m) (Qbc (n:=m) (elen rfl) rfl ⋯) rfl λj hj=>⟨[none,slI j,slF (Qc m m T)],rfl,reI (0-2*T j j),Qdf (a:=0) (b:=2*T j j) (ra:=reI 0) rfl rfl (Qan (a:=2) (b:=T j j) (ra:=reI 2) rfl rfl (Qae (m:=m) (f:=T j) (i:=j) ((QdG (m:=m) (n:=m) (f:=T) (i:=j) (ra:=reF (Qc m m T)) (rb:=reI j) rfl rfl rfl rfl ⋯ (by have:=Ze.mp hj;omega)).trans rfl) rfl (rb:=reI j) rfl rfl (Ze.mp hj)) rfl (Qc0 (by decide))) rfl,by show D.int (0-2*T j j)=D.int (2*(0-T j j));rw[show 0-2*T j j=2*(0-T j j) by omega],rfl⟩) ?_;have ea:∀fr,asg 4 (if fr=true then(reT (Qb m (Qf m T (λj=>2*(0-T j j)) v')))else R.norm ⟨Qb m (Qf m T (λj=>2*(0-T j j)) v'),false,[3]⟩) [slF (Qc m m T),slF (Qb m x),j2,slT (Qb m λj=>2*(0-T j j)),none,none]=[slF (Qc m m T),slF (Qb m x),j2,some (Qb m λj=>2*(0-T j j),fr),some (Qb m (Qf m T (λj=>2*(0-T j j)) v'),fr),none]:=λfr=>by cases fr<;>rfl
 refine run_seq (Qz (r:=if fr1=true then(reT (Qb m (Qf m T (λj=>2*(0-T j j)) v')))else R.norm ⟨Qb m (Qf m T (λj=>2*(0-T j j)) v'),false,[3]⟩) (Qia (r:=⟨[Qc m m T,Qb m λj=>2*(0-T j j)],false,[3]⟩) rfl e1 rfl) ?_);refine(congrArg (λρ=>Run _ ρ _) (ea fr1)).mpr ?_;refine run_seq (Qz (r:=reT (Qb m λj=>x j+QM m T v j)) (QB (toD:=λ(j:Nat)=> .tup [.int (x j),.int (2*(0-T j j)),.int (Qf m T (λj=>2*(0-T j j)) v' j)]) (out:=λ(j:Nat)=> .int (x j+QM m T v j)) (List.range m) (ir:=⟨(List.range m).map λj=> .tup [.int (x j),.int (2*(0-T j j)),.int (Qf m T (λj=>2*(0-T j j)) v' j)],if fr1=true then [3,4]else []⟩) (by
  cases fr1
  ·exact QkO (ra:=reF (Qb m x)) rfl rfl (rb:=reF (Qb m λj=>2*(0-T j j))) rfl rfl (rc:=reF (Qb m (Qf m T (λj=>2*(0-T j j)) v'))) rfl rfl
  ·exact QkO (ra:=reF (Qb m x)) rfl rfl (rb:=⟨Qb m λj=>2*(0-T j j),true,[3]⟩) rfl rfl (rc:=⟨Qb m (Qf m T (λj=>2*(0-T j j)) v'),true,[4]⟩) rfl rfl) rfl λj _=>⟨[none,slI (x j),slI (2*(0-T j j)),slI (Qf m T (λj=>2*(0-T j j)) v' j)],rfl,reI (x j+2*(0-T j j)-Qf m T (λj=>2*(0-T j j)) v' j),Qdf (Qad rfl rfl rfl rfl) rfl rfl rfl,by rw[hz j],rfl⟩) ?_)
 rw[QaJ];cases fr2
 ·exact Qv (QeP ((Qbh (r:=⟨[Qc m m T,Qb m λj=>x j+QM m T v j],false,[5]⟩) rfl e2 rfl).trans rfl) rfl rfl rfl (QcY 7 _ _)) ⟨rfl,rfl⟩
 ·exact Qv (QeP (Qk rfl e2 rfl) rfl rfl rfl (QcY 7 _ _)) ⟨rfl,rfl⟩
noncomputable def QlY(Qbk:Den)(QcQ:Den):DS:=(Qd (Qdp (Qm 2 Qbk [] (Qa vv0 (Qa (Qao (Qa vv1 (Qa vv2 Qe))) Qe)))) (Qd (QH (Qn (Qm 2 QcQ [] (Qa vv0 (Qa (QG (Qak vv1 vv2) (.tp [1,2]) [none,none,none] QO (QS vv1 vv2)) Qe))) kk0)) Qo))
def QpO(d:Den):Prop:=∀(m:Nat) (R L:Lpp) (a b:Mt1),0<m->m<=8->Qa5 m R L->(∀j,j<m->0<=a j/\a j<=2^100)->(∀j,j<m->0<=b j/\b j<=2^100)->∃c,d [QC m R L,Qb m a,Qb m b]=some (Qb m (Qf m (Qp m (Ql R L)) (λj=>a j+b j) c),true)/\Told m (Qp m (Ql R L)) (λj=>a j+b j) c
theorem QfW(h:fa ρ=some r)(e:r.d= .tup [a,b]):Qn fa (dC (.int 0)) ρ=some (HS.R.norm ⟨a,r.fr,r.M⟩)/\Qn fa (dC (.int 1)) ρ=some (HS.R.norm ⟨b,r.fr,r.M⟩):=by
 unfold Qn;rw[h];simp only[Za,e,Qgq];exact⟨rfl,rfl⟩
theorem QxI(hn:QjV dn)(hs:Qkp ds):QpO (Qq 3 (QlY dn ds)):=λm R L a b m0 m8 hw ha hb=>by
 obtain⟨c,ec,tc⟩:=hs m R L (λj=>a j+b j) m0 ⋯ hw λj hj=>by
  have h1:=ha j hj;have h2:=hb j hj;have:(2:Int)^100+2^100<2^200:=by decide
  show 0<=a j+b j/\a j+b j<2^200;omega
 refine⟨c,QN ?_,tc⟩;refine run_seq (Qde (Qk rfl (hn m R L [a,b] m0 λf hf j hj=>?_) rfl) ?_)
 ·rcases Zo.mp hf with rfl | hf
  ·exact(ha j hj).1
  ·rw[ZD.mp hf];exact(hb j hj).1
 refine Qv (QfW (Qk (Qr rfl (Qr (QB (List.range m) (Qac rfl rfl rfl rfl) rfl λj _=>⟨[none,slI (a j),slI (b j)],rfl,reI (a j+b j),rfl,rfl,rfl⟩) (QK _))) ec rfl) rfl).1 ⟨rfl,rfl⟩
structure Qhs (m:Nat) (T:Mt2) (f k:Mt1):Prop where
 ex:∃v,Dbl m T v/\Rec m T v (Qf m T f k)
 stb:Stb m T (Qf m T f k)
 nn:∀j,j<m->0<=Qf m T f k j
noncomputable def Qqk(Qbl:Den):DS:=(Qd (QH (Qn (Qm 2 Qbl [] (Qa vv0 (Qa (Q7 (Qao (Qa kk0 Qe)) (Qn vv0 kk0)) Qe))) kk0)) Qo)
def Qlc(d:Den):Prop:=∀(m:Nat) (R L:Lpp),0<m->m<=8->Qa5 m R L->∃k,d [QC m R L]=some (Qb m (Qf m (Qp m (Ql R L)) (λ_=>0) k),true)/\Qhs m (Qp m (Ql R L)) (λ_=>0) k
theorem QuK(ha:QhF da):Qlc (Qq 1 (Qqk da)):=λm R L m0 m8 hw=>by
 obtain⟨k,v,ek,h1,h2,h3,h4⟩:=ha m R L (λ_=>0) m0 m8 hw λj _=>by simp
 refine⟨k,QN ?_,⟨⟨v,h1,h2⟩,h3,h4⟩⟩;exact Qv (QfW (Qk (Qr rfl (Qr (Qev rfl rfl ⋯) (QK _))) ek rfl) rfl).1 ⟨rfl,rfl⟩
noncomputable def Qmb(Qa2:Den)(Qbl:Den):DS:=(Qd (QH (Qn (Qm 2 Qbl [] (Qa vv0 (Qa (Qm 1 Qa2 [] (Qa vv1 Qe)) Qe))) kk0)) Qo)
def Qk9(d:Den):Prop:=∀(m:Nat) (R L:Lpp) (f:Mt1),0<m->m<=8->Qa5 m R L->(∀j,j<m->0<=f j/\f j<=2^100)->∃k,d [QC m R L,Qb m f]=some (Qb m (Qf m (Qp m (Ql R L)) (λj=>0-f j) k),true)/\Qhs m (Qp m (Ql R L)) (λj=>0-f j) k
theorem Qth(ho:QlT dop)(ha:QhF da):Qk9 (Qq 2 (Qmb dop da)):=λm R L f m0 m8 hw hf=>by
 obtain⟨k,v,ek,h1,h2,h3,h4⟩:=ha m R L (λj=>0-f j) m0 m8 hw λj hj=>by
  have:=hf j hj;have:(2:Nat)^100<=2^200:=Zn (by decide) (by decide);show(0-f j).natAbs<=_;omega
 refine⟨k,QN ?_,⟨⟨v,h1,h2⟩,h3,h4⟩⟩;exact Qv (QfW (Qk (Qr rfl (Qr (Qk (r:=⟨[Qb m f],false,[]⟩) rfl (ho m f) rfl) (QK _))) ek rfl) rfl).1 ⟨rfl,rfl⟩
theorem QxF{m:Nat}{T:Mt2}{v x y c:Mt1}(tp:TP m T)(hd:Dbl m T v)(hr:Rec m T v x)(y0:∀j,j<m->0<=y j)(hc:Told m T (λj=>x j+y j) c):Rec m T v (Qf m T (λj=>x j+y j) c):=by
 obtain⟨z,u,z0,hu,ex⟩:=hr;obtain⟨t1,e1⟩:=hu.lay (F':=λj=>z j+y j+QM m T v j) (λj hj=>by have:=y0 j hj;show z j+QM m T v j<=z j+y j+QM m T v j;omega) (λj hj=>by show x j+y j=_+(z j+y j+QM m T v j-(z j+QM m T v j));rw[ex j hj];omega) hc;exact⟨λj=>z j+y j,λi=>u i+c i,λj hj=>by have:=z0 j hj;have:=y0 j hj;show 0<=z j+y j;omega,t1,e1⟩
theorem QxH(j:Nat):Qf m T f (λ_=>0) j=f j:=by
 unfold Qf;rw[Qg λi _=>by rw[ZA],Qaz,Zbt]
theorem QAO{m:Nat}{T:Mt2}(tp:TP m T){f k y c g k' d:Mt1}(hx:Qhs m T f k)(hz:Qhs m T g k')(y0:∀j,j<m->0<=y j)(hc:Told m T (λj=>Qf m T f k j+y j) c)(e:∀j,j<m->Qf m T g k' j=Qf m T (λj=>Qf m T f k j+y j) d j):∀j,j<m->Qf m T (λj=>Qf m T f k j+y j) c j=Qf m T g k' j:=λj hj=>by
 obtain⟨v,hd,hr⟩:=hx.ex;obtain⟨v',hd',hr'⟩:=hz.ex;have hs:=QxF tp hd hr y0 hc;have z:=Rec.one tp hd hd' hs hr' hc.stb hz.stb λj hj=>by
  rw[e j hj,Qnl];exact QaN j rfl λi _=>by show d i=c i+(d i-c i);omega
 rw[e j hj];exact QaN j rfl λi hi=>by have:d i-c i=0:=z i hi;omega
theorem QAZ(tp:TP m T)(hx:Qhs m T f k)(hz:Qhs m T g k')(e:∀j,j<m->Qf m T g k' j=Qf m T (Qf m T f k) d j):∀j,j<m->Qf m T g k' j=Qf m T f k j:=λj hj=>by
 obtain⟨v,hd,hr⟩:=hx.ex;obtain⟨v',hd',hr'⟩:=hz.ex;have z:=Rec.one tp hd hd' hr hr' hx.stb hz.stb e;rw[e j hj,QaN j rfl z,QxH]
theorem QAt{m:Nat}{T:Mt2}{k:Mt1}(j:Nat):(Qi m λi=> -k i*T i j)= -Qi m λi=>k i*T i j:=by
 rw[← Qbu];exact Qg λi _=>by rw[Zak]
theorem Qmf{m:Nat}{T:Mt2}{a b:Mt1}(j:Nat):(Qi m λi=>(a i-b i)*T i j)=(Qi m λi=>a i*T i j)-Qi m λi=>b i*T i j:=by
 rw[Qg (g:=λi=>a i*T i j+ -(b i*T i j)) λi _=>by rw[Int.sub_mul];omega,Qat,Qbu];omega
theorem QmA(tp:TP m T)(hs:Stb m T x)(h0:∀j,j<m->0<=x j):∀j,j<m->0<=x j/\x j<=2^100:=λj hj=>by
 have h1:=hs j hj;have h2:=h0 j hj;have h3:=tp.bnd j j hj hj;have:(2:Int)^64<=2^100:=by decide
 omega
theorem QwR{n:Nat}(ha:fa ρ=some ra)(ea:ra.d=Qb m f)(hb:fb ρ=some rb)(eb:rb.d= .int n)(h:n<=m):QbJ fa (QaI fb) QbV ρ=some (reT (Qb (m-n) λi=>f (n+i))):=by
 have cut:cutD ((List.range m).map λi=>D.int (f i)) (some (n:Int)) none=(List.range (m-n)).map λi=>D.int (f (n+i)):=by
  unfold cutD;simp only[Zj,Zt,HT.QiH,HT.QhK];rw[Zba h,← Zcd,← Zbm];have e:((List.range m).drop n).take (m-n)=(List.range (m-n)).map λi=>n+i:=by
   rw[Zav (by simp)];refine Zbf λi=>?_;rw[List.getElem?_drop,Zr];by_cases hi:i<m-n
   ·rw[ZK ⋯,ZK hi];rfl
   ·rw[Zu (by simp;omega),Zu (by simp;omega)];rfl
  rw[e,Zaj];rfl
 unfold QbJ QbV QaI;simp only[ha,hb,Za,ea,eb,Qb,cut,Qbq];have:QY ((List.range (m-n)).map λi=>D.int (f (n+i)))=true:=by
  have:=Qiq ((List.range (m-n)).map λi=>f (n+i));rw[Zaj]at this;exact this
 rw[if_pos this]
theorem Qhv(hA:∀j,j<n->∀r,r<n->(A j r).natAbs<=2^200)(hl:QjE n A):det n A≠0:=by
 obtain⟨m,R,d,C⟩:=QpG (Zh n) hA hl n (Zh n);have e2:det n A=d:=by
  rw[← C.clr.det];exact QW λj hj r _=>by rw[C.clr.own j hj]
 rw[e2];exact C.clr.nz
theorem Qa5.small{m:Nat}{R L:Lpp}(hw:Qa5 m R L){i j:Nat}(hi:i<m)(hj:j<m):(Qp m (Ql R L) i j).natAbs<=600:=by
 have g:=hw.good;have gs:=QcB g.1 g.2.1;rw[QcH hi hj λs hs=>⟨(gs s hs).1,(gs s hs).2.1⟩];refine Zp (Qe3 i j _) ?_;unfold Ql;rw[Zx,Zx,Zj];omega
noncomputable def QaO(T:Mt2):Nat->Nat->Int:=λi j=>0-T i j
theorem Qa5.big{m:Nat}{R L:Lpp}(hw:Qa5 m R L):∀j,j<m->∀r,r<m->(QaO (Qp m (Ql R L)) j r).natAbs<=2^200:=λj hj r hr=>by
 have:=hw.small hj hr;have:(600:Nat)<=2^200:=by decide
 unfold QaO;omega
theorem Qtz(hA:∀j,j<n->∀r,r<n->(A j r).natAbs<=2^200)(hl:QjE n A):QjE n λj i=>A i j:=λk hk c h=>by
 have nz:det (k+1) A≠0:=Qhv (λj hj r hr=>hA j ⋯ r ⋯) λk' hk'=>hl k' ⋯;have cr:=λr (hr:r<k+1)=>QiW A (λr=>if r=k then(1:Int)else 0) hr;have e1:Qi (k+1) (λr=>(if r=k then det (k+1) A else 0)*c r)=det (k+1) A*c k:=QaF ⋯ (det (k+1) A) c;have e2:Qi (k+1) (λr=>(if r=k then det (k+1) A else 0)*c r)=Qi (k+1) λr=>Qi (k+1) λl=>det (k+1) (cup A l λr=>if r=k then 1 else 0)*(c r*A l r):=Qg λr hr=>by
  have q:=cr r hr;rw[Qbv]at q;have:(if r=k then det (k+1) A else 0)=det (k+1) A*(if r=k then 1 else 0):=by split<;>simp
  rw[this,q,ZL,← QP];exact Qg λl _=>by rw[← Zq,ZL (c r),Zq]
 rw[Qbn]at e2;have e3:(Qi (k+1) λl=>Qi (k+1) λr=>det (k+1) (cup A l λr=>if r=k then 1 else 0)*(c r*A l r))=0:=by
  rw[Qg λl hl'=>?_,Qaz];rw[QP];have z:=h l ⋯;rw[Qbv]at z;rw[z,ZC]
 rw[e1,e3]at e2;rcases Int.mul_eq_zero.mp e2 with z | z
 ·exact absurd z nz
 ·exact z
noncomputable def Qma:DS:=(Qd (QH (QG (QaY vv0) (.nm 1) [none,none,some 1] QO (dIf (QD (dOp gEq vv1 vv2)) kk1 kk0))) Qo)
def Qjr(d:Den):Prop:=∀(n p:Nat),n<=1000->d [.int n,.int p]=some (Qb n λi=>if i=p then 1 else 0,true)
theorem Qx4:Qjr (Qq 2 Qma):=λn p hn=>by
 refine QN (Qv (QB (List.range n) (Qbc rfl rfl ⋯) rfl λi _=>⟨[none,slI i,slI p],rfl,reI (if i=p then 1 else 0),?_,rfl,rfl⟩) ⟨rfl,rfl⟩);unfold dIf;rw[Qw (QbA rfl rfl rfl rfl) rfl,Za];by_cases z:i=p
 ·rw[if_pos z,if_pos (by rw[z];simp)];rfl
 ·rw[if_neg z,if_neg (by simp;omega)];rfl
inductive QpF (m:Nat) (T:Mt2) (a b:Mt1):D->Prop where
 | alike {k:Mt1}:(∀r,r<m->b r=Qf m T a k r)->QpF m T a b (.tup [.str "alike",Qb m k])
 | apart {w:Mt1}{q:Int}:0<q->(∀r,r<m->(w r).natAbs<2^2000)->(∀l,l<m->q∣Qi m λr=>w r*T l r)->¬q∣(Qi m λr=>w r*(b r-a r))->QpF m T a b (.tup [.str "apart",Qb m w,.int q])
noncomputable def Qgv(Q3:Den)(QX:Den)(QaL:Den)(Q5:Den)(Qa3:Den):DS:=(Qd (Qdp (Qm 2 Q3 [] (Qa vv0 (Qa (Qao (Qa vv1 (Qa vv2 Qe))) Qe)))) (Qd (Qs 3 (Qm 1 QX [] (Qa vv0 Qe))) (Qd (Qs 4 (Qm 2 QaL [] (Qa vv3 (Qa (QG (Qak vv1 vv2) (.tp [1,2]) [none,none,none] QO (dOp QaG vv1 vv2)) Qe)))) (Qd (sIf (QD (dOp gEq (Qn vv4 kk1) kk1)) (Qd (QH (QaP (Qa (dC (.str "alike")) (Qa (Qn vv4 kk0) Qe)))) Qo) Qo) (Qd (Qs 5 (QG (Qct (Qn vv4 kk0)) (.tp [1,2]) [none,none,none,some 4] (QD (dOp gNe (dOp Qa0 vv2 (Qn vv3 kk1)) kk0)) vv1)) (Qd (Qs 6 (Qm 2 QaL [] (Qa (Qm 1 Q5 [] (Qa vv3 Qe)) (Qa (Qm 2 Qa3 [] (Qa (Qn vv0 kk0) (Qa (Qn vv5 kk0) Qe))) Qe)))) (Qd (QH (QaP (Qa (dC (.str "apart")) (Qa (Qn vv6 kk0) (Qa (Qn vv6 kk1) Qe))))) Qo)))))))
def Qki(d:Den):Prop:=∀(m:Nat) (R L:Lpp) (a b:Mt1),0<m->m<=8->Qa5 m R L->(∀j,j<m->(a j).natAbs<=2^190)->(∀j,j<m->(b j).natAbs<=2^190)->∃s,d [QC m R L,Qb m a,Qb m b]=some (s,true)/\QpF m (Qp m (Ql R L)) a b s
set_option maxHeartbeats 0 in
theorem Qw3(hn:QgI dn)(ht:Qgf dt)(hs:QkU ds)(hr:QcJ dr)(hu:Qjr du):Qki (Qq 7 (Qgv dn dt ds dr du)):=λm R L a b m0 m8 hw ha hb=>by
 have gd:=hw.good;have tp:=hw.tp;have et:=ht m R L ⋯ ⋯ gd.1 gd.2.1;have big:=hw.big;obtain⟨t,q,es,q0,_,hq,tb,lo⟩:=hs m (QaO (Qp m (Ql R L))) (λr=>a r-b r) m8 (λj r hj hr=>big j hj r hr) (λr hr=>by
  have h1:=ha r hr;have h2:=hb r hr;have:(2:Nat)^190+2^190<=2^200:=by decide
  show(a r-b r).natAbs<=_;omega) (QfU tp)
 have neg:∀(u:Mt1) r,(sm m λl=>u l*QaO (Qp m (Ql R L)) l r)= -Qi m λl=>u l*Qp m (Ql R L) l r:=λu r=>by
  rw[Qbv,← Qbu];exact Qg λi _=>by unfold QaO;rw[ZY,Zac]
 have start:∀Q:D->Bool->Prop,Run (Qd (sIf (QD (dOp gEq (Qn (Qh 4) (dC (.int 1))) (dC (.int 1)))) (Qd (QH (QaP (Qa (dC (.str "alike")) (Qa (Qn (Qh 4) (dC (.int 0))) Qe)))) Qo) Qo) (Qd (Qs 5 (QG (Qct (Qn (Qh 4) (dC (.int 0)))) (.tp [1,2]) [none,none,none,some 4] (QD (dOp gNe (dOp Qa0 (Qh 2) (Qn (Qh 3) (dC (.int 1)))) (dC (.int 0)))) (Qh 1))) (Qd (Qs 6 (Qm 2 ds [] (Qa (Qm 1 dr [] (Qa (Qh 3) Qe)) (Qa (Qm 2 du [] (Qa (Qn (Qh 0) (dC (.int 0))) (Qa (Qn (Qh 5) (dC (.int 0))) Qe))) Qe)))) (Qd (QH (QaP (Qa (dC (.str "apart")) (Qa (Qn (Qh 6) (dC (.int 0))) (Qa (Qn (Qh 6) (dC (.int 1))) Qe))))) Qo)))) [slF (QC m R L),slF (Qb m a),slF (Qb m b),slT (Qc m m (QaO (Qp m (Ql R L)))),slT (.tup [Qb m t,.int q]),none,none] (Rt Q)->Run (Qgv dn dt ds dr du) (QaQ 7 [QC m R L,Qb m a,Qb m b]) (Rt Q):=λQ h=>by
  refine run_seq (Qde (Qk (r:=⟨[QC m R L,.lst [Qb m a,Qb m b]],false,[]⟩) rfl (hn m R L [a,b]) rfl) ?_);refine rsa (Qk (r:=⟨[QC m R L],false,[]⟩) rfl et rfl) ?_;refine rsa (Qk (Qr (r:=⟨Qc m m (QaO (Qp m (Ql R L))),true,[3]⟩) rfl (Qr (QB (toD:=λ(j:Nat)=> .tup [.int (a j),.int (b j)]) (out:=λ(j:Nat)=> .int (a j-b j)) (List.range m) (Qac (f:=λj=> .int (a j)) (g:=λj=> .int (b j)) (ra:=reF (Qb m a)) rfl rfl (rb:=reF (Qb m b)) rfl rfl) rfl λj _=>⟨[none,slI (a j),slI (b j)],rfl,reI (a j-b j),rfl,rfl,rfl⟩) (QK _))) es rfl) ?_;exact h
 by_cases one:q=1
 ·subst one;refine⟨_,QN (start _ ?_),.alike (k:=t) λr hr=>?_⟩
  ·refine Qx (QQ (b:=true) (Qw (b:=true) (QbA (a:=1) (b:=1) (ra:=reI 1) (rb:=reI 1) rfl rfl rfl rfl) rfl) (λ_=>?_) (λh=>by cases h));exact Qx (Qb0 (r:=⟨.tup [.str "alike",Qb m t],true,[4]⟩) rfl ⟨rfl,rfl⟩)
  ·have:=hq r hr;rw[neg,ZR]at this;have e:Qf m (Qp m (Ql R L)) a t r=a r+Qi m λl=>t l*Qp m (Ql R L) l r:=rfl;omega
 ·obtain⟨l0,hl0,nl0⟩:=lo one
  have ec:=Qdo (fi:=Qct (Qn (Qh 4) (dC (.int 0)))) (t:= .tp [1,2]) (cap:=[none,none,none,some 4]) (ft:=QD (dOp gNe (dOp Qa0 (Qh 2) (Qn (Qh 3) (dC (.int 1)))) (dC (.int 0)))) (fe:=Qh 1) (ρ:=[slF (QC m R L),slF (Qb m a),slF (Qb m b),slT (Qc m m (QaO (Qp m (Ql R L)))),slT (.tup [Qb m t,.int q]),none,none])
   (List.range m) (ir:=⟨(List.range m).map λ(i:Nat)=> .tup [.int (i:Int),.int (t i)],[4]⟩) (by
    unfold Qct;refine(congrArg (λz=>Option.bind z _) (QfW rfl rfl).1).trans ?_;show some (IR.mk (QdA _) _)=_;rw[Qiz (α:=Int) m λi=> .int (t i)];rfl) rfl λi hi=>⟨[none,slI i,slI (t i),slF (.tup [Qb m t,.int q])],rfl,Qw (Qb4 (QaZ rfl rfl (QfW rfl rfl).2 rfl q0) rfl rfl rfl) rfl,λ_=>⟨(reI i),rfl,rfl,rfl⟩⟩
  obtain⟨p,tl,ep⟩:∃p tl,(List.range m).filter (λi=> !decide (t i % q=0))=p::tl:=by
   cases e:(List.range m).filter (λi=> !decide (t i % q=0))with
   | cons p tl=>exact⟨p,tl,rfl⟩
   | nil=>
    have:l0∈(List.range m).filter λi=> !decide (t i % q=0):=ZaE.mpr ⟨Ze.mpr hl0,by
     have:¬t l0 % q=0:=λz=>nl0 (Int.dvd_of_emod_eq_zero z);simp[this]⟩
    rw[e]at this;simp at this
  have hp:p<m/\¬t p % q=0:=by
   have:p∈(List.range m).filter λi=> !decide (t i % q=0):=by rw[ep];simp
   obtain⟨h1,h2⟩:=ZaE.mp this;exact⟨Ze.mp h1,by simpa using h2⟩
  rw[ep]at ec;obtain⟨w,x,ew,x0,_,hx,wb,_⟩:=hs m (λj i=>QaO (Qp m (Ql R L)) i j) (λi=>if i=p then 1 else 0) m8 (λj r hj hr=>big r hr j hj) (λr _=>by show(if r=p then(1:Int)else 0).natAbs<=_;split<;>decide) (Qtz big (QfU tp));have wT:∀l,l<m->(Qi m λr=>w r*Qp m (Ql R L) l r)= -(x*if l=p then 1 else 0):=λl hl=>by
   have:=hx l hl;rw[Qbv]at this;rw[this,← Qbu];exact Qg λi _=>by unfold QaO;rw[ZY,Zac,Zbh]
  refine⟨_,QN (start _ ?_),.apart x0 wb (λl hl=>?_) λ⟨y,hy⟩=>?_⟩
  ·refine Qx (QQ (Qw ((QbA rfl rfl rfl rfl).trans (by rw[decide_eq_false one])) rfl) (λh=>by cases h) (λ_=>Qt ?_));refine rsa ec ?_;refine rsa (Qk (Qr (Qk rfl (hr m _ ⋯) rfl) (Qr (Qk (Qr rfl (Qr (Qdw (QbB rfl) (Qs5 _) (Qgq _ _) rfl (by decide) rfl) (QK _))) (hu m p ⋯) rfl) (QK _))) ew rfl) ?_;exact Qv rfl ⟨rfl,rfl⟩
  ·rw[wT l hl];exact⟨-(if l=p then 1 else 0),by rw[Zac]⟩
  ·
   have e:q*(Qi m λr=>w r*(b r-a r))= -(t p*x):=by
    rw[← QP];have h1:(Qi m λr=>q*(w r*(b r-a r)))=Qi m λr=>Qi m λl=>t l*(w r*Qp m (Ql R L) l r):=Qg λr hr=>by
     have z:=hq r hr;rw[neg]at z;have:q*(w r*(b r-a r))=w r* -(q*(a r-b r)):=by
      rw[← Zac,show-(a r-b r)=b r-a r by omega,← Zq,← Zq,ZL q]
     rw[this,z,Zbh,← QP];exact Qg λl _=>by rw[← Zq,ZL (w r),Zq]
    rw[h1,Qbn,Qg (g:=λl=>(if l=p then-(t p*x)else 0)*1) λl hl=>?_,QaF hp.1,ZU];rw[QP,wT l hl];by_cases z:l=p
    ·rw[if_pos z,if_pos z,z,ZU,ZU,Zac]
    ·rw[if_neg z,if_neg z,ZC,Int.neg_zero,ZC,ZA]
   rw[hy,← Zq,ZL q x,Zq,ZL (t p) x,← Zac]at e;have:=Zah ⋯ e;exact hp.2 (Int.emod_eq_zero_of_dvd ⟨-y,by rw[Zac];omega⟩)
structure Alt (n:Nat) (φ:(Nat->Nat->Int)->Int):Prop where
 congr:∀{m k:Mt2},(∀j,j<n->∀r,r<n->m j r=k j r)->φ m=φ k
 lin:∀(m:Mt2) (c:Nat),c<n->∀(x y:Int) (a b:Mt1),φ (cup m c λr=>x*a r+y*b r)=x*φ (cup m c a)+y*φ (cup m c b)
 alt:∀{m:Mt2}{i j:Nat},i<n->j<n->i≠j->m i=m j->φ m=0
section
theorem Alt.add(h:Alt n φ)(hc:c<n)(a b:Mt1):φ (cup m c λr=>a r+b r)=φ (cup m c a)+φ (cup m c b):=by
 have:=h.lin m c hc 1 1 a b;simpa only[ZR]using this
theorem Alt.mul(h:Alt n φ)(hc:c<n)(x:Int)(a:Mt1):φ (cup m c λr=>x*a r)=x*φ (cup m c a):=by
 have:=h.lin m c hc x 0 a a;simpa only[ZA,Zbt]using this
theorem Alt.swap(h:Alt n φ)(hc:c<n)(hd:d<n)(hcd:c≠d)(a b:Mt1):φ (cup (cup m c a) d b)= -φ (cup (cup m c b) d a):=by
 have z:=h.alt (m:=cup (cup m c λr=>a r+b r) d λr=>a r+b r) hc hd hcd (by rw[QI,QF _ _ hcd,QI]);have za:=h.alt (m:=cup (cup m c a) d a) hc hd hcd (by rw[QI,QF _ _ hcd,QI]);have zb:=h.alt (m:=cup (cup m c b) d b) hc hd hcd (by rw[QI,QF _ _ hcd,QI]);rw[h.add hd,Qaw _ _ _ hcd,h.add hc,Qaw _ _ _ hcd,h.add hc,Qaw _ _ _ (Ne.symm hcd),Qaw _ _ _ (Ne.symm hcd),Qaw _ _ _ (Ne.symm hcd),Qaw _ _ _ (Ne.symm hcd),za,zb]at z;omega
theorem Alt.sum(h:Alt n φ)(hc:c<n)(x:Mt1)(E:Mt2):∀k,φ (cup m c λr=>sm k λs=>x s*E s r)=sm k λs=>x s*φ (cup m c (E s))
 | 0=>by
  have:=h.mul (m:=m) hc 0 λ_=>0;rw[ZA]at this;unfold sm;simpa using this
 | k+1=>by
  unfold sm;rw[h.add hc,h.sum hc x E k,h.mul hc]
theorem QrD(n:Nat):Alt n (det n):=⟨QW,λm c hc x y a b=>QfZ x y a b n m c hc a b,λhi hj hij e=>Qee hi hj hij e⟩
theorem Qlr(h:Alt n φ):∀(g t:Nat) (σ:Nat->Nat),t+g=n->(∀j,j<t->σ j=j)->(∀j,j<n->σ j<n)->φ (λj=>QE (σ j))=det n (λj=>QE (σ j))*φ QE
 | 0,t,σ,e,hp,hn=>by
  have h1:∀j,j<n->∀r,r<n->QE (σ j) r=QE j r:=λj hj r _=>by rw[hp j ⋯]
  rw[h.congr h1,QW h1,Qd0,ZR]
 | g+1,t,σ,e,hp,hn=>by
  by_cases ht:σ t=t
  ·exact Qlr h g (t+1) σ ⋯ (λj hj=>by
    by_cases z:j=t
    ·rw[z];exact ht
    ·exact hp j ⋯) hn
  ·by_cases ex:∃i,i<n/\σ i=t
   ·obtain⟨i,hi,hs⟩:=ex;have hti:t<i:=by
     rcases Nat.lt_trichotomy i t with z | z | z
     ·have:=hp i z;omega
     ·subst z;exact absurd hs ht
     ·exact z
    have hne:t≠i:= ⋯
    have sw:∀{ψ:(Nat->Nat->Int)->Int},Alt n ψ->ψ (λj=>QE (σ j))= -ψ (λj=>QE (if j=t then σ i else if j=i then σ t else σ j)):=λ{ψ} hψ=>by
     have:=hψ.swap (m:=λj=>QE (σ j)) ⋯ hi hne (QE (σ t)) (QE (σ i));have e1:cup (cup (λj=>QE (σ j)) t (QE (σ t))) i (QE (σ i))=λj=>QE (σ j):=by
      rw[Qas (λj=>QE (σ j)) t,Qas (λj=>QE (σ j)) i]
     have e2:cup (cup (λj=>QE (σ j)) t (QE (σ i))) i (QE (σ t))=λj=>QE (if j=t then σ i else if j=i then σ t else σ j):=by
      funext j;by_cases z1:j=i
      ·subst z1;rw[QI,if_neg (Ne.symm hne),if_pos rfl]
      ·rw[QF _ _ z1];by_cases z2:j=t
       ·subst z2;rw[QI,if_pos rfl]
       ·rw[QF _ _ z2,if_neg z2,if_neg z1]
     rw[e1,e2]at this;exact this
    rw[sw h,sw (QrD n),Zak];congr 1;refine Qlr h g (t+1) _ ⋯ (λj hj=>?_) (λj hj=>?_)
    ·by_cases z:j=t
     ·rw[if_pos z,hs,z]
     ·rw[if_neg z,if_neg ⋯];exact hp j ⋯
    ·split
     ·exact hn i hi
     ·split
      ·exact hn t ⋯
      ·exact hn j hj
   ·obtain⟨k,hk⟩:∃k,n=k+1:=⟨n-1,⋯⟩;obtain⟨i,j,hi,hj,hij,he⟩:=Qqq (n:=k) (λj=>if σ j<t then σ j else σ j-1) λj hj=>by
     have h1:=hn j ⋯;have h2:σ j≠t:=λz=>ex ⟨j,⋯,z⟩;split<;>omega
    have hs:σ i=σ j:=by
     have h1:σ i≠t:=λz=>ex ⟨i,⋯,z⟩;have h2:σ j≠t:=λz=>ex ⟨j,⋯,z⟩;split at he<;>split at he<;>omega
    have e1:(λj=>QE (σ j)) i=(λj=>QE (σ j)) j:=by show QE (σ i)=QE (σ j);rw[hs]
    rw[h.alt ⋯ ⋯ hij e1,(QrD n).alt ⋯ ⋯ hij e1,ZA]
theorem Qin(h:Alt n φ)(m:Mt2):φ m=det n m*φ QE:=by
 have key:∀k,k<=n->∀m:Nat->Nat->Int,(∃σ:Nat->Nat,∀j,k<=j->j<n->σ j<n/\m j=QE (σ j))->φ m=det n m*φ QE:=by
  intro k
  induction k with
  | zero=>
   rintro _ m ⟨σ,hσ⟩;have h1:∀j,j<n->∀r,r<n->m j r=(λj=>QE (σ j)) j r:=λj hj r _=>by rw[(hσ j ⋯ hj).2]
   rw[h.congr h1,QW h1];exact Qlr h n 0 σ ⋯ (λj hj=> ⋯) λj hj=>(hσ j ⋯ hj).1
  | succ k ih=>
   rintro hk m ⟨σ,hσ⟩;have hcol:∀j,j<n->∀r,r<n->m j r=cup m k (λr=>sm n λs=>m k s*QE s r) j r:=λj hj r hr=>by
    by_cases z:j=k
    ·subst z;rw[QI,QcL hr λi _ ne=>by rw[show QE i r=0 by unfold QE;rw[if_neg ne],ZC],show QE r r=1 by unfold QE;rw[if_pos rfl],ZU]
    ·rw[QF _ _ z]
   rw[h.congr hcol,QW hcol,h.sum ⋯,Qd7 ⋯,← QmB];refine QaU λs hs=>?_;rw[Zq];congr 1;refine ih ⋯ _ ⟨λj=>if j=k then s else σ j,λj h1 h2=>?_⟩;show(if j=k then s else σ j)<n/\cup m k (QE s) j=QE (if j=k then s else σ j);by_cases z:j=k
   ·subst z;rw[if_pos rfl,QI];exact⟨hs,rfl⟩
   ·rw[if_neg z,QF _ _ z];exact hσ j ⋯ h2
 exact key n (Zh n) m ⟨id,λj h1 h2=> ⋯⟩
end
theorem Qwo(n:Nat)(x E:Mt2):det n (λj r=>sm n λs=>x j s*E s r)=det n x*det n E:=by
 have h:Alt n λx=>det n λj r=>sm n λs=>x j s*E s r:=by
  have hcup:∀(m:Mt2) (c:Nat) (a:Mt1),(λj r=>sm n λs=>cup m c a j s*E s r)=cup (λj r=>sm n λs=>m j s*E s r) c λr=>sm n λs=>a s*E s r:=λm c a=>by
   funext j r;by_cases z:j=c
   ·subst z;rw[QI,QI]
   ·rw[QF _ _ z,QF _ _ z]
  refine⟨λhm=>QW λj hj r hr=>QaU λs hs=>by rw[hm j hj s hs],λm c hc x y a b=>?_,λ{m i j} hi hj hij e=>Qee hi hj hij (by funext r;rw[e])⟩;rw[hcup,hcup,hcup,← QfZ x y (λr=>sm n λs=>a s*E s r) (λr=>sm n λs=>b s*E s r) n _ c hc];congr 2;funext r;rw[← QhH];exact QaU λs hs=>by rw[ZQ,Zq,Zq]
 have:=Qin h x;rw[this];congr 1;refine QW λj hj r hr=>?_;rw[QcL hj λs _ ne=>by rw[show QE j s=0 by unfold QE;rw[if_neg (Ne.symm ne)],ZA],show QE j j=1 by unfold QE;rw[if_pos rfl],ZR]
noncomputable def rup(m:Mt2)(c:Nat)(a:Mt1):Nat->Nat->Int:=λj r=>if r=c then a j else m j r
theorem Qrg(x y:Int):∀(n:Nat) (m:Mt2) (c:Nat),c<n->∀(a b:Mt1),det n (rup m c λj=>x*a j+y*b j)=x*det n (rup m c a)+y*det n (rup m c b)
 | 0,_,_,h,_,_=> ⋯
 | n+1,m,c,h,a,b=>by
  unfold det;rw[← QhH];refine QaU λj hj=>?_;cases c with
  | zero=>
   have e:∀a:Nat->Int,(λc' r=>rup m 0 a (skp j c') (r+1))=λc' r=>m (skp j c') (r+1):=λa=>by
    funext c' r;unfold rup;rw[if_neg ⋯]
   rw[e,e,e];unfold rup;simp only[if_pos];generalize det n _=q;generalize sgn j=s;simp only[ZaB,ZQ,Zq,ZS]
  | succ c=>
   have e:∀a:Nat->Int,(λc' r=>rup m (c+1) a (skp j c') (r+1))=rup (λc' r=>m (skp j c') (r+1)) c λc'=>a (skp j c'):=λa=>by
    funext c' r;unfold rup;by_cases z:r=c
    ·rw[if_pos ⋯,if_pos z]
    ·rw[if_neg ⋯,if_neg z]
   rw[e,e,e,Qrg x y n _ c ⋯ (λc'=>a (skp j c')) λc'=>b (skp j c')];have e0:∀a:Nat->Int,rup m (c+1) a j 0=m j 0:=λa=>by unfold rup;rw[if_neg ⋯]
   rw[e0,e0,e0];generalize det n _=q;generalize det n _=q';generalize sgn j*m j 0=s;simp only[ZaB,ZS]
noncomputable def trp(a b r:Nat):Nat:=if r=a then b else if r=b then a else r
theorem QwZ(m:Mt2)(ha:a<n)(hb:b<n)(hab:a≠b):det n (λj r=>m j (trp a b r))= -det n m:=by
 have tb:∀r,r<n->trp a b r<n:=λr hr=>by
  unfold trp;split
  ·exact hb
  ·split
   ·exact ha
   ·exact hr
 have h:Alt n λm=>det n λj r=>m j (trp a b r):=by
  have hcup:∀(m:Mt2) (c:Nat) (v:Mt1),(λj r=>cup m c v j (trp a b r))=cup (λj r=>m j (trp a b r)) c λr=>v (trp a b r):=λm c v=>by
   funext j r;by_cases z:j=c
   ·subst z;rw[QI,QI]
   ·rw[QF _ _ z,QF _ _ z]
  refine⟨λhm=>QW λj hj r hr=>hm j hj _ (tb r hr),λm c hc x y v w=>?_,λ{m i j} hi hj hij e=>Qee hi hj hij (by funext r;rw[e])⟩;rw[hcup,hcup,hcup,← QfZ x y (λr=>v (trp a b r)) (λr=>w (trp a b r)) n _ c hc]
 have e:=Qin h m;rw[e];have u:det n (λj r=>QE j (trp a b r))= -1:=by
  have e1:=QdY (m:=QE) ha hb hab (QE b) (QE a);rw[show cup (cup QE a (QE a)) b (QE b)=QE by rw[Qas,Qas],Qd0]at e1;rw[← e1];refine QW λj hj r hr=>?_;by_cases z1:j=b
  ·subst z1;rw[QI];unfold QE trp;by_cases q1:r=a
   ·rw[if_pos q1,if_pos rfl,if_pos q1.symm]
   ·rw[if_neg q1];by_cases q2:r=j
    ·rw[if_pos q2,if_neg (Ne.symm hab),if_neg ⋯]
    ·rw[if_neg q2,if_neg (λz=>q2 z.symm),if_neg (λz=>q1 z.symm)]
  ·rw[QF _ _ z1];by_cases z2:j=a
   ·subst z2;rw[QI];unfold QE trp;by_cases q1:r=j
    ·rw[if_pos q1,if_neg hab,if_neg ⋯]
    ·rw[if_neg q1];by_cases q2:r=b
     ·rw[if_pos q2,if_pos rfl,if_pos q2.symm]
     ·rw[if_neg q2,if_neg (λz=>q1 z.symm),if_neg (λz=>q2 z.symm)]
   ·rw[QF _ _ z2];unfold QE trp;by_cases q1:r=a
    ·rw[if_pos q1,if_neg z1,if_neg ⋯]
    ·rw[if_neg q1];by_cases q2:r=b
     ·rw[if_pos q2,if_neg z2,if_neg ⋯]
     ·rw[if_neg q2]
 rw[u];omega
theorem QAC(ha:a<n)(hb:b<n)(hab:a≠b)(e:∀j,j<n->m j a=m j b):det n m=0:=by
 have h:=QwZ m ha hb hab;have:det n (λj r=>m j (trp a b r))=det n m:=QW λj hj r hr=>by
  unfold trp;split
  ·rename_i z;rw[z];exact(e j hj).symm
  ·split
   ·rename_i z;rw[z];exact e j hj
   ·rfl
 omega
theorem Qld(n:Nat)(m:Mt2):det n (λj r=>m r j)=det n m:=by
 have h:Alt n λm=>det n λj r=>m r j:=by
  have hcup:∀(m:Mt2) (c:Nat) (v:Mt1),(λj r=>cup m c v r j)=rup (λj r=>m r j) c v:=λm c v=>by
   funext j r;unfold rup;by_cases z:r=c
   ·subst z;rw[QI,if_pos rfl]
   ·rw[QF _ _ z,if_neg z]
  refine⟨λhm=>QW λj hj r hr=>hm r hr j hj,λm c hc x y v w=>?_,λ{m i j} hi hj hij e=>QAC hi hj hij λk _=>by rw[e]⟩;rw[hcup,hcup,hcup,Qrg x y n _ c hc v w]
 have e:=Qin h m;rw[e,QW (m:=λj r=>QE r j) (k:=QE) λj _ r _=>by
  unfold QE;by_cases z:r=j
  ·rw[if_pos z,if_pos z.symm]
  ·rw[if_neg z,if_neg (Ne.symm z)],Qd0,ZU]
noncomputable def dia(m:Mt2):Nat->Int
 | 0=>1
 | n+1=>m 0 0*dia (λj r=>m (j+1) (r+1)) n
theorem Qmj:∀(n:Nat) (m:Mt2),(∀j r,j<n->r<n->r<j->m j r=0)->det n m=dia m n
 | 0,m,_=>rfl
 | n+1,m,h=>by
  unfold det dia;rw[QcL (c:=0) ⋯ λj hj ne=>by rw[h j 0 hj ⋯ ⋯,ZC,ZA]];have e:(λc r=>m (skp 0 c) (r+1))=λc r=>m (c+1) (r+1):=by
   funext c r;unfold skp;rw[if_neg ⋯]
  rw[e,Qmj n _ λj r hj hr hjr=>h (j+1) (r+1) ⋯ ⋯ ⋯];unfold sgn;simp
theorem QCo(h:g1 ρ=some true):bOr g1 g2 ρ=some true:=by unfold bOr;rw[h];rfl
theorem QzD(h:fa ρ=some ⟨.tup [a,b],fr,M⟩):Qn fa (dC (.int 1)) ρ=some (HS.R.norm ⟨b,fr,M⟩):=by
 unfold Qn;rw[h];rfl
noncomputable def Qdj(f:Mt2)(k:Nat)(p:Mt1)(i:Nat)(q:Mt1):Nat->Nat->Int:=λl j=>if l=i then q j else if l=k then p j else f l j
theorem QeN{n N k:Nat}{g:Mt2}{p:Mt1}(hk:k<n):((List.range n).map λi=>Qb N (g i)).set k (Qb N p)=(List.range n).map λi=>Qb N (λj=>if i=k then p j else g i j):=by
 refine Zbf λi=>?_;rw[ZbZ];by_cases h:k=i
 ·subst h;rw[if_pos rfl,if_pos (by simpa using hk),Zr,ZK hk];simp
 ·rw[if_neg h,Zr,Zr];by_cases h2:i<n
  ·rw[ZK h2];simp only[ZX,if_neg (Ne.symm h)]
  ·rw[Zu (by simpa using h2)];rfl
theorem QxL{i k:Nat}(hx:x<ρ.length)(ey:fy (ρ.set x none)=some ⟨Qc n N f,by',[]⟩)(e1:f1 (ρ.set x none)=some (reI k))(e2:g1 (ρ.set x none)=some ⟨Qb N p,b1,[]⟩)(e3:f2 (ρ.set x none)=some (reI i))(e4:g2 (ρ.set x none)=some ⟨Qb N q,b2,[]⟩)(hk:k<n)(hi:i<n)
  (h:Q (.nx ((ρ.set x none).set x (slF (Qc n N (Qdj f k p i q)))))):Run (QkZ x fy f1 g1 f2 g2) ρ Q:=by
 refine⟨_,?_,h⟩;unfold QkZ QsN;rw[if_pos (by simpa using hx),ey,Za];simp only[Qc,e1,e2,e3,e4,Za,Zj,Zt];rw[QbO (show(0:Int)<=k by omega) ⋯,QbO (show(0:Int)<=i by omega) ⋯];simp only[Za,Zab,QeN hk];rw[QeN hi];rfl
noncomputable def QhE(Qa2:Den):DS:=(Qd (Qs 2 (QG (QeU vv1 (dBf Qaa (Qa vv0 Qe))) (.nm 1) [none,none,some 1,some 0] (QD (dOp gNe (Qn (Qn vv3 vv1) vv2) kk0)) vv1)) (Qd (sIf (bOr (QbG (QD vv2)) (QD (dOp gEq (Qn vv2 kk0) vv1))) (Qd (QH vv0) Qo) Qo) (Qd (QkZ 3 vv0 vv1 (Qn vv0 (Qn vv2 kk0)) (Qn vv2 kk0) (Qm 1 Qa2 [] (Qa (Qn vv0 vv1) Qe))) (Qd (QH vv3) Qo))))
def Qk6(d:Den):Prop:=∀(n N k:Nat) (f:Mt2),k<n->n<=1000->k<N->∃g,d [Qc n N f,.int k]=some (Qc n N g,false)∧
 ((g=f/\(f k k=0->∀i,k<=i->i<n->f i k=0))∨∃i,k<i/\i<n/\f i k≠0/\g=Qdj f k (f i) i λj=>0-f k j)
theorem Qti(ho:QlT dop):Qk6 (Qq 4 (QhE dop)):=λn N k f hk hn kN=>by
 have eI:=Qdo (fi:=QeU (Qh 1) (dBf Qaa (Qa (Qh 0) Qe))) (t:= .nm 1) (cap:=[none,none,some 1,some 0]) (ft:=QD (dOp gNe (Qn (Qn (Qh 3) (Qh 1)) (Qh 2)) (dC (.int 0)))) (fe:=Qh 1) (ρ:=[slF (Qc n N f),slI k,none,none])
  (toD:=λ(i:Nat)=> .int ((k:Int)+i)) (keep:=λi=> !decide (f (k+i) k=0)) (out:=λ(i:Nat)=> .int ((k:Int)+i)) (List.range (n-k)) (QnT (i:=k) (j:=n) (n:=n-k) (ra:=reI k) rfl rfl (Qd3 (n:=n) (m:=N) (f:=f) (r:=reF (Qc n N f)) rfl rfl) rfl ⋯ ⋯ ⋯ ⋯) rfl λi hi=>⟨[none,slI ((k:Int)+i),slI k,slF (Qc n N f)],rfl,by
   have hi':=Ze.mp hi;refine Qw (Qb4 (a:=f (k+i) k) (b:=0) (Qae (m:=N) (f:=f (k+i)) (i:=k) ((QdG (m:=n) (n:=N) (f:=f) (i:=(k:Int)+i) (ra:=reF (Qc n N f)) (rb:=reI ((k:Int)+i)) rfl rfl rfl rfl ⋯ ⋯).trans (by rw[show((k:Int)+i).toNat=k+i by omega])) rfl (rb:=reI k) rfl rfl kN) rfl rfl rfl) rfl,λ_=>⟨(reI ((k:Int)+i)),rfl,rfl,rfl⟩⟩
 have hmem:∀i,i∈(List.range (n-k)).filter (λi=> !decide (f (k+i) k=0))↔i<n-k/\f (k+i) k≠0:=λi=>by simp
 have hfst:∀i,f (k+i) k≠0->i<n-k->∀a l,(List.range (n-k)).filter (λi=> !decide (f (k+i) k=0))=a::l->f k k≠0->a=0:=λi _ hi a l e h0=>by
  have hr:List.range (n-k)=0::(List.range (n-k-1)).map (· +1):=by
   rw[show n-k=(n-k-1)+1 by omega,ZbF];rfl
  rw[hr,List.filter_cons,if_pos (by show(!decide (f (k+0) k=0))=true;rw[Nat.add_zero,decide_eq_false h0];rfl)]at e;exact(List.cons.inj e).1.symm
 generalize (List.range (n-k)).filter (λi=> !decide (f (k+i) k=0))=xs at eI hmem hfst;cases xs with
 | nil=>
  refine⟨f,?_,.inl ⟨rfl,λ_ i h1 h2=>?_⟩⟩
  ·refine QN ?_;refine rsa eI ?_;refine Qx (QQ (b:=true) ((QCo (QaS (b:=false) (show QD (Qh 2) _=some false from rfl)))) (λ_=>?_) (λh=>by cases h));exact Qx (Qb0 (r:=reF (Qc n N f)) rfl ⟨rfl,rfl⟩)
  ·by_cases z:f i k=0
   ·exact z
   ·have:=(hmem (i-k)).mpr ⟨⋯,by rw[show k+(i-k)=i by omega];exact z⟩;simp at this
 | cons a l=>
  obtain⟨ha,hz⟩:=(hmem a).mp Zm;have eidx:∀ρ:En,ρ[2]? =some (slT (.lst ((a::l).map λ(i:Nat)=>D.int ((k:Int)+i))))->Qn (Qh 2) (dC (.int 0)) ρ=some (reI ((k:Int)+a)):=λρ hρ=>by
   unfold Qn;rw[show Qh 2 ρ=some ⟨.lst ((a::l).map λ(i:Nat)=>D.int ((k:Int)+i)),true,[2]⟩ by unfold Qh;rw[hρ];rfl,Za,show dC (.int 0) ρ=some (reI 0)from rfl,Za];dsimp only;simp only[D.items,ZM,Za];rw[QjT (show(0:Int)<=0 by decide) (by simp)];rfl
  by_cases h0:a=0
  ·subst h0;refine⟨f,?_,.inl ⟨rfl,λz=>absurd z (by simpa using hz)⟩⟩;refine QN ?_;refine rsa eI ?_;refine Qx (QQ (b:=true) ((Qav (a:=false) (b:=true) (QaS (b:=true) (show QD (Qh 2) _=some true from rfl)) (Qw (b:=true) (QbA (a:=k) (b:=k) (ra:=reI k) ?_ rfl (rb:=reI k) rfl rfl) (by simp))).trans rfl) (λ_=>?_) (λh=>by cases h))
   ·rw[eidx _ rfl];show some (HS.R.mk (.int ((k:Int)+(0:Nat))) true [])=_;rw[show(k:Int)+(0:Nat)=k by omega]
   ·exact Qx (Qb0 (r:=reF (Qc n N f)) rfl ⟨rfl,rfl⟩)
  ·have hkk:f k k=0:=by
    by_cases z:f k k=0
    ·exact z
    ·exact absurd (hfst a hz ha a l rfl z) h0
   refine⟨_,?_,.inr ⟨k+a,⋯,⋯,hz,rfl⟩⟩;refine QN ?_;refine rsa eI ?_;refine Qx (QQ (b:=false) ((Qav (a:=false) (b:=false) (QaS (show QD (Qh 2) _=some true from rfl)) (Qw (QbA (eidx _ rfl) rfl rfl rfl) ?_)).trans rfl) (λh=>by cases h) (λ_=>Qt ?_))
   ·show D.bl _=_;rw[decide_eq_false ⋯]
   refine run_seq (QxL (i:=k+a) (p:=f (k+a)) (q:=λj=>0-f k j) (by':=false) (b1:=false) (b2:=true) (show 3<4 by decide) rfl rfl ?_ ?_ ?_ hk ⋯ ?_)
   ·exact(QdG rfl rfl (eidx _ rfl) rfl ⋯ ⋯).trans (by rw[show((k:Int)+a).toNat=k+a by omega])
   ·exact(eidx _ rfl).trans (by rw[show((k+a:Nat):Int)=(k:Int)+a by simp])
   ·exact Qk (r:=⟨[Qb N (f k)],false,[]⟩) (Qr ((QdG (i:=k) (ra:=reF (Qc n N f)) rfl rfl rfl rfl ⋯ ⋯).trans (by rw[Zab])) (QK _)) (ho N (f k)) rfl
   ·exact Qx (Qb0 rfl ⟨rfl,rfl⟩)
def Qpe(n:Nat)(m:Mt2):Prop:=∀j,j<n->∀r,r<n->(m j r).natAbs<=2^240
theorem Qlw(hn:n<=8):bnd (2^240) n<2^2000:=by
 have h:∀k,k<9->bnd (2^240) k<2^2000:=by decide+kernel
 exact h n ⋯
theorem Qpe.put(h:Qpe n m)(ha:∀r,r<n->(a r).natAbs<=2^240):Qpe n (cup m i a):=λj hj r hr=>by
 by_cases e:j=i
 ·subst e;rw[QI];exact ha r hr
 ·rw[QF _ _ e];exact h j hj r hr
structure QbE (n N k:Nat) (A m R:Mt2) (d:Int):Prop where
 clr:Clr n N k A m R d
 col:Qpe n m
theorem QbE.start(n N:Nat)(A:Mt2):QbE n N 0 A QE (λi j=>A j i) 1:=⟨Clr.start n N A,λj _ r _=>by unfold QE;split<;>decide⟩
theorem QbE.small{n N k:Nat}{A m R:Mt2}{d:Int}(h:QbE n N k A m R d)(hn:n<=8)(hA:∀j,j<N->∀r,r<n->(A j r).natAbs<=2^240):d.natAbs<2^2000/\∀i j,i<n->j<N->(R i j).natAbs<2^2000:=by
 have b:=Qlw hn;refine⟨?_,λi j hi hj=>?_⟩
 ·rw[← h.clr.det];exact ZO (Qd4 h.col) b
 ·rw[h.clr.ent i j hi hj];exact ZO (Qd4 (h.col.put (hA j hj))) b
theorem QbE.step{n N k:Nat}{A m R R':Mt2}{d:Int}(h:QbE n N k A m R d)(hk:k<n)(kN:k<N)(hA:∀j,j<N->∀r,r<n->(A j r).natAbs<=2^240)(hp:R k k≠0)(h1:∀j,j<N->R' k j=R k j)(h2:∀i j,i<n->i≠k->j<N->∀q,R k k*R i j-R i k*R k j=d*q->R' i j=q):QbE n N (k+1) A (cup m k (A k)) R' (R k k):=
 ⟨h.clr.step hk kN hp h1 h2,h.col.put (hA k kN)⟩
theorem QbE.swap{n N k:Nat}{A m R:Mt2}{d:Int}(h:QbE n N k A m R d){i:Nat}(hk:k<n)(hi:i<n)(hki:k<i):∃m',QbE n N k A m' (Qdj R k (R i) i λj=>0-R k j) d:=by
 have ne:k≠i:= ⋯
 have neg:∀(c:Nat),c<n->∀(M:Mt2) (a:Mt1),HS.det n (cup M c λr=> -a r)= -HS.det n (cup M c a):=λc hc M a=>by
  have:=QfR (m:=M) hc (-1) a;simpa only[Zak,ZR]using this
 obtain⟨c1,c2⟩:=h;refine⟨cup (cup m k (m i)) i λr=> -m k r,⟨c1.le,?_,c1.nz,λl j hl hj=>?_,λj hj=>?_⟩,λj hj r hr=>?_⟩
 ·rw[neg i hi,QdY hk hi ne,Zbh,Qas,Qas];exact c1.det
 ·unfold Qdj;by_cases e2:l=i
  ·subst e2;rw[if_pos rfl];show 0-R k j=_;rw[c1.ent k j hk hj,Qmy,QdY hk hl ne,Qaw _ _ _ ne];have:=Qas m l;rw[this];omega
  ·rw[if_neg e2];by_cases e1:l=k
   ·subst e1;rw[if_pos rfl,c1.ent i j hi hj,Qaw _ _ _ (Ne.symm ne),Qmy,neg i hi,QdY hl hi ne,Zbh,Qas]
   ·rw[if_neg e1,c1.ent l j hl hj,Qaw _ _ _ (Ne.symm e2),neg i hi,Qaw _ _ _ (Ne.symm e1),QdY hk hi ne,Zbh,Qaw _ _ _ e1,Qas,Qaw _ _ _ e2,Qas]
 ·rw[QF _ _ ⋯,QF _ _ ⋯];exact c1.own j hj
 ·by_cases e1:j=i
  ·subst e1;rw[QI,Int.natAbs_neg];exact c2 k hk r hr
  ·rw[QF _ _ e1];by_cases e2:j=k
   ·subst e2;rw[QI];exact c2 i hi r hr
   ·rw[QF _ _ e2];exact c2 j hj r hr
theorem Clr.stuck{n N k:Nat}{A m R:Mt2}{d:Int}(h:Clr n N k A m R d)(hk:k<n)(kN:k<N)(hz:∀i,k<=i->i<n->R i k=0):HS.det n A=0:=by
 have t:∀r,r<n->d*A k r=sm k λl=>R l k*A l r:=λr hr=>by
  rw[h.tell kN hr,QgE (k:=k) ⋯ λl h1 h2=>by rw[hz l h1 h2,ZA]];exact QaU λl hl=>by rw[h.own l hl]
 have e:d*HS.det n A=0:=by
  have e1:HS.det n (cup A k λr=>d*A k r)=d*HS.det n A:=by rw[QfR hk,Qas]
  rw[← e1];have e2:HS.det n (cup A k λr=>d*A k r)=HS.det n (cup A k λr=>sm k λl=>R l k*A l r):=QW λj hj r hr=>by
   by_cases q:j=k
   ·subst q;rw[QI,QI];exact t r hr
   ·rw[QF _ _ q,QF _ _ q]
  rw[e2,Qd7 hk (λl=>R l k) A k];exact Qj7 λi hi=>by rw[Qee (show i<n by omega) hk ⋯ (by rw[QI,QF _ _ ⋯]),ZC]
 rcases Int.mul_eq_zero.mp e with z | z
 ·exact absurd z h.nz
 ·exact z
theorem Clr.all{n N:Nat}{A m R:Mt2}{d:Int}(h:Clr n N n A m R d):d=HS.det n A:=by
 rw[← h.det];exact QW λj hj r _=>by rw[h.own j hj]
def QfL(d:Den):Prop:=∀(n N:Nat) (A:Mt2),n<=8->n<=N->(∀j,j<N->∀r,r<n->(A j r).natAbs<=2^240)->∃R,d [Qc n N (λi j=>A j i)]=some (.tup [Qc n N R,.int (det n A)],false)/\(det n A≠0->∃m,QbE n N n A m R (det n A))
noncomputable def QnE(QbL:Den):DS:=(Qd (QH (Qn (Qm 1 QbL [] (Qa vv0 Qe)) kk1)) Qo)
def Qi8(d:Den):Prop:=∀(n:Nat) (f:Mt2),n<=8->(∀i,i<n->∀j,j<n->(f i j).natAbs<=2^240)->d [Qc n n f]=some (.int (det n λj i=>f i j),true)
theorem QrT(hc:QfL dc):Qi8 (Qq 1 (QnE dc)):=λn f n8 hf=>by
 obtain⟨R,e,_⟩:=hc n n (λj i=>f i j) n8 (Zh n) (λj hj r hr=>hf r hr j hj);refine QN ?_;refine Qv (r:=reI (det n λj i=>f i j)) ?_ ⟨rfl,rfl⟩;have e1:=Qbh (fs:=Qa (Qh 0) Qe) (ρ:=[slF (Qc n n f)]) rfl e rfl;exact(QzD (e1.trans rfl)).trans rfl
end HS
namespace HS
open PySem PySem.Spec L2
end HS
namespace HS
open PySem L2
def Qho(d:Den):Prop:=∀(n N:Nat) (A:Mt2),n<=8->n<=N->(∀j,j<N->∀r,r<n->(A j r).natAbs<=2^240)->det n A≠0->∃m R b,d [Qc n N (λi j=>A j i)]=some (.tup [Qc n N R,.int b],false)/\QbE n N n A m R b
theorem Qo2(hc:QfL dc):Qho (Qq 2 (Qey dc)):=λn N A n8 hN hA hd=>by
 obtain⟨R,ec,hC⟩:=hc n N A n8 hN hA;obtain⟨m,C⟩:=hC hd;refine⟨m,R,det n A,QN ?_,C⟩;refine run_seq (Qz ((Qbh (r:=⟨[Qc n N (λi j=>A j i)],false,[]⟩) rfl ec rfl).trans rfl) ?_);refine Qx (QQ (b:=false) (Qw (QbA rfl rfl rfl rfl) (by simp[hd])) (λh=>by cases h) (λ_=>Qt ?_));exact Qv rfl ⟨rfl,rfl⟩
def QnB(d:Den):Prop:=∀(n:Nat) (f:Mt2) (row:Mt1),n<=8->(∀j r,j<n->r<n->(f j r).natAbs<=2^240)->(∀r,r<n->(row r).natAbs<=2^240)->det n f≠0->∃tops q,d [Qc n n f,Qb n row]=some (.tup [Qb n tops,.int q],true)/\0<q/\q.natAbs<2^2000/\(∀r,r<n->q*row r=sm n λl=>tops l*f l r)/\(∀l,l<n->(tops l).natAbs<2^2000)/\(∀t,t∣q->(∀l,l<n->t∣tops l)->t.natAbs=1)
theorem Qv6(ha:a<n)(hb:b<n)(hab:a≠b)(h:∀k,k<n->k≠a->k≠b->f k=g k)(e:f a+f b=g a+g b):Qi n f=Qi n g:=by
 have e1:Qi n f=Qi n λk=>g k+((if k=a then f a-g a else 0)*1+(if k=b then f b-g b else 0)*1):=Qg λk hk=>by
  by_cases k1:k=a
  ·subst k1;rw[if_pos rfl,if_neg hab];omega
  ·by_cases k2:k=b
   ·subst k2;rw[if_neg k1,if_pos rfl];omega
   ·rw[if_neg k1,if_neg k2,h k hk k1 k2];omega
 rw[e1,Qat,Qat,QaF ha _ λ_=>1,QaF hb _ λ_=>1];omega
theorem Qbs(ha:a<n)(h:∀k,k<n->k≠a->f k=0):Qi n f=f a:=by
 have e1:Qi n f=Qi n λk=>(if k=a then f a else 0)*1:=Qg λk hk=>by
  by_cases k1:k=a
  ·subst k1;rw[if_pos rfl];omega
  ·rw[if_neg k1,h k hk k1];omega
 rw[e1,QaF ha _ λ_=>1];omega
theorem Qeb(n:Nat)(c:Int)(f:Mt1):Qi n (λi=>f i*c)=Qi n f*c:=by
 rw[ZL,← QP];exact Qg λi _=>ZL _ _
theorem Qio(n:Nat)(f g:Mt1):Qi n (λi=>f i-g i)=Qi n f-Qi n g:=by
 have:=Qat n (λi=>f i-g i) g;rw[Qg (g:=f) λi _=> ⋯]at this;omega
theorem QdX(h:∀k,k<n->t∣f k):t∣Qi n f:=by
 induction n with
 | zero=>exact Int.dvd_zero t
 | succ n ih=>rw[Qai];exact ZaQ (ih λk hk=>h k ⋯) (h n ⋯)
theorem Qlo(h:∀k,k<n->(f k).natAbs<=C):(Qi n f).natAbs<=n*C:=by
 induction n with
 | zero=>exact Zai _
 | succ n ih=>
  rw[Qai,Nat.succ_mul];have h1:=ih λk hk=>h k ⋯;have h2:=h n ⋯;have h3:=ZbI (Qi n f) (f n);omega
noncomputable def idF(i j:Nat):Int:=if i=j then 1 else 0
theorem QaC(n:Nat)(a b c:Mt2):prodF n (prodF n a b) c=prodF n a (prodF n b c):=by
 funext i j;unfold prodF;have e1:(Qi n λk=>(Qi n λl=>a i l*b l k)*c k j)=Qi n λk=>Qi n λl=>a i l*(b l k*c k j):=Qg λk _=>by
  rw[← Qeb];exact Qg λl _=>Zq _ _ _
 rw[e1,Qbn];exact Qg λl _=>QP n _ _
theorem Qar(h1:∀k,k<n->a i k=a' i k)(h2:∀k,k<n->b k j=b' k j):prodF n a b i j=prodF n a' b' i j:=
 Qg λk hk=>by rw[h1 k hk,h2 k hk]
theorem Qcc(a:Mt2)(j:Nat)(hi:i<n):prodF n idF a i j=a i j:=by
 unfold prodF idF;rw[Qbs hi λk _ hk=>by rw[if_neg (Ne.symm hk),ZA],if_pos rfl,ZR]
theorem Qgb(a:Mt2)(i:Nat)(hj:j<n):prodF n a idF i j=a i j:=by
 unfold prodF idF;rw[Qbs hj λk _ hk=>by rw[if_neg hk,ZC],if_pos rfl,ZU]
def QbC(n:Nat)(a b:Mt2):Prop:=∀i j,i<n->j<n->prodF n a b i j=idF i j
theorem QbC.prod(h1:QbC n a b)(h2:QbC n c d):QbC n (prodF n a c) (prodF n d b):=λi j hi hj=>by
 rw[QaC,Qar (a':=a) (b':=prodF n (prodF n c d) b) (λ_ _=>rfl) λk hk=>by rw[QaC],Qar (a':=a) (b':=b) (λ_ _=>rfl) λk hk=>?_]
 ·exact h1 i j hi hj
 ·rw[Qar (a':=idF) (b':=b) (λl hl=>h2 k l hk hl) λ_ _=>rfl,Qcc b j hk]
theorem split_len:∀(L h:Nat),0<L->∃L1 L2 N,L=L1*L2/\Nat.Coprime L1 h/\L2∣h^N:=by
 intro L
 induction L using Nat.strongRecOn with
 | _ L ih=>
  intro h hL;by_cases g:Nat.gcd L h=1
  ·exact⟨L,1,0,⋯,g,Nat.one_dvd _⟩
  ·have hg:0<Nat.gcd L h:=Nat.gcd_pos_of_pos_left h hL;obtain⟨M,hM⟩:=Nat.gcd_dvd_left L h;have hM0:0<M:=by
    rcases ZaT M with z | z
    ·rw[z,Nat.mul_zero]at hM;omega
    ·exact z
   have hlt:M<L:=by
    have:2*M<=Nat.gcd L h*M:=Zbq M ⋯;omega
   obtain⟨L1,L2,N,e,c,d⟩:=ih M hlt h hM0;refine⟨L1,Nat.gcd L h*L2,N+1,?_,c,?_⟩
   ·rw[Nat.mul_left_comm,← e];exact hM
   ·rw[Zcp,Zbe (h^N)];exact Nat.mul_dvd_mul (Nat.gcd_dvd_right L h) d
theorem QhW{t:Nat}{x:Int}:(t:Int)∣x↔t∣x.natAbs:=by rw[← Zal,Int.natAbs_natCast]
noncomputable def QbU:Nat->(Nat->Int)->Nat
 | 0,_=>0
 | n+1,u=>Nat.gcd (QbU n u) (u n).natAbs
theorem QbM{u:Mt1}{t:Nat}:∀{n:Nat},t∣QbU n u↔∀i,i<n->(t:Int)∣u i
 | 0=>⟨λ_ i hi=> ⋯,λ_=>Nat.dvd_zero t⟩
 | n+1=>by
  unfold QbU;rw[Nat.dvd_gcd_iff,QbM (n:=n)];constructor
  ·rintro⟨h1,h2⟩ i hi;by_cases e:i=n
   ·subst e;exact QhW.mpr h2
   ·exact h1 i ⋯
  ·exact λh=>⟨λi hi=>h i ⋯,QhW.mp (h n ⋯)⟩
theorem Qw1{n:Nat}{u v:Mt1}{L:Nat}(hL:0<L)(hc:∀t:Nat,t∣L->(∀i,i<n->(t:Int)∣u i)->(∀i,i<n->(t:Int)∣v i)->t=1):
  ∃T:Nat,∀t:Nat,t∣L->(∀i,i<n->(t:Int)∣u i+T*v i)->t=1:=by
 obtain⟨L1,L2,N,e,c,d⟩:=split_len L (Nat.gcd (QbU n u) L) hL;refine⟨L1,λt ht hu=>?_⟩;have c1:Nat.Coprime t L1:=by
  have a1:Nat.gcd t L1∣t:=Nat.gcd_dvd_left _ _;have a2:Nat.gcd t L1∣L1:=Nat.gcd_dvd_right _ _;have hui:∀i,i<n->((Nat.gcd t L1:Nat):Int)∣u i:=λi hi=>by
   have h1:=Int.dvd_trans (Int.natCast_dvd_natCast.mpr a1) (hu i hi);have h2:((Nat.gcd t L1:Nat):Int)∣(L1:Int)*v i:=ZaC (Int.natCast_dvd_natCast.mpr a2);have:=ZbA h1 h2;rwa[Int.add_sub_cancel]at this
  have h3:Nat.gcd t L1∣Nat.gcd (QbU n u) L:=Nat.dvd_gcd (QbM.mpr hui) (Nat.dvd_trans a1 ht);exact Nat.eq_one_of_dvd_one (by rw[← c];exact Nat.dvd_gcd a2 h3)
 have t2:t∣L2:=by
  rw[e]at ht;exact Nat.Coprime.dvd_of_dvd_mul_left c1 ht
 have c2:Nat.Coprime t (Nat.gcd (QbU n u) L):=by
  have a1:Nat.gcd t (Nat.gcd (QbU n u) L)∣t:=Nat.gcd_dvd_left _ _;have a2:Nat.gcd t (Nat.gcd (QbU n u) L)∣QbU n u:=Nat.dvd_trans (Nat.gcd_dvd_right _ _) (Nat.gcd_dvd_left _ _);show Nat.gcd t (Nat.gcd (QbU n u) L)=1;generalize Nat.gcd t (Nat.gcd (QbU n u) L)=D at a1 a2 ⊢;have hui:=QbM.mp a2;have cD:Nat.Coprime D L1:=Nat.Coprime.coprime_dvd_left a1 c1;refine hc D (Nat.dvd_trans a1 ht) hui λi hi=>?_;have h1:=ZbA (Int.dvd_trans (Int.natCast_dvd_natCast.mpr a1) (hu i hi)) (hui i hi);rw[show u i+(L1:Int)*v i-u i=(L1:Int)*v i by omega]at h1;have h2:=QhW.mp h1;rw[Zad,Int.natAbs_natCast]at h2;exact QhW.mpr (Nat.Coprime.dvd_of_dvd_mul_left cD h2)
 exact Nat.Coprime.eq_one_of_dvd (Nat.Coprime.pow_right N c2) (Nat.dvd_trans t2 d)
theorem QAS{n:Nat}(u v:Mt1){L:Nat}(hL:0<L):
  ∃T:Nat,∀t:Nat,t∣L->(∀i,i<n->(t:Int)∣u i+T*v i)->(∀i,i<n->(t:Int)∣u i)/\∀i,i<n->(t:Int)∣v i:=by
 obtain⟨g,hg⟩:∃g,g=Nat.gcd (Nat.gcd (QbU n u) (QbU n v)) L:=⟨_,rfl⟩;have gL:g∣L:=by rw[hg];exact Nat.gcd_dvd_right _ _
 have gu:∀i,i<n->(g:Int)∣u i:=QbM.mp (by rw[hg];exact Nat.dvd_trans (Nat.gcd_dvd_left _ _) (Nat.gcd_dvd_left _ _));have gv:∀i,i<n->(g:Int)∣v i:=QbM.mp (by rw[hg];exact Nat.dvd_trans (Nat.gcd_dvd_left _ _) (Nat.gcd_dvd_right _ _));have g0:0<g:=Nat.pos_of_dvd_of_pos gL hL;obtain⟨L',eL⟩:=gL;have hL':0<L':=by
  rcases ZaT L' with z | z
  ·rw[z,Nat.mul_zero]at eL;omega
  ·exact z
 have eu:∀i,i<n->u i=(g:Int)*(u i / g):=λi hi=>(Int.mul_ediv_cancel' (gu i hi)).symm;have ev:∀i,i<n->v i=(g:Int)*(v i / g):=λi hi=>(Int.mul_ediv_cancel' (gv i hi)).symm;have gz:(g:Int)≠0:= ⋯
 obtain⟨T,hT⟩:=Qw1 hL' λt h1 h2 h3=>by
  have a1:g*t∣L:=by rw[eL];exact Nat.mul_dvd_mul_left g h1
  have a2:g*t∣QbU n u:=QbM.mpr λi hi=>by rw[eu i hi,Zaq];exact Int.mul_dvd_mul_left _ (h2 i hi)
  have a3:g*t∣QbU n v:=QbM.mpr λi hi=>by rw[ev i hi,Zaq];exact Int.mul_dvd_mul_left _ (h3 i hi)
  have a4:g*t∣g:=by
   have:=Nat.dvd_gcd (Nat.dvd_gcd a2 a3) a1;rwa[← hg]at this
  exact Nat.eq_one_of_dvd_one (Nat.dvd_of_mul_dvd_mul_left g0 (by rw[Nat.mul_one];exact a4))
 refine⟨T,λt ht hu=>?_⟩;have hD:Nat.gcd (QbU n λi=>u i+T*v i) L∣g:=by
  obtain⟨D',hD'⟩:g∣Nat.gcd (QbU n λi=>u i+T*v i) L:=Nat.dvd_gcd (QbM.mpr λi hi=>ZaQ (gu i hi) (Int.dvd_mul_of_dvd_right (gv i hi))) ⟨L',eL⟩;have b1:D'∣L':=by
   have:=Nat.gcd_dvd_right (QbU n λi=>u i+T*v i) L;rw[hD',eL]at this;exact Nat.dvd_of_mul_dvd_mul_left g0 this
  have b2:=hT D' b1 λi hi=>by
   have h1:((g*D':Nat):Int)∣u i+T*v i:=by rw[← hD'];exact(QbM).mp (Nat.gcd_dvd_left _ _) i hi
   rw[eu i hi,ev i hi,show(g:Int)*(u i / g)+T*((g:Int)*(v i / g))=g*(u i / g+T*(v i / g)) by rw[ZaB,ZS],Zaq]at h1;exact Int.dvd_of_mul_dvd_mul_left gz h1
  rw[hD',b2,Nat.mul_one];exact Nat.dvd_refl g
 have tg:t∣g:=Nat.dvd_trans (Nat.dvd_gcd (QbM.mpr hu) ht) hD;exact⟨λi hi=>Int.dvd_trans (Int.natCast_dvd_natCast.mpr tg) (gu i hi),λi hi=>Int.dvd_trans (Int.natCast_dvd_natCast.mpr tg) (gv i hi)⟩
theorem Qyk{L g y:Int}(h:∀t:Int,t∣L->t∣g->t.natAbs=1)(hd:L∣g*y):L∣y:=by
 have c:Nat.Coprime L.natAbs g.natAbs:=by
  have:=h (Nat.gcd L.natAbs g.natAbs) (QhW.mpr (Nat.gcd_dvd_left _ _)) (QhW.mpr (Nat.gcd_dvd_right _ _));rwa[Int.natAbs_natCast]at this
 have h2:=Zal.mpr hd;rw[Zad]at h2;exact Zal.mp (Nat.Coprime.dvd_of_dvd_mul_left c h2)
structure QjX (n:Nat) (A P:Mt2) (w:Int) (R Rb:Mt2) (len:Mt1):Prop where
 u1:QbC n R Rb
 u2:QbC n Rb R
 pos:∀j,j<n->0<len j
 col:∀i j,i<n->j<n->len j∣prodF n A R i j
 row:∀i j,i<n->j<n->w∣len j*prodF n Rb P j i
 nxt:∀j,j+1<n->len j∣len (j+1)
structure RT (n k:Nat) (A P:Mt2) (w c L:Int) (R Rb S:Mt2) (len:Mt1):Prop where
 kn:k<=n
 u1:QbC n R Rb
 u2:QbC n Rb R
 L0:0<L
 cL:c*L=w
 low:∀i j,k<=i->i<n->j<n->S i j=0
 i1:∀i j,i<n->j<n->L∣prodF n (prodF n A R) S i j
 i2:∀i j,i<k->j<n->w∣prodF n Rb P i j-c*S i j
 one:∀j,j<k->len j=1
 pos:∀j,k<=j->j<n->0<len j
 col:∀i j,k<=j->j<n->i<n->len j∣prodF n A R i j
 row:∀i j,k<=j->j<n->i<n->w∣len j*prodF n Rb P j i
 nxt:∀j,k<=j->j+1<n->len j∣len (j+1)
 top:k<n->len k=L
theorem RT.stop{n k:Nat}{A P:Mt2}{w c L:Int}{R Rb S:Mt2}{len:Mt1}(h:RT n k A P w c L R Rb S len)(hp:∀i j,i<n->j<n->L∣S i j):QjX n A P w R Rb len where
 u1:=h.u1
 u2:=h.u2
 pos:=λj hj=>by
  by_cases z:j<k
  ·rw[h.one j z];decide
  ·exact h.pos j ⋯ hj
 col:=λi j hi hj=>by
  by_cases z:j<k
  ·rw[h.one j z];exact Int.one_dvd _
  ·exact h.col i j ⋯ hj hi
 row:=λi j hi hj=>by
  by_cases z:j<k
  ·rw[h.one j z,ZR];have h1:=h.i2 j i z hi;have h2:w∣c*S j i:=by rw[← h.cL];exact Int.mul_dvd_mul_left c (hp j i hj hi)
   have:=ZaQ h1 h2;rwa[ZaV]at this
  ·exact h.row i j ⋯ hj hi
 nxt:=λj hj=>by
  by_cases z:j<k
  ·rw[h.one j z];exact Int.one_dvd _
  ·exact h.nxt j ⋯ hj
theorem RT.done{n:Nat}{A P:Mt2}{w c L:Int}{R Rb S:Mt2}{len:Mt1}(h:RT n 0 A P w c L R Rb S len):QjX n A P w R Rb len:=
 ⟨h.u1,h.u2,λj hj=>h.pos j ⋯ hj,λi j hi hj=>h.col i j ⋯ hj hi,λi j hi hj=>h.row i j ⋯ hj hi,λj hj=>h.nxt j ⋯ hj⟩
structure Qoz (n last:Nat) (x:Mt1) (T B:Mt2) (g:Int):Prop where
 u1:QbC n T B
 u2:QbC n B T
 tl:∀i j,last<i->i<n->j<n->T i j=idF i j
 tu:∀i j,i<=last->last<j->j<n->T i j=0
 bl:∀i j,i<n->last<j->j<n->B i j=idF i j
 hit:∀i,i<=last->Qi n (λj=>T i j*x j)=if i=last then g else 0
theorem RT.step{n last:Nat}{A P:Mt2}{w c L part L':Int}{R Rb S Sq S1:Mt2}{len x cc:Mt1}{T B:Mt2}{g:Int}(h:RT n (last+1) A P w c L R Rb S len)
  (p0:0<part) (eL:L=part*L') (hS:∀i j,i<n->j<n->S i j=part*Sq i j) (h1:∀i j,i<n->j<n->L'∣Sq i j-S1 i j) (hz:∀i j,last<i->i<n->j<n->S1 i j=0)
  (cop:∀t,t∣L'->(∀i j,i<n->j<n->t∣Sq i j)->t.natAbs=1) (hx:∀i,i<n->L'∣x i-Qi n λj=>cc j*S1 i j) (hx0:∀i,last<i->i<n->x i=0)
  (hxc:∀t,t∣L'->(∀i,i<n->t∣x i)->∀i j,i<n->j<n->t∣S1 i j) (sp:Qoz n last x T B g):
  RT n last A P w (c*part) L' (prodF n R B) (prodF n T Rb) (λi j=>if i=last then 0 else prodF n T S1 i j) (λj=>if j=last then L' else len j):=by
 have hn:last<n:=h.kn;have L0':0<L':=by
  refine ZP λz=>?_;have:=ZaW (a:=part) (b:=L') ⋯ ⋯;have:=h.L0;omega
 have pz:part≠0:= ⋯
 have ew:w=c*part*L':=by rw[← h.cL,eL,Zq]
 obtain⟨M,hM⟩:∃M,M=prodF n A R:=⟨_,rfl⟩;obtain⟨Q,hQ⟩:∃Q,Q=prodF n Rb P:=⟨_,rfl⟩;have aM:prodF n A (prodF n R B)=prodF n M B:=by rw[hM,QaC]
 have aQ:prodF n (prodF n T Rb) P=prodF n T Q:=by rw[hQ,QaC]
 have i1:=h.i1;have i2:=h.i2;have col:=h.col;have row:=h.row;rw[← hM]at i1 col;rw[← hQ]at i2 row;have F1:∀i j,i<n->j<n->L'∣prodF n M S1 i j:=λi j hi hj=>by
  have a1:=i1 i j hi hj;have a2:prodF n M S i j=part*prodF n M Sq i j:=by
   unfold prodF;rw[← QP];exact Qg λl hl=>by rw[hS l j hl hj,ZS]
  rw[a2,eL]at a1;have a3:=Int.dvd_of_mul_dvd_mul_left pz a1;have a4:L'∣Qi n λl=>M i l*(Sq l j-S1 l j):=QdX λl hl=>Int.dvd_mul_of_dvd_right (h1 l j hl hj);have a5:(Qi n λl=>M i l*(Sq l j-S1 l j))=prodF n M Sq i j-prodF n M S1 i j:=by
   unfold prodF;rw[← Qio];exact Qg λl _=>ZbP _ _ _
  rw[a5]at a4;have:=ZbA a3 a4;rwa[Int.sub_sub_self]at this
 have F2:∀i,i<n->L'∣Qi n λl=>M i l*x l:=λi hi=>by
  have a1:L'∣Qi n λl=>M i l*(x l-Qi n λj=>cc j*S1 l j):=QdX λl hl=>Int.dvd_mul_of_dvd_right (hx l hl);have a2:L'∣Qi n λj=>cc j*prodF n M S1 i j:=QdX λj hj=>Int.dvd_mul_of_dvd_right (F1 i j hi hj);have a3:(Qi n λj=>cc j*prodF n M S1 i j)=Qi n λl=>M i l*Qi n λj=>cc j*S1 l j:=by
   unfold prodF;rw[Qg (g:=λj=>Qi n λl=>M i l*(cc j*S1 l j)) λj _=>by rw[← QP];exact Qg λl _=>ZS _ _ _,Qbn];exact Qg λl _=>QP n _ _
  rw[a3]at a2;have:=ZaQ a1 a2;rw[← Qat,Qg λl _=>by rw[← ZaB,ZaV]]at this;exact this
 have F3:∀l,l<n->x l=g*B l last:=λl hl=>by
  have a1:(Qi n λj=>prodF n B T l j*x j)=x l:=by
   rw[Qbs hl λj hj e=>by rw[sp.u2 l j hl hj];unfold idF;rw[if_neg (Ne.symm e),ZA],sp.u2 l l hl hl];unfold idF;rw[if_pos rfl,ZR]
  have a2:(Qi n λj=>prodF n B T l j*x j)=Qi n λm=>B l m*Qi n λj=>T m j*x j:=by
   unfold prodF;rw[Qg (g:=λj=>Qi n λm=>B l m*(T m j*x j)) λj _=>by rw[← Qeb];exact Qg λm _=>Zq _ _ _,Qbn];exact Qg λm _=>QP n _ _
  rw[← a1,a2,Qbs hn λm hm ne=>?_]
  ·rw[sp.hit last (Zh _),if_pos rfl,ZL]
  ·by_cases z:m<=last
   ·rw[sp.hit m z,if_neg ne,ZC]
   ·have:(Qi n λj=>T m j*x j)=0:=by
     rw[Qbs hm λj hj e=>by rw[sp.tl m j ⋯ hm hj];unfold idF;rw[if_neg (Ne.symm e),ZA],hx0 m ⋯ hm,ZC]
    rw[this,ZC]
 have F4:∀t,t∣L'->t∣g->t.natAbs=1:=λt t1 t2=>cop t t1 λi j hi hj=>by
  have a1:=hxc t t1 (λl hl=>by rw[F3 l hl];exact ZaC t2) i j hi hj;have a2:=ZaQ (Int.dvd_trans t1 (h1 i j hi hj)) a1;rwa[ZaV]at a2
 have F5:∀i,i<n->L'∣prodF n M B i last:=λi hi=>Qyk F4 (by
  have:g*prodF n M B i last=Qi n λl=>M i l*x l:=by
   unfold prodF;rw[← QP];exact Qg λl hl=>by rw[F3 l hl,ZS]
  rw[this];exact F2 i hi)
 have F6:∀i j,i<=last->j<n->w∣prodF n T Q i j-c*part*prodF n T S1 i j:=λi j hi hj=>by
  have e:prodF n T Q i j-c*part*prodF n T S1 i j=Qi n λl=>T i l*(Q l j-c*part*S1 l j):=by
   unfold prodF;rw[← QP,← Qio];exact Qg λl _=>by rw[ZbP,ZS (c*part)]
  rw[e];refine QdX λl hl=>?_;by_cases z:l<=last
  ·refine Int.dvd_mul_of_dvd_right ?_;have a1:=i2 l j ⋯ hj;have a2:w∣c*S l j-c*part*S1 l j:=by
    rw[hS l j hl hj,← Zq,← ZbP,ew];exact Int.mul_dvd_mul_left _ (h1 l j hl hj)
   have:=ZaQ a1 a2;rwa[show Q l j-c*S l j+(c*S l j-c*part*S1 l j)=Q l j-c*part*S1 l j by omega]at this
  ·rw[sp.tu i l hi ⋯ hl,ZA];exact Int.dvd_zero _
 refine⟨⋯,QbC.prod h.u1 sp.u2,QbC.prod sp.u1 h.u2,L0',ew.symm,λi j hi hin hj=>?_,λi j hi hj=>?_,λi j hi hj=>?_,λj hj=>?_,λj hj hjn=>?_,λi j hj hjn hi=>?_,λi j hj hjn hi=>?_,λj hj hjn=>?_,λ_=>by rw[if_pos rfl]⟩
 ·by_cases z:i=last
  ·show(if i=last then 0 else _)=(0:Int);rw[if_pos z]
  ·show(if i=last then 0 else prodF n T S1 i j)=0;rw[if_neg z,Qar (a':=idF) (b':=S1) (λl hl=>sp.tl i l ⋯ hin hl) (λ_ _=>rfl),Qcc _ _ hin];exact hz i j ⋯ hin hj
 ·rw[aM];have e1:prodF n (prodF n M B) (λi j=>if i=last then 0 else prodF n T S1 i j) i j=prodF n (prodF n M B) (prodF n T S1) i j-prodF n M B i last*prodF n T S1 last j:=by
   have s1:prodF n (prodF n M B) (prodF n T S1) i j=Qi n (λl=>prodF n M B i l*(if l=last then 0 else prodF n T S1 l j))+Qi n (λl=>(if l=last then prodF n M B i last*prodF n T S1 last j else 0)*1):=by
    rw[← Qat];show(Qi n λl=>prodF n M B i l*prodF n T S1 l j)=_;exact Qg λl _=>by
     by_cases z:l=last
     ·subst z;rw[if_pos rfl,if_pos rfl];omega
     ·rw[if_neg z,if_neg z];omega
   rw[s1,QaF hn _ λ_=>1];show(Qi n λl=>prodF n M B i l*(if l=last then 0 else prodF n T S1 l j))=_;omega
  rw[e1,← QaC];refine ZbA ?_ (ZaC (F5 i hi));rw[Qar (a':=M) (b':=S1) (λl hl=>?_) (λ_ _=>rfl)]
  ·exact F1 i j hi hj
  ·rw[QaC,Qar (a':=M) (b':=idF) (λ_ _=>rfl) (λm hm=>sp.u2 m l hm hl),Qgb _ _ hl]
 ·rw[aQ,if_neg ⋯];exact F6 i j ⋯ hj
 ·rw[if_neg ⋯];exact h.one j ⋯
 ·by_cases z:j=last
  ·rw[if_pos z];exact L0'
  ·rw[if_neg z];exact h.pos j ⋯ hjn
 ·rw[aM];by_cases z:j=last
  ·rw[if_pos z,z];exact F5 i hi
  ·rw[if_neg z,Qar (a':=M) (b':=idF) (λ_ _=>rfl) (λl hl=>sp.bl l j hl ⋯ hjn),Qgb _ _ hjn];exact col i j ⋯ hjn hi
 ·rw[aQ];by_cases z:j=last
  ·rw[if_pos z,z];have a1:w∣L'*(prodF n T Q last i-c*part*prodF n T S1 last i):=Int.dvd_mul_of_dvd_right (F6 last i (Zh _) hi);have a2:w∣L'*(c*part*prodF n T S1 last i):=by rw[ew];exact⟨prodF n T S1 last i,by rw[← Zq,ZL L']⟩
   have:=ZaQ a1 a2;rwa[← ZaB,ZaV]at this
  ·rw[if_neg z,Qar (a':=idF) (b':=Q) (λl hl=>sp.tl j l ⋯ hjn hl) (λ_ _=>rfl),Qcc _ _ hjn];exact row i j ⋯ hjn hi
 ·by_cases z:j=last
  ·rw[if_pos z,if_neg ⋯,z,h.top ⋯,eL];exact Int.dvd_mul_left _ _
  ·rw[if_neg z,if_neg ⋯];exact h.nxt j ⋯ hjn
theorem Qgc(h:i.natAbs<2^k)(hk:k<=2^20):Qbd i:=Zp (Zbz h) hk
noncomputable def Qjf(Qa3:Den):DS:=(Qd (QH (QG (QaY vv0) (.nm 1) [none,none,some 0] QO (Qm 2 Qa3 [] (Qa vv2 (Qa vv1 Qe))))) Qo)
def QhC(d:Den):Prop:=∀n:Nat,n<=1000->d [.int n]=some (Qc n n idF,true)
theorem QwX(hu:Qjr du):QhC (Qq 1 (Qjf du)):=λn hn=>by
 have e:Qc n n idF=Qc n n λi j=>if j=i then 1 else 0:=by
  unfold Qc;refine congrArg D.lst (ZF λi _=>Qcr λj _=>?_);show idF i j=if j=i then 1 else 0;unfold idF;by_cases z:i=j
  ·rw[if_pos z,if_pos z.symm]
  ·rw[if_neg z,if_neg (Ne.symm z)]
 rw[e];exact QN (Qv (QB (List.range n) (Qbc rfl rfl ⋯) rfl λi _=>⟨[none,slI i,slI n],rfl,reT (Qb n λj=>if j=i then 1 else 0),Qk rfl (hu n i hn) rfl,rfl,rfl⟩) ⟨rfl,rfl⟩)
noncomputable def Qrv:DS:=(Qd (QH (QG (Qak vv1 vv3) (.tp [1,2]) [none,none,none,some 0,some 2] QO (QS (Q7 vv3 vv1) (Q7 vv4 vv2)))) Qo)
def Qj6(d:Den):Prop:=∀(n:Nat) (p q:Int) (a b:Mt1),Qbd p->Qbd q->(∀i,i<n->Qbd (a i)/\Qbd (b i))->d [.int p,Qb n a,.int q,Qb n b]=some (Qb n λi=>p*a i+q*b i,true)
theorem QwG:Qj6 (Qq 4 Qrv):=λn p q a b hp hq hb=>
 QN (Qv (QB (List.range n) (Qac rfl rfl rfl rfl) rfl λi hi=>⟨[none,slI (a i),slI (b i),slI p,slI q],rfl,reI (p*a i+q*b i),Qad (Qan rfl rfl rfl rfl (QcO hp (hb i (Ze.mp hi)).1)) rfl (Qan rfl rfl rfl rfl (QcO hq (hb i (Ze.mp hi)).2)) rfl,rfl,rfl⟩) ⟨rfl,rfl⟩)
noncomputable def QcA(r x y:Int):Nat->Int
 | 0=>r
 | 1=>x
 | _=>y
theorem QnN(h1:r.natAbs<2^2000)(h2:x.natAbs<2^2000)(h3:y.natAbs<2^2000):∀i,Qbd (QcA r x y i)
 | 0=>Qa6 h1
 | 1=>Qa6 h2
 | _+2=>Qa6 h3
noncomputable def QgZ(QbX:Den):DS:=(Qd (Qs 2 (Qao (Qa vv0 (Qa kk1 (Qa kk0 Qe))))) (Qd (Qs 3 (Qao (Qa vv1 (Qa kk0 (Qa kk1 Qe))))) (Qd (Qca (QD (dOp gNe (Qn vv3 kk0) kk0)) (Qd (Qs 4 (Qm 4 QbX [] (Qa kk1 (Qa vv2 (Qa (dOp QaG kk0 (dOp Qco (Qn vv2 kk0) (Qn vv3 kk0))) (Qa vv3 Qe)))))) (Qd (Qs 2 (QaA vv3)) (Qd (Qs 3 (QaA vv4)) Qo)))) (Qd (QH (Qr9 (Qa vv2 Qe))) Qo))))
structure Wgh (a b R0 R1:Nat) (x0 y0 x1 y1:Int):Prop where
 e0:(R0:Int)=x0*a+y0*b
 e1:(R1:Int)=x1*a+y1*b
 dv:∀t:Nat,(t∣R0/\t∣R1)↔(t∣a/\t∣b)
 l0:R0<2^2000
 l1:R1<2^2000
 bx:x1.natAbs*R0+x0.natAbs*R1<=b
 by':y1.natAbs*R0+y0.natAbs*R1<=a
 x0l:x0.natAbs<=b+1
 x1l:x1.natAbs<=b+1
 y0l:y0.natAbs<=a+1
 y1l:y1.natAbs<=a+1
theorem Qru{p0 p1:Int}{q R0 R1 R2 c:Nat}(e:q*R1+R2=R0)(h:p1.natAbs*R0+p0.natAbs*R1<=c):(1*p0+(0-(q:Int))*p1).natAbs*R1+p1.natAbs*R2<=c:=by
 have h1:(1*p0+(0-(q:Int))*p1).natAbs<=p0.natAbs+q*p1.natAbs:=by
  have:=ZbI (1*p0) ((0-(q:Int))*p1);rw[ZR,ZY,Zak,Int.natAbs_neg,Zad,Int.natAbs_natCast]at this;rw[ZR,ZY,Zak];exact this
 have h2:=Zbq R1 h1;have h3:(p0.natAbs+q*p1.natAbs)*R1+p1.natAbs*R2=p1.natAbs*R0+p0.natAbs*R1:=by
  rw[← e,Nat.add_mul,Nat.mul_add];have:q*p1.natAbs*R1=p1.natAbs*(q*R1):=by rw[Zbe q,Nat.mul_assoc]
  omega
 omega
theorem Wgh.step{a b R0 R1:Nat}{x0 y0 x1 y1:Int}(h:Wgh a b R0 R1 x0 y0 x1 y1)(hr:R1≠0):Wgh a b R1 (R0 % R1) x1 y1 (1*x0+(0-((R0 / R1:Nat):Int))*x1) (1*y0+(0-((R0 / R1:Nat):Int))*y1):=by
 have e:R0 / R1*R1+R0 % R1=R0:=by rw[Zbe];exact Nat.div_add_mod R0 R1
 have bx:=Qru e h.bx;have by':=Qru e h.by'
 have r1:1<=R1:= ⋯
 refine⟨h.e1,?_,λt=>?_,h.l1,Zw (Nat.mod_lt _ ⋯) (Zbi h.l1),bx,by',h.x1l,?_,h.y1l,?_⟩
 ·have e':((R0 / R1:Nat):Int)*R1+((R0 % R1:Nat):Int)=R0:=by rw[← Zaq,← ZaP,e]
  have h0:=h.e0;have h1:=h.e1;generalize ((R0 / R1:Nat):Int)=q at *;generalize ((R0 % R1:Nat):Int)=z at *
  grind
 ·rw[← h.dv t];constructor
  ·rintro⟨h1,h2⟩;exact⟨(Nat.dvd_mod_iff h1).mp h2,h1⟩
  ·rintro⟨h1,h2⟩;exact⟨h2,(Nat.dvd_mod_iff h2).mpr h1⟩
 ·have:=Nat.mul_le_mul_left (1*x0+(0-((R0 / R1:Nat):Int))*x1).natAbs r1;omega
 ·have:=Nat.mul_le_mul_left (1*y0+(0-((R0 / R1:Nat):Int))*y1).natAbs r1;omega
def Qng(d:Den):Prop:=∀a b:Nat,a<2^1999->b<2^1999->∃(g:Nat) (x y:Int),d [.int a,.int b]=some (.tup [.int g,.int x,.int y],true)/\(g:Int)=x*a+y*b/\g∣a/\g∣b/\x.natAbs<=2^1999/\y.natAbs<=2^1999
theorem Qwc(ha:Qj6 da):Qng (Qq 5 (QgZ da)):=λa b la lb=>by
 have p:(2:Nat)^2000=2*2^1999:=by rw[Zcp,Zbe]
 have key:Run (QgZ da) [slI a,slI b,none,none,none] λo=>match o with | .rt d fr=>fr=true/\∃(g:Nat) (x y:Int),d= .tup [.int g,.int x,.int y]/\(g:Int)=x*a+y*b/\g∣a/\g∣b/\x.natAbs<=2^1999/\y.natAbs<=2^1999 | _=>False:=by
  refine rsa (d:=Qb 3 (QcA a 1 0)) rfl ?_;refine rsa (d:=Qb 3 (QcA b 0 1)) rfl ?_;refine QaW (P:=λρ=>∃(g:Nat) (x y z u:Int) (b2:Bool) (j3 j4:Option (D×Bool)),Wgh a b g 0 x y z u/\ρ=[slI a,slI b,some (Qb 3 (QcA g x y),b2),j3,j4]) ?_ ?_
  ·refine Qfe (λn ρ=>∃(R0 R1:Nat) (x0 y0 x1 y1:Int) (b2 b3:Bool) (j4:Option (D×Bool)),R1=n/\Wgh a b R0 R1 x0 y0 x1 y1/\ρ=[slI a,slI b,some (Qb 3 (QcA R0 x0 y0),b2),some (Qb 3 (QcA R1 x1 y1),b3),j4]) ?_ b _ ⟨a,b,1,0,0,1,true,true,none,rfl,⟨⋯,⋯,λt=>Iff.rfl,⋯,⋯,by simp,by simp,by simp,by simp,by simp,by simp⟩,rfl⟩;rintro n ρ ⟨R0,R1,x0,y0,x1,y1,b2,b3,j4,rfl,W,rfl⟩;obtain⟨r2,v2,d2⟩:∃r:HS.R,Qh 2 [slI a,slI b,some (Qb 3 (QcA R0 x0 y0),b2),some (Qb 3 (QcA R1 x1 y1),b3),j4]=some r/\r.d=Qb 3 (QcA R0 x0 y0):=by cases b2<;>exact⟨_,rfl,rfl⟩
   obtain⟨r3,v3,d3⟩:∃r:HS.R,Qh 3 [slI a,slI b,some (Qb 3 (QcA R0 x0 y0),b2),some (Qb 3 (QcA R1 x1 y1),b3),j4]=some r/\r.d=Qb 3 (QcA R1 x1 y1):=by cases b3<;>exact⟨_,rfl,rfl⟩
   refine⟨!decide ((R1:Int)=0),Qw (Qb4 (Qae v3 d3 rfl rfl (by decide)) rfl rfl rfl) rfl,λh=>?_,λh=>?_⟩
   ·have hr:R1=0:=by
     have:(R1:Int)=0:=by simpa using h
     omega
    subst hr;exact⟨R0,x0,y0,x1,y1,b2,_,_,W,rfl⟩
   ·have hr:R1≠0:=by
     have:¬(R1:Int)=0:=by simpa using h
     omega
    have hq:(R0 / R1)<2^2000:=ZO (Nat.div_le_self R0 R1) W.l0;have x0l:=W.x0l;have x1l:=W.x1l;have y0l:=W.y0l;have y1l:=W.y1l;have W':=W.step hr;have er:(Qb 3 λi=>1*QcA R0 x0 y0 i+(0-((R0 / R1:Nat):Int))*QcA R1 x1 y1 i)=Qb 3 (QcA ((R0 % R1:Nat):Int) (1*x0+(0-((R0 / R1:Nat):Int))*x1) (1*y0+(0-((R0 / R1:Nat):Int))*y1)):=Qcr λi hi=>by
     match i,hi with
     | 0,_=>
      show 1*(R0:Int)+(0-((R0 / R1:Nat):Int))*R1=((R0 % R1:Nat):Int);have e:R0 / R1*R1+R0 % R1=R0:=by rw[Zbe];exact Nat.div_add_mod R0 R1
      have e':((R0 / R1:Nat):Int)*R1+((R0 % R1:Nat):Int)=R0:=by rw[← Zaq,← ZaP,e]
      generalize ((R0 / R1:Nat):Int)=q at *;generalize ((R0 % R1:Nat):Int)=z at *
      grind
     | 1,_=>rfl
     | 2,_=>rfl
    have ec:=ha 3 1 (0-((R0 / R1:Nat):Int)) (QcA R0 x0 y0) (QcA R1 x1 y1) (Qa6 (by decide)) (Qa6 (by rw[ZY,Int.natAbs_neg,Int.natAbs_natCast];exact hq)) λi _=>⟨QnN (by have:=W.l0;omega) ⋯ ⋯ i,QnN (by have:=W.l1;omega) ⋯ ⋯ i⟩;rw[er]at ec;refine rsa (Qk (r:=⟨[.int 1,Qb 3 (QcA R0 x0 y0),.int (0-((R0 / R1:Nat):Int)),Qb 3 (QcA R1 x1 y1)],_,_⟩) ((Qr rfl (Qr v2 (Qr (Qdf (b:=((R0 / R1:Nat):Int)) rfl rfl (Qna (b:=R1) (Qae v2 d2 rfl rfl (by decide)) rfl (Qae v3 d3 rfl rfl (by decide)) rfl ⋯ (by have:=W.l1;omega)) rfl) (Qr v3 (QK _))))).trans (by rw[d2,d3])) ec rfl) ?_;generalize hnf:QcA ((R0 % R1:Nat):Int) (1*x0+(0-((R0 / R1:Nat):Int))*x1) (1*y0+(0-((R0 / R1:Nat):Int))*y1)=nf at ec er ⊢;cases b3
    ·refine run_seq (Qz (QaV rfl) ?_);refine run_seq (Qz (QaV rfl) (Qt ?_));refine⟨R0 % R1,Nat.mod_lt _ ⋯,R1,R0 % R1,x1,y1,_,_,false,false,slF (Qb 3 nf),rfl,W',?_⟩;rw[hnf];rfl
    ·refine run_seq (Qz (QaV rfl) ?_);refine run_seq (Qz (QaV rfl) (Qt ?_));refine⟨R0 % R1,Nat.mod_lt _ ⋯,R1,R0 % R1,x1,y1,_,_,false,false,slF (Qb 3 nf),rfl,W',?_⟩;rw[hnf];rfl
  ·rintro ρ ⟨g,x,y,z,u,b2,j3,j4,W,rfl⟩;have hd:=(W.dv g).mp ⟨Nat.dvd_refl g,Nat.dvd_zero g⟩;have x0l:=W.x0l;have y0l:=W.y0l;refine Qx (Qb0 (by cases b2<;>rfl) ⟨rfl,g,x,y,rfl,W.e0,hd.1,hd.2,⋯,⋯⟩)
 obtain⟨o,h1,h2⟩:=key;cases o with
 | rt d fr=>
  obtain⟨rfl,g,x,y,rfl,h⟩:=h2;exact⟨g,x,y,by show Option.bind (QgZ da [slI a,slI b,none,none,none]) outD=_;rw[h1];rfl,h⟩
 | _=>exact h2.elim
noncomputable def Qhh(T:Mt2)(l a:Nat)(p q r s:Int):Nat->Nat->Int:=Qdj T l (λj=>p*T l j+q*T a j) a λj=>r*T l j+s*T a j
noncomputable def QeJ(B:Mt2)(l a:Nat)(p q r s:Int):Nat->Nat->Int:=λi j=>if j=a then(0-q)*B i l+p*B i a else if j=l then s*B i l+(0-r)*B i a else B i j
theorem QjP(j:Nat):Qhh T l a p q r s a j=r*T l j+s*T a j:=by unfold Qhh Qdj;rw[if_pos rfl]
theorem Qjn(h:l≠a)(j:Nat):Qhh T l a p q r s l j=p*T l j+q*T a j:=by unfold Qhh Qdj;rw[if_neg h,if_pos rfl]
theorem Qf6(h1:i≠a)(h2:i≠l)(j:Nat):Qhh T l a p q r s i j=T i j:=by unfold Qhh Qdj;rw[if_neg h1,if_neg h2]
theorem QpW(i:Nat):QeJ B l a p q r s i a=(0-q)*B i l+p*B i a:=by unfold QeJ;rw[if_pos rfl]
theorem Qpv(h:l≠a)(i:Nat):QeJ B l a p q r s i l=s*B i l+(0-r)*B i a:=by unfold QeJ;rw[if_neg h,if_pos rfl]
theorem QlJ(h1:j≠a)(h2:j≠l)(i:Nat):QeJ B l a p q r s i j=B i j:=by unfold QeJ;rw[if_neg h1,if_neg h2]
theorem Qrt(n:Nat)(α β:Int)(f g:Mt1):(Qi n λk=>α*f k+β*g k)=α*Qi n f+β*Qi n g:=by rw[Qat,QP,QP]
theorem Qf2(n:Nat)(α β:Int)(f g h:Mt1):(Qi n λk=>(α*f k+β*g k)*h k)=α*(Qi n λk=>f k*h k)+β*Qi n λk=>g k*h k:=by
 rw[← Qrt];exact Qg λk _=>by rw[ZQ,Zq,Zq]
theorem QnU(n:Nat)(α β:Int)(f g h:Mt1):(Qi n λk=>h k*(α*f k+β*g k))=α*(Qi n λk=>h k*f k)+β*Qi n λk=>h k*g k:=by
 rw[← Qrt];exact Qg λk _=>by rw[ZaB,ZS,ZS (h k)]
theorem Qx8(hl:l<n)(ha:a<n)(hla:l≠a)(hd:p*s-q*r=1)(u1:QbC n T B)(u2:QbC n B T):
  QbC n (Qhh T l a p q r s) (QeJ B l a p q r s)/\QbC n (QeJ B l a p q r s) (Qhh T l a p q r s):=by
 constructor
 ·intro i j hi hj;have two:∀c d:Nat,c<n->d<n->(Qi n λk=>T c k*B k d)=idF c d:=λc d hc hd=>u1 c d hc hd;have right:∀c,c<n->(Qi n λk=>T c k*QeJ B l a p q r s k j)=if j=a then(0-q)*idF c l+p*idF c a else if j=l then s*idF c l+(0-r)*idF c a else idF c j:=λc hc=>by
   by_cases ja:j=a
   ·subst ja;rw[if_pos rfl,Qg λk _=>by rw[QpW],QnU,two c l hc hl,two c j hc hj]
   ·by_cases jl:j=l
    ·subst jl;rw[if_neg ja,if_pos rfl,Qg λk _=>by rw[Qpv hla],QnU,two c j hc hj,two c a hc ha]
    ·rw[if_neg ja,if_neg jl,Qg λk _=>by rw[QlJ ja jl],two c j hc hj]
  have ll:idF l l=1:=by unfold idF;rw[if_pos rfl]
  have aa:idF a a=1:=by unfold idF;rw[if_pos rfl]
  have la:idF l a=0:=by unfold idF;rw[if_neg hla]
  have al:idF a l=0:=by unfold idF;rw[if_neg (Ne.symm hla)]
  have ne:∀c d:Nat,c≠d->idF c d=0:=λc d h=>by unfold idF;rw[if_neg h]
  show(Qi n λk=>Qhh T l a p q r s i k*QeJ B l a p q r s k j)=idF i j;by_cases ia:i=a
  ·subst ia;rw[Qg λk _=>by rw[QjP],Qf2,right l hl,right i hi];by_cases ja:j=i
   ·subst ja;rw[if_pos rfl,if_pos rfl,ll,la,al,aa];grind
   ·rw[if_neg ja,if_neg ja];by_cases jl:j=l
    ·subst jl;rw[if_pos rfl,if_pos rfl,ll,la,al,aa];grind
    ·rw[if_neg jl,if_neg jl,ne l j (Ne.symm jl),ne i j (Ne.symm ja)];omega
  ·by_cases il:i=l
   ·subst il;rw[Qg λk _=>by rw[Qjn hla],Qf2,right i hi,right a ha];by_cases ja:j=a
    ·subst ja;rw[if_pos rfl,if_pos rfl,ll,la,al,aa];grind
    ·rw[if_neg ja,if_neg ja];by_cases jl:j=i
     ·subst jl;rw[if_pos rfl,if_pos rfl,ll,la,al,aa];grind
     ·rw[if_neg jl,if_neg jl,ne i j (Ne.symm jl),ne a j (Ne.symm ja)];omega
   ·rw[Qg λk _=>by rw[Qf6 ia il],right i hi,ne i l il,ne i a ia];by_cases ja:j=a
    ·subst ja;rw[if_pos rfl,ne i j ia];omega
    ·rw[if_neg ja];by_cases jl:j=l
     ·subst jl;rw[if_pos rfl,ne i j il];omega
     ·rw[if_neg jl]
 ·intro i j hi hj;rw[← u2 i j hi hj];refine Qv6 hl ha hla (λk _ k1 k2=>by rw[QlJ k2 k1,Qf6 k2 k1]) ?_;rw[Qpv hla,QpW,Qjn hla,QjP];generalize B i l=bl;generalize B i a=ba;generalize T l j=tl;generalize T a j=ta
  grind
structure Qfr (n last at':Nat) (x:Mt1) (T B:Mt2) (wh:Nat):Prop where
 u1:QbC n T B
 u2:QbC n B T
 tl:∀i j,last<i->i<n->j<n->T i j=idF i j
 tu:∀i j,i<=last->last<j->j<n->T i j=0
 bl:∀i j,i<n->last<j->j<n->B i j=idF i j
 un:∀i j,at'<=i->i<last->j<n->T i j=idF i j
 h0:∀i,i<at'->(Qi n λj=>T i j*x j)=0
 hl:(Qi n λj=>T last j*x j)=wh
 wl:wh<2^1999
 bT:∀i j,i<n->j<n->(T i j).natAbs<=2^(2000*at')
 bB:∀i j,i<n->j<n->(B i j).natAbs<=2^(2000*at')
theorem QrW{p q a b:Int}{k:Nat}(hp:p.natAbs<=2^1999)(hq:q.natAbs<=2^1999)(ha:a.natAbs<=2^(2000*k))(hb:b.natAbs<=2^(2000*k)):(p*a+q*b).natAbs<=2^(2000*(k+1)):=by
 have h1:=ZbI (p*a) (q*b);rw[Zad,Zad]at h1;have h2:=ZaU hp ha;have h3:=ZaU hq hb;have h4:(2:Nat)^(2000*(k+1))=2*(2^1999*2^(2000*k)):=by
  rw[← Nat.pow_add,← Nat.pow_succ'];congr 1;omega
 omega
theorem Qfr.skip(h:Qfr n last at' x T B wh)(hl:last<n)(ha:at'<last)(hx:x at'=0):Qfr n last (at'+1) x T B wh:=by
 have up:(2:Nat)^(2000*at')<=2^(2000*(at'+1)):=Zn (by decide) ⋯;refine⟨h.u1,h.u2,h.tl,h.tu,h.bl,λi j h1 h2=>h.un i j ⋯ h2,λi hi=>?_,h.hl,h.wl,λi j hi hj=>Zp (h.bT i j hi hj) up,λi j hi hj=>Zp (h.bB i j hi hj) up⟩;by_cases e:i=at'
 ·subst e;rw[Qbs (a:=i) ⋯ λj hj ne=>by rw[h.un i j (Zh _) ha hj];unfold idF;rw[if_neg (Ne.symm ne),ZA],hx,ZC]
 ·exact h.h0 i ⋯
theorem Qfr.step(h:Qfr n last at' x T B wh)(hl:last<n)(ha:at'<last)(g0:g≠0)(hw:wh=g*one)(hx:x at'=(g*other:Nat))(hxl:g*other<2^1999)(hg:(g:Int)=p*wh+q*x at')
  (pl:p.natAbs<=2^1999) (ql:q.natAbs<=2^1999):Qfr n last (at'+1) x (Qhh T last at' p q (0-(other:Int)) one) (QeJ B last at' p q (0-(other:Int)) one) g:=by
 have hla:last≠at':= ⋯
 have an:at'<n:= ⋯
 have g0':(g:Int)≠0:= ⋯
 have onel:one<2^1999:=by
  have:=h.wl;have:one<=g*one:=Nat.le_mul_of_pos_left one ⋯;omega
 have otherl:other<2^1999:=by
  have:other<=g*other:=Nat.le_mul_of_pos_left other ⋯;omega
 have gl:g<2^1999∨one=0:=by
  by_cases z:one=0
  ·exact .inr z
  ·have:=h.wl;have:g<=g*one:=ZbB g ⋯;exact .inl ⋯
 have hd:p*one-q*(0-(other:Int))=1:=by
  rw[hw,hx,Zaq,Zaq]at hg;have:(g:Int)*(p*one-q*(0-(other:Int)))=g*1:=by grind
  exact Zah g0' this
 have gl:g<2^1999:=by
  rcases gl with z | z
  ·exact z
  ·rw[z]at hd;have:other≠0:=λz=>by rw[z]at hd;simp at hd
   have:g<=g*other:=ZbB g ⋯;omega
 obtain⟨v1,v2⟩:=Qx8 hl an hla hd h.u1 h.u2;have tA:∀j,j<n->T at' j=idF at' j:=λj hj=>h.un at' j (Zh _) ha hj;have hA:(Qi n λj=>T at' j*x j)=x at':=by
  rw[Qbs an λj hj ne=>by rw[tA j hj];unfold idF;rw[if_neg (Ne.symm ne),ZA],tA at' an];unfold idF;rw[if_pos rfl,ZR]
 have ol:(0-(other:Int)).natAbs<=2^1999:=by rw[ZY,Int.natAbs_neg,Int.natAbs_natCast];omega
 have ol':(0-(0-(other:Int))).natAbs<=2^1999:=by rw[ZY,Int.natAbs_neg];exact ol
 have ql':(0-q).natAbs<=2^1999:=by rw[ZY,Int.natAbs_neg];exact ql
 have oneb:(one:Int).natAbs<=2^1999:=by rw[Int.natAbs_natCast];omega
 have up:(2:Nat)^(2000*at')<=2^(2000*(at'+1)):=Zn (by decide) ⋯;refine⟨v1,v2,λi j h1 h2 h3=>by rw[Qf6 ⋯ ⋯];exact h.tl i j h1 h2 h3,λi j h1 h2 h3=>?_,λi j h1 h2 h3=>by rw[QlJ ⋯ ⋯];exact h.bl i j h1 h2 h3,λi j h1 h2 h3=>by rw[Qf6 ⋯ ⋯];exact h.un i j ⋯ h2 h3,λi hi=>?_,?_,gl,λi j hi hj=>?_,λi j hi hj=>?_⟩
 ·by_cases e1:i=at'
  ·subst e1;rw[QjP,h.tu last j (Zh _) h2 h3,h.tu i j ⋯ h2 h3];omega
  ·by_cases e2:i=last
   ·subst e2;rw[Qjn hla,h.tu i j (Zh _) h2 h3,h.tu at' j ⋯ h2 h3];omega
   ·rw[Qf6 e1 e2];exact h.tu i j h1 h2 h3
 ·by_cases e1:i=at'
  ·subst e1;rw[Qg λj _=>by rw[QjP],Qf2,h.hl,hA,hw,hx,Zaq,Zaq]
   grind
  ·rw[Qg λj _=>by rw[Qf6 e1 ⋯]];exact h.h0 i ⋯
 ·rw[Qg λj _=>by rw[Qjn hla],Qf2,h.hl,hA];exact hg.symm
 ·by_cases e1:i=at'
  ·subst e1;rw[QjP];exact QrW ol oneb (h.bT last j hl hj) (h.bT i j hi hj)
  ·by_cases e2:i=last
   ·subst e2;rw[Qjn hla];exact QrW pl ql (h.bT i j hi hj) (h.bT at' j an hj)
   ·rw[Qf6 e1 e2];exact Zp (h.bT i j hi hj) up
 ·by_cases e1:j=at'
  ·subst e1;rw[QpW];exact QrW ql' pl (h.bB i last hi hl) (h.bB i j hi hj)
  ·by_cases e2:j=last
   ·subst e2;rw[Qpv hla];exact QrW oneb ol' (h.bB i j hi hj) (h.bB i at' hi an)
   ·rw[QlJ e1 e2];exact Zp (h.bB i j hi hj) up
theorem Qfr.start{n last:Nat}{x:Mt1}(hl:last<n){wh:Nat}(hw:x last=wh)(wl:wh<2^1999):Qfr n last 0 x idF idF wh:=by
 have u:QbC n idF idF:=λi j hi hj=>Qcc _ _ hi;have b1:∀i j,(idF i j).natAbs<=2^(2000*0):=λi j=>by unfold idF;split<;>decide
 refine⟨u,u,λ_ _ _ _ _=>rfl,λi j h1 h2 _=>by unfold idF;rw[if_neg ⋯],λ_ _ _ _ _=>rfl,λ_ _ _ _ _=>rfl,λi hi=> ⋯,?_,wl,λi j _ _=>b1 i j,λi j _ _=>b1 i j⟩;rw[Qbs hl λj _ ne=>by unfold idF;rw[if_neg (Ne.symm ne),ZA]];unfold idF;rw[if_pos rfl,ZR];exact hw
theorem Qfr.tell(h:Qfr n last last x T B wh):Qoz n last x T B wh:=⟨h.u1,h.u2,h.tl,h.tu,h.bl,λi hi=>by
 by_cases e:i=last
 ·rw[if_pos e,e];exact h.hl
 ·rw[if_neg e];exact h.h0 i ⋯⟩
theorem Qh7{n N i:Nat}{f:Mt2}(h:i<n):((List.range n).map λi=>Qb N (f i))[i]? =some (Qb N (f i)):=by
 rw[Zr,ZK h];rfl
theorem QxO{i k:Nat}(ht:ρ[t]? =some (slT (Qc n n T)))(hb:ρ[b]? =some (slT (Qc n n B)))(h1:t≠b)(h2:ln≠t)(h3:ln≠b)(h4:ln<ρ.length)
  (ei:fi ρ=some (reI i)) (ek:fk ρ=some (reI k)) (hi:i<n) (hk:k<n) (e1:(((ρ.set t none).set b none).set ln none).set ln (slF (.tup [Qb n (T i),Qb n (T k),Qb n (B i),Qb n (B k)]))=ρ1)
  (ei':fi ρ1=some (reI i)) (ek':fk ρ1=some (reI k)) (c1:g1 ρ1=some (reT (Qb n a1))) (c2:g2 ρ1=some (reT (Qb n a2))) (c3:g3 ρ1=some (reT (Qb n a3))) (c4:g4 ρ1=some (reT (Qb n a4)))
  (q:Q (.nx (((((ρ.set t none).set b none).set ln none).set t (slT (Qc n n (Qdj T i a1 k a2)))).set b (slT (Qc n n (Qdj B i a3 k a4)))))):Run (QjF t b ln fi fk g1 g2 g3 g4) ρ Q:=by
 refine⟨_,?_,q⟩;unfold QjF;rw[ht,hb];simp only[Qc];rw[if_pos ⟨h1,h2,h3,h4⟩,ei,Za,ek,Za];simp only[Zj,Zt];rw[QbO (show(0:Int)<=i by omega) ⋯,QbO (show(0:Int)<=k by omega) ⋯];simp only[Za,Zab];rw[Qh7 hi,Qh7 hk,Qh7 hi,Qh7 hk];simp only[Za];rw[show(Qiw t b ln ρ).set ln (Qpf (Qb n (T i)) (Qb n (T k)) (Qb n (B i)) (Qb n (B k)))=ρ1 from e1];unfold QjQ;rw[ei',Za,ek',Za,c1,Za,c2,Za,c3,Za,c4,Za];have o0:∀a:Nat->Int,Qfp (HS.R.mk (Qb n a) true [])=true:=λa=>rfl;simp only[o0,and_self,if_true];rw[QeN hi,QeN hk,QeN hi,QeN hk];rfl
noncomputable def Qdr(Qal:Den)(Qd5:Den)(QbX:Den)(Q5:Den):DS:=(Qd (Qs 2 (Qm 1 Qal [] (Qa (dBf Qaa (Qa vv0 Qe)) Qe))) (Qd (Qs 3 (Qm 1 Qal [] (Qa (dBf Qaa (Qa vv0 Qe)) Qe))) (Qd (Qs 4 (QaA (Qn vv0 vv1))) (Qd (Qa7 (QaY vv1) (.nm 5) (Qd (Qs 6 (Qm 2 Qd5 [] (Qa vv4 (Qa (Qn vv0 vv5) Qe)))) (Qd (sIf (QD (dOp gEq (Qn vv6 kk0) kk0)) (Qd Qr2 Qo) Qo) (Qd (Qs 7 (dOp Qco vv4 (Qn vv6 kk0))) (Qd (Qs 8 (dOp Qco (Qn vv0 vv5) (Qn vv6 kk0))) (Qd (QjF 2 3 9 vv1 vv5 (Qm 4 QbX [] (Qa (Qn vv6 kk1) (Qa (Qn vv9 kk0) (Qa (Qn vv6 kk2) (Qa (Qn vv9 kk1) Qe))))) (Qm 4 QbX [] (Qa (dOp QaG kk0 vv8) (Qa (Qn vv9 kk0) (Qa vv7 (Qa (Qn vv9 kk1) Qe))))) (Qm 4 QbX [] (Qa vv7 (Qa (Qn vv9 kk2) (Qa vv8 (Qa (Qn vv9 kk3) Qe))))) (Qm 4 QbX [] (Qa (dOp QaG kk0 (Qn vv6 kk2)) (Qa (Qn vv9 kk2) (Qa (Qn vv6 kk1) (Qa (Qn vv9 kk3) Qe)))))) (Qd (Qs 4 (QaA (Qn vv6 kk0))) Qo))))))) (Qd (QH (QaP (Qa vv2 (Qa (Qm 1 Q5 [] (Qa vv3 Qe)) Qe)))) Qo)))))
def QmK(d:Den):Prop:=∀(n last:Nat) (x:Mt1),last<n->n<=8->(∀i,i<n->0<=x i/\x i<2^1999)->∃(T B:Mt2) (g:Nat),d [Qb n x,.int last]=some (.tup [Qc n n T,Qc n n B],true)/\Qoz n last x T B g/\(∀i j,i<n->j<n->(T i j).natAbs<=2^16000)/\(∀i j,i<n->j<n->(B i j).natAbs<=2^16000)
theorem Qwh(hu:QhC du)(hw:Qng dw)(ha:Qj6 da)(ht:QcJ dt):QmK (Qq 10 (Qdr du dw da dt)):=λn last x hl n8 hx=>by
 obtain⟨X,hX⟩:∃X:Nat->Nat,∀i,i<n->x i=X i:=⟨λi=>(x i).toNat,λi hi=>by have:=(hx i hi).1;show x i=((x i).toNat:Int);omega⟩;have hXl:∀i,i<n->X i<2^1999:=λi hi=>by have:=(hx i hi).2;rw[hX i hi]at this;omega
 have key:Run (Qdr du dw da dt) [slF (Qb n x),slI last,none,none,none,none,none,none,none,none] λo=>match o with | .rt d fr=>fr=true/\∃(T B:Mt2) (g:Nat),d= .tup [Qc n n T,Qc n n B]/\Qoz n last x T B g/\(∀i j,i<n->j<n->(T i j).natAbs<=2^16000)/\(∀i j,i<n->j<n->(B i j).natAbs<=2^16000) | _=>False:=by
  have elen:∀ρ:En,ρ[0]? =some (slF (Qb n x))->dBf Qaa (Qa (Qh 0) Qe) ρ=some (reI n):=λρ hρ=>QcP (QbB hρ) rfl;refine rsa (Qk (Qr (elen _ rfl) (QK _)) (hu n ⋯) rfl) ?_;refine rsa (Qk (Qr (elen _ rfl) (QK _)) (hu n ⋯) rfl) ?_;refine run_seq (Qz ((QaV (Qae rfl rfl rfl rfl hl)).trans (by rw[hX last hl])) ?_);rw[Qcf rfl];have symm:(λi j=>idF j i)=idF:=by
   funext i j;unfold idF;by_cases z:i=j
   ·rw[if_pos z,if_pos z.symm]
   ·rw[if_neg z,if_neg (Ne.symm z)]
  refine Qx (Qah (List.range last) (λat' ρ=>∃(T B:Mt2) (wh:Nat) (j5 j6 j7 j8 j9:Option (D×Bool)),Qfr n last at' x T B wh/\ρ=[slF (Qb n x),slI last,slT (Qc n n T),slT (Qc n n (λi j=>B j i)),slI wh,j5,j6,j7,j8,j9]) (Qbc rfl rfl ⋯) rfl ⟨idF,idF,X last,none,none,none,none,none,Qfr.start hl (hX last hl) (hXl last hl),by rw[symm];rfl⟩ ?_ ?_)
  ·rintro k k' ρ hk ⟨T,B,wh,j5,j6,j7,j8,j9,C,rfl⟩;obtain⟨hkl,rfl⟩:=QbF hk;have kn:k<n:= ⋯
   obtain⟨g,p,q,ew,eg,g1,g2,pl,ql⟩:=hw wh (X k) C.wl (hXl k kn);refine⟨[slF (Qb n x),slI last,slT (Qc n n T),slT (Qc n n (λi j=>B j i)),slI wh,slI k,j6,j7,j8,j9],rfl,?_⟩;refine rsa (Qk (r:=⟨[.int wh,.int (X k)],true,[]⟩) (Qr (r:=reI wh) rfl (Qr ((Qae (f:=x) rfl rfl rfl rfl kn).trans (by rw[hX k kn])) (QK _))) ew rfl) ?_;change Run _ [slF (Qb n x),slI last,slT (Qc n n T),slT (Qc n n (λi j=>B j i)),slI wh,slI k,slT (.tup [.int g,.int p,.int q]),j7,j8,j9] _;refine Qx (QQ (Qw (QbA rfl rfl rfl rfl) rfl) (λh=>?_) (λh=>Qt ?_))
   ·have hg:g=0:=by
     have:(g:Int)=0:=of_decide_eq_true h;omega
    subst hg;have hxk:x k=0:=by rw[hX k kn,Nat.eq_zero_of_zero_dvd g2];rfl
    exact Qx ⟨_,rfl,T,B,wh,_,_,_,_,_,C.skip hl hkl hxk,rfl⟩
   have g0:g≠0:=λz=>by
    have:=of_decide_eq_false h;omega
   obtain⟨one,hone⟩:=g1;obtain⟨other,hother⟩:=g2;have gl:g<2^2000:=by
    have p:(2:Nat)^2000=2*2^1999:=by rw[Zcp,Zbe]
    have w1:=C.wl;have w2:=hXl k kn;by_cases z:wh=0
    ·by_cases z2:X k=0
     ·rw[z,z2]at eg;simp at eg;omega
     ·have:=Zbw ⋯ (⟨other,hother⟩:g∣X k);omega
    ·have:=Zbw ⋯ (⟨one,hone⟩:g∣wh);omega
   refine rsa (QeT rfl rfl rfl rfl ⋯ (by rw[Int.natAbs_natCast];exact gl) (by rw[hone,Zaq])) ?_;refine rsa (QeT ((Qae rfl rfl rfl rfl kn).trans (by rw[hX k kn])) rfl rfl rfl ⋯ (by rw[Int.natAbs_natCast];exact gl) (by rw[hother,Zaq])) ?_;change Run _ [slF (Qb n x),slI last,slT (Qc n n T),slT (Qc n n (λi j=>B j i)),slI wh,slI k,slT (.tup [.int g,.int p,.int q]),slI one,slI other,j9] _;have C':=C.step hl hkl g0 hone (by rw[hX k kn,hother]) (by rw[← hother];exact hXl k kn) (by rw[hX k kn];exact eg) pl ql;have b8:∀z:Int,z.natAbs<=2^(2000*k)->Qbd z:=λz hz=>Qgc (k:=16001) (by
    have:(2:Nat)^(2000*k)<2^16001:=Nat.pow_lt_pow_right (by decide) ⋯;omega) (by decide)
   have bS:∀z:Int,z.natAbs<=2^1999->Qbd z:=λz hz=>Qa6 (by
    have:(2:Nat)^1999<2^2000:=Nat.pow_lt_pow_right (by decide) (by decide);omega)
   have w1:=C.wl;have onel:(one:Int).natAbs<=2^1999:=by
    rw[Int.natAbs_natCast];have:one<=g*one:=Nat.le_mul_of_pos_left one ⋯;omega
   have otherl:(other:Int).natAbs<=2^1999:=by
    rw[Int.natAbs_natCast];have:other<=g*other:=Nat.le_mul_of_pos_left other ⋯;have:=hXl k kn;omega
   have neg:∀z:Int,z.natAbs<=2^1999->(0-z).natAbs<=2^1999:=λz hz=>by rw[ZY,Int.natAbs_neg];exact hz
   have eb:Qdj (λi j=>B j i) last (λj=>(one:Int)*B j last+(other:Int)*B j k) k (λj=>(0-q)*B j last+p*B j k)=λi j=>QeJ B last k p q (0-(other:Int)) one j i:=by
    funext i j;unfold Qdj QeJ;by_cases e1:i=k
    ·rw[if_pos e1,if_pos e1]
    ·rw[if_neg e1,if_neg e1];by_cases e2:i=last
     ·rw[if_pos e2,if_pos e2,show(0-(0-(other:Int)))=other by omega]
     ·rw[if_neg e2,if_neg e2]
   refine run_seq (QxO
    rfl rfl (by decide) (by decide) (by decide) (show 9<10 by decide) rfl rfl hl kn rfl rfl rfl
    (Qk rfl (ha n p q (T last) (T k) (bS p pl) (bS q ql) λi hi=>⟨b8 _ (C.bT last i hl hi),b8 _ (C.bT k i kn hi)⟩) rfl)
    (Qk rfl (ha n (0-other) one (T last) (T k) (bS _ (neg _ otherl)) (bS _ onel) λi hi=>⟨b8 _ (C.bT last i hl hi),b8 _ (C.bT k i kn hi)⟩) rfl)
    (Qk rfl (ha n one other (λj=>B j last) (λj=>B j k) (bS _ onel) (bS _ otherl) λi hi=>⟨b8 _ (C.bB i last hi hl),b8 _ (C.bB i k hi kn)⟩) rfl)
    (Qk rfl (ha n (0-q) p (λj=>B j last) (λj=>B j k) (bS _ (neg _ ql)) (bS p pl) λi hi=>⟨b8 _ (C.bB i last hi hl),b8 _ (C.bB i k hi kn)⟩) rfl) ?_)
   rw[eb];refine run_seq (Qz rfl (Qt ?_));rw[Qcf rfl];exact⟨_,_,g,_,_,_,_,_,C',rfl⟩
  ·rintro ρ ⟨T,B,wh,j5,j6,j7,j8,j9,C,rfl⟩;rw[Zt]at C;have bound:(2:Nat)^(2000*last)<=2^16000:=Zn (by decide) ⋯;refine Qv (r:=⟨.tup [Qc n n T,Qc n n B],true,[2]⟩) ?_ ⟨rfl,T,B,wh,rfl,C.tell,λi j hi hj=>Zp (C.bT i j hi hj) bound,λi j hi hj=>Zp (C.bB i j hi hj) bound⟩;have ec:Qm 1 dt [] (Qa (Qh 3) Qe) [slF (Qb n x),slI last,slT (Qc n n T),slT (Qc n n λi j=>B j i),slI wh,j5,j6,j7,j8,j9]=some (reT (Qc n n B)):=Qk rfl (ht n _ ⋯) rfl;unfold QaP;rw[Qr rfl (Qr ec (QK _))];rfl
 obtain⟨o,h1,h2⟩:=key;cases o with
 | rt d fr=>
  obtain⟨rfl,T,B,g,rfl,h⟩:=h2;exact⟨T,B,g,by show Option.bind (Qdr du dw da dt [slF (Qb n x),slI last,none,none,none,none,none,none,none,none]) outD=_;rw[h1];rfl,h⟩
 | _=>exact h2.elim
noncomputable def QkB(Qcg:Den):DS:=(Qd (QH (Qm 1 Qcg [] (Qa (QS (QG (Q2 vv0) (.nm 1) [none,none] QO (Qm 1 Qcg [] (Qa vv1 Qe))) (Qao (Qa vv1 Qe))) Qe))) Qo)
def QjY(d:Den):Prop:=∀(k n:Nat) (f:Mt2) (L:Int),k<=100->∃g:Int,d [Qc k n f,.int L]=some (.int g,true)/\0<=g/\∀t,t∣g↔((∀i j,i<k->j<n->t∣f i j)/\t∣L)
theorem Qw0(hc:Qic dc):QjY (Qq 2 (QkB dc)):=λk n f L hk=>by
 obtain⟨gi,hgi⟩:=Zck λi:Nat=>hc ((List.range n).map (f i));have hrow:∀i t,t∣gi i↔∀j,j<n->t∣f i j:=λi t=>by
  rw[(hgi i).2.2 t];exact⟨λh j hj=>h _ (ZN.mpr ⟨j,Ze.mpr hj,rfl⟩),λh x hx=>by obtain⟨j,hj,rfl⟩:=ZN.mp hx;exact h j (Ze.mp hj)⟩
 obtain⟨g,eg,g0,hg⟩:=hc ((List.range (k+1)).map (up gi k L));rw[← Qgk]at eg;refine⟨g,QN (Qv (Qk (Qr (Qlp (QB (List.range k) (Q1 rfl rfl) rfl λi _=>⟨[none,slF (Qb n (f i))],rfl,reI (gi i),Qk rfl (by rw[Qgk];exact(hgi i).1) rfl,rfl,rfl⟩) rfl rfl ⋯) (QK _)) eg rfl) ⟨rfl,rfl⟩),g0,λt=>?_⟩;rw[hg t];constructor
 ·intro h;refine⟨λi j hi hj=>(hrow i t).mp (h _ (ZN.mpr ⟨i,Ze.mpr ⋯,by rw[Qda,if_neg ⋯]⟩)) j hj,h _ (ZN.mpr ⟨k,Ze.mpr ⋯,by rw[Qda,if_pos rfl]⟩)⟩
 ·rintro⟨h1,h2⟩ x hx;obtain⟨i,hi,rfl⟩:=ZN.mp hx;have hi:=Ze.mp hi;rw[Qda];by_cases e:i=k
  ·rw[if_pos e];exact h2
  ·rw[if_neg e];exact(hrow i t).mpr λj hj=>h1 i j ⋯ hj
noncomputable def Qpl:DS:=(Qd (QH (QG (Q2 vv0) (.nm 1) [none,none,some 1] QO (dOp Qa0 vv1 vv2))) Qo)
def QiE(d:Den):Prop:=∀(n:Nat) (a:Mt1) (L:Int),0<L->d [Qb n a,.int L]=some (Qb n λi=>a i % L,true)
theorem Quc:QiE (Qq 2 Qpl):=λn a L hL=>
 QN (Qv (QB (List.range n) (Q1 rfl rfl) rfl λi _=>⟨[none,slI (a i),slI L],rfl,reI (a i % L),QaZ rfl rfl rfl rfl hL,rfl,rfl⟩) ⟨rfl,rfl⟩)
noncomputable def QpP:DS:=(Qd (QH (QG (Q2 vv0) (.nm 1) [none,none,some 1] QO (dOp Qco vv1 vv2))) Qo)
def QhZ(d:Den):Prop:=∀(n:Nat) (a q:Mt1) (b:Int),b≠0->b.natAbs<2^2000->(∀i,i<n->a i=b*q i)->d [Qb n a,.int b]=some (Qb n q,true)
theorem QtM:QhZ (Qq 2 QpP):=λn a q b b0 bl h=>
 QN (Qv (QB (List.range n) (Q1 rfl rfl) rfl λi hi=>⟨[none,slI (a i),slI b],rfl,reI (q i),QeT rfl rfl rfl rfl b0 bl (h i (Ze.mp hi)),rfl,rfl⟩) ⟨rfl,rfl⟩)
noncomputable def Qkt:DS:=(Qd (QH (QG (Q2 vv0) (.nm 1) [none,none,some 1] QO (Q7 vv2 vv1))) Qo)
def Qm8(d:Den):Prop:=∀(n:Nat) (a:Mt1) (c:Int),Qbd c->(∀i,i<n->Qbd (a i))->d [Qb n a,.int c]=some (Qb n λi=>c*a i,true)
theorem Qvv:Qm8 (Qq 2 Qkt):=λn a c hc ha=>
 QN (Qv (QB (List.range n) (Q1 rfl rfl) rfl λi hi=>⟨[none,slI (a i),slI c],rfl,reI (c*a i),Qan rfl rfl rfl rfl (QcO hc (ha i (Ze.mp hi))),rfl,rfl⟩) ⟨rfl,rfl⟩)
noncomputable def pairF(u v:Mt1):Nat->Nat->Int
 | 0=>u
 | _=>v
noncomputable def QjW(Qbb:Den)(QcD:Den):DS:=(Qd (Qs 3 (Qm 2 Qbb [] (Qa (Qao (Qa vv0 (Qa vv1 Qe))) (Qa vv2 Qe)))) (Qd (Qs 4 (QaA vv0)) (Qd (Qca (QD (dOp gNe (Qm 2 Qbb [] (Qa (Qao (Qa vv4 Qe)) (Qa vv2 Qe))) vv3)) (Qd (Qs 4 (Qm 2 QcD [] (Qa (QG (Qak vv4 vv1) (.tp [1,2]) [none,none,none] QO (QS vv1 vv2)) (Qa vv2 Qe)))) Qo)) (Qd (QH vv4) Qo))))
def Qnf(d:Den):Prop:=∀(n:Nat) (u v:Mt1) (L:Int),0<L->(∀i,i<n->0<=u i/\u i<L)->∃(x:Mt1) (fr:Bool) (k:Nat),d [Qb n u,Qb n v,.int L]=some (Qb n x,fr)/\(∀i,i<n->0<=x i/\x i<L)/\(∀i,i<n->L∣x i-(u i+k*v i))/\∀t,t∣L->(∀i,i<n->t∣x i)->(∀i,i<n->t∣u i)/\∀i,i<n->t∣v i
theorem Qv2(hi:QjY di)(hw:QiE dw):Qnf (Qq 5 (QjW di dw)):=λn u v L hL hu=>by
 obtain⟨w,ew,w0,hwd⟩:=hi 2 n (pairF u v) L (by decide);have hwd:∀t,t∣w↔((∀i,i<n->t∣u i)/\(∀i,i<n->t∣v i)/\t∣L):=λt=>by
  rw[hwd t];constructor
  ·rintro⟨h1,h2⟩;exact⟨λi hi=>h1 0 i (by decide) hi,λi hi=>h1 1 i (by decide) hi,h2⟩
  ·rintro⟨h1,h2,h3⟩;refine⟨λi j hi hj=>?_,h3⟩
   match i,hi with
   | 0,_=>exact h1 j hj
   | 1,_=>exact h2 j hj
 obtain⟨Ln,hLn⟩:∃Ln:Nat,L=Ln:=⟨L.toNat,⋯⟩;obtain⟨T,hT⟩:=QAS u v (L:=Ln) ⋯;have hT:∀t:Int,t∣L->(∀i,i<n->t∣u i+T*v i)->(∀i,i<n->t∣u i)/\∀i,i<n->t∣v i:=λt h1 h2=>by
  have:=hT t.natAbs (by rw[hLn]at h1;have:=Zal.mpr h1;rwa[Int.natAbs_natCast]at this) λi hi=>Int.natAbs_dvd.mpr (h2 i hi);exact⟨λi hi=>Int.natAbs_dvd.mp (this.1 i hi),λi hi=>Int.natAbs_dvd.mp (this.2 i hi)⟩
 have key:Run (QjW di dw) [slF (Qb n u),slF (Qb n v),slI L,none,none] λo=>match o with | .rt d fr=>∃(x:Mt1) (k:Nat),d=Qb n x/\(∀i,i<n->0<=x i/\x i<L)/\(∀i,i<n->L∣x i-(u i+k*v i))/\∀t,t∣L->(∀i,i<n->t∣x i)->(∀i,i<n->t∣u i)/\∀i,i<n->t∣v i | _=>False:=by
  refine rsa (Qk rfl ew rfl) ?_;refine run_seq (Qz (QaV rfl) ?_);refine QaW (P:=λρ=>∃(x:Mt1) (k:Nat) (b4:Bool),(∀i,i<n->0<=x i/\x i<L)/\(∀i,i<n->L∣x i-(u i+k*v i))/\(∀t,t∣L->(∀i,i<n->t∣x i)->(∀i,i<n->t∣u i)/\∀i,i<n->t∣v i)/\ρ=[slF (Qb n u),slF (Qb n v),slI L,slI w,some (Qb n x,b4)]) ?_ ?_
  ·refine Qfe (λm ρ=>∃(x:Mt1) (k:Nat) (b4:Bool),k+m=T/\(∀i,i<n->0<=x i/\x i<L)/\(∀i,i<n->L∣x i-(u i+k*v i))/\ρ=[slF (Qb n u),slF (Qb n v),slI L,slI w,some (Qb n x,b4)]) ?_ T _ ⟨u,0,false,⋯,hu,λi hi=>by simp,rfl⟩;rintro m ρ ⟨x,k,b4,hk,hx,hd,rfl⟩;obtain⟨g,eg,g0,hg⟩:=hi 1 n (pairF x x) L (by decide);have hg:∀t,t∣g↔((∀i,i<n->t∣x i)/\t∣L):=λt=>by
    rw[hg t];refine⟨λh=>⟨λi hi=>h.1 0 i (by decide) hi,h.2⟩,λh=>⟨λi j hi hj=>?_,h.2⟩⟩
    match i,hi with
    | 0,_=>exact h.1 j hj
   have back:∀t,t∣L->((∀i,i<n->t∣x i)↔∀i,i<n->t∣u i+k*v i):=λt ht=>by
    constructor
    ·intro h i hi;have:=ZbA (h i hi) (Int.dvd_trans ht (hd i hi));rwa[Int.sub_sub_self]at this
    ·intro h i hi;have:=ZaQ (Int.dvd_trans ht (hd i hi)) (h i hi);rwa[ZaV]at this
   obtain⟨r4,v4,d4⟩:∃r:HS.R,Qh 4 [slF (Qb n u),slF (Qb n v),slI L,slI w,some (Qb n x,b4)]=some r/\r.d=Qb n x:=by cases b4<;>exact⟨_,rfl,rfl⟩
   have ecall:Qm 2 di [] (Qa (Qao (Qa (Qh 4) Qe)) (Qa (Qh 2) Qe)) [slF (Qb n u),slF (Qb n v),slI L,slI w,some (Qb n x,b4)]=some (reI g):=Qk (r:=⟨[Qc 1 n (pairF x x),.int L],r4.fr && true && (true && true),r4.M++[]++([]++[])⟩) ((Qr (Qtc (Qr v4 (QK _)) (show 1<=64 by decide)) (Qr rfl (QK _))).trans (by rw[d4];rfl)) eg rfl;refine⟨!decide (g=w),Qw (Qb4 ecall rfl rfl rfl) rfl,λh=>?_,λh=>?_⟩
   ·have e:g=w:=by simpa using h
    refine⟨x,k,b4,hx,hd,λt h1 h2=>?_,rfl⟩;have:=(hg t).mpr ⟨h2,h1⟩;rw[e,hwd t]at this;exact⟨this.1,this.2.1⟩
   ·have e:g≠w:=by simpa using h
    have hkT:k≠T:=λz=>e (Int.dvd_antisymm g0 w0 ((hwd g).mpr (by
     have h1:=(hg g).mp (Int.dvd_refl g);have h2:=(back g h1.2).mp h1.1;rw[z]at h2;have h3:=hT g h1.2 h2;exact⟨h3.1,h3.2,h1.2⟩)) ((hg w).mpr (by
     have h1:=(hwd w).mp (Int.dvd_refl w);exact⟨(back w h1.2.2).mpr λi hi=>ZaQ (h1.1 i hi) (Int.dvd_mul_of_dvd_right (h1.2.1 i hi)),h1.2.2⟩)))
    refine run_seq (Qz (Qk (Qr (QB (List.range n) (Qac v4 d4 rfl rfl) rfl λi hi=>⟨[none,slI (x i),slI (v i)],rfl,reI (x i+v i),rfl,rfl,rfl⟩) (Qr rfl (QK _))) (hw n _ L hL) rfl) (Qt ?_));rw[QaJ];refine⟨m-1,⋯,λi=>(x i+v i) % L,k+1,true,⋯,λi hi=>⟨ZI _ ⋯,ZG _ hL⟩,λi hi=>?_,rfl⟩;have h1:=hd i hi;have h2:L∣(x i+v i)-(x i+v i) % L:=Int.dvd_self_sub_emod;have:=ZbA h1 h2;rwa[show x i-(u i+(k:Int)*v i)-(x i+v i-(x i+v i) % L)=(x i+v i) % L-(u i+((k+1:Nat):Int)*v i) by rw[ZaP,ZQ];omega]at this
  ·rintro ρ ⟨x,k,b4,hx,hd,hc,rfl⟩;cases b4
   ·exact Qx (Qb0 rfl ⟨x,k,rfl,hx,hd,hc⟩)
   ·exact Qx (Qb0 rfl ⟨x,k,rfl,hx,hd,hc⟩)
 obtain⟨o,h1,h2⟩:=key;cases o with
 | rt d fr=>
  obtain⟨x,k,rfl,h⟩:=h2;exact⟨x,fr,k,by show Option.bind (QjW di dw [slF (Qb n u),slF (Qb n v),slI L,none,none]) outD=_;rw[h1];rfl,h⟩
 | _=>exact h2.elim
noncomputable def QdS(Qbw:Den)(QfT:Den):DS:=(Qd (Qs 2 (Qm 2 Qbw [] (Qa vv0 (Qa kk0 Qe)))) (Qd (Qa7 (QeU kk1 (dBf Qaa (Qa vv0 Qe))) (.nm 3) (Qd (Qs 2 (Qm 3 QfT [] (Qa vv2 (Qa (Qm 2 Qbw [] (Qa vv0 (Qa vv3 Qe))) (Qa vv1 Qe))))) Qo)) (Qd (QH vv2) Qo)))
structure Qso (n m:Nat) (f:Mt2) (L:Int) (x cc:Mt1):Prop where
 bd:∀i,i<n->0<=x i/\x i<L
 mix:∀i,i<n->L∣x i-Qi n λj=>cc j*f i j
 cop:∀t,t∣L->(∀i,i<n->t∣x i)->∀i j,i<n->j<m->t∣f i j
def QoW(d:Den):Prop:=∀(n:Nat) (f:Mt2) (L:Int),0<n->n<=8->0<L->(∀i j,i<n->j<n->0<=f i j/\f i j<L)->∃(x cc:Mt1) (fr:Bool),d [Qc n n f,.int L]=some (Qb n x,fr)/\Qso n n f L x cc
theorem QxM(hl:QgG dl)(hm:Qnf dm):QoW (Qq 4 (QdS dl dm)):=λn f L n0 n8 hL hf=>by
 have key:Run (QdS dl dm) [slF (Qc n n f),slI L,none,none] λo=>match o with | .rt d fr=>∃(x cc:Mt1),d=Qb n x/\Qso n n f L x cc | _=>False:=by
  refine rsa (Qk rfl (hl n n f 0 n0) rfl) ?_;refine Qx (Qah (List.range (n-1)) (λk ρ=>∃(x cc:Mt1) (b2:Bool) (j3:Option (D×Bool)),Qso n (k+1) f L x cc/\ρ=[slF (Qc n n f),slI L,some (Qb n x,b2),j3]) (QnT rfl rfl (Qd3 rfl rfl) rfl ⋯ ⋯ (by decide) (by decide)) rfl ⟨λi=>f i 0,λj=>if j=0 then 1 else 0,true,none,⟨λi hi=>hf i 0 hi n0,λi hi=>?_,λt h1 h2 i j hi hj=>?_⟩,rfl⟩ ?_ ?_)
  ·rw[QaF n0,ZR,ZbH];exact Int.dvd_zero _
  ·rw[show j=0 by omega];exact h2 i hi
  ·rintro k k' ρ hk ⟨x,cc,b2,j3,I,rfl⟩;obtain⟨hkn,rfl⟩:=QbF hk;refine⟨[slF (Qc n n f),slI L,some (Qb n x,b2),slI ((1:Int)+k)],rfl,?_⟩;obtain⟨y,fr,K,em,y1,y2,y3⟩:=hm n x (λi=>f i (k+1)) L hL I.bd;have eK:(1:Int)+k=((k+1:Nat):Int):= ⋯
   obtain⟨r2,v2,d2⟩:∃r:HS.R,Qh 2 [slF (Qc n n f),slI L,some (Qb n x,b2),slI ((1:Int)+k)]=some r/\r.d=Qb n x:=by cases b2<;>exact⟨_,rfl,rfl⟩
   have ecol:Qm 2 dl [] (Qa (Qh 0) (Qa (Qh 3) Qe)) [slF (Qc n n f),slI L,some (Qb n x,b2),slI ((1:Int)+k)]=some (reT (Qb n λi=>f i (k+1))):=Qk (r:=⟨[Qc n n f,.int ((k+1:Nat):Int)],false,[]⟩) (by rw[← eK];rfl) (hl n n f (k+1) ⋯) rfl;have ecl:=Qia (fs:=Qa (Qh 2) (Qa (Qm 2 dl [] (Qa (Qh 0) (Qa (Qh 3) Qe))) (Qa (Qh 1) Qe))) (r:=⟨[Qb n x,Qb n λi=>f i (k+1),.int L],r2.fr && (true && (true && true)),r2.M++([]++([]++[]))⟩) ((Qr v2 (Qr ecol (Qr rfl (QK _)))).trans (by rw[d2])) em rfl;refine run_seq (Qz ecl (Qt ?_));refine⟨y,λj=>cc j+(if j=k+1 then(K:Int)else 0),fr,slI ((1:Int)+k),⟨y1,λi hi=>?_,λt h1 h2 i j hi hj=>?_⟩,?_⟩
   ·have h1:=y2 i hi;have h2:=I.mix i hi;have:=ZaQ h1 h2;rw[Qg λj _=>ZQ _ _ _,Qat,QaF ⋯];rwa[show y i-(x i+(K:Int)*f i (k+1))+(x i-Qi n λj=>cc j*f i j)=y i-((Qi n λj=>cc j*f i j)+(K:Int)*f i (k+1)) by omega]at this
   ·obtain⟨h3,h4⟩:=y3 t h1 h2;by_cases e:j=k+1
    ·rw[e];exact h4 i hi
    ·exact I.cop t h1 h3 i j hi ⋯
   ·cases fr
    ·cases b2
     ·have:r2=(reF (Qb n x)):=by injection v2 with z;exact z.symm
      rw[this];rfl
     ·have:r2=⟨Qb n x,true,[2]⟩:=by injection v2 with z;exact z.symm
      rw[this];rfl
    ·rfl
  ·rintro ρ ⟨x,cc,b2,j3,I,rfl⟩;rw[Zt,show n-1+1=n by omega]at I;cases b2
   ·exact Qx (Qb0 rfl ⟨x,cc,rfl,I⟩)
   ·exact Qx (Qb0 rfl ⟨x,cc,rfl,I⟩)
 obtain⟨o,h1,h2⟩:=key;cases o with
 | rt d fr=>
  obtain⟨x,cc,rfl,h⟩:=h2;exact⟨x,cc,fr,by show Option.bind (QdS dl dm [slF (Qc n n f),slI L,none,none]) outD=_;rw[h1];rfl,h⟩
 | _=>exact h2.elim
theorem Qqd(ha:fa ρ=some ra)(ea:ra.d=Qc n m f):Qct fa ρ=some ⟨(List.range n).map λ(i:Nat)=> .tup [.int i,Qb m (f i)],ra.M⟩:=by
 unfold Qct;rw[ha,Za,ea];have:QdA ((List.range n).map λi=>Qb m (f i))=(List.range n).map λ(i:Nat)=>D.tup [.int i,Qb m (f i)]:=by
  unfold QdA;refine List.ext_getElem (by simp) λi h1 h2=>?_;simp
 show some (IR.mk (QdA ((List.range n).map λi=>Qb m (f i))) ra.M)=_;rw[this]
theorem Qvh{k:Nat}(hx:ρ[x]? =some (slT (Qc n N g)))(hi:fi ρ=some (reI k))(ha:fa ρ=some (reT (Qb N p)))(hk:k<n)
  (q:Q (.nx (ρ.set x (slT (Qc n N (λi j=>if i=k then p j else g i j)))))):Run (QbW x Qaf fi fa) ρ Q:=by
 refine⟨_,?_,q⟩;unfold QbW;rw[ha,Za,hx];have hn:(HS.R.mk (Qb N p) true []).norm=(reT (Qb N p)):=by unfold R.norm Qb;rfl
 simp only[Qaf,Za,hi,Qc,Qbf,Zj,Zt,hn];rw[QbO (show(0:Int)<=k by omega) ⋯];simp only[Za,Zab];rw[QeN hk];simp[kill,Qbi]
theorem QAb(hn:n<=8):bnd (2^240) n<2^1999:=by
 have h:∀k,k<9->bnd (2^240) k<2^1999:=by decide+kernel
 exact h n ⋯
theorem QbE.Qyj{n N k:Nat}{A m R:Mt2}{d:Int}(h:QbE n N k A m R d)(hn:n<=8)(hA:∀j,j<N->∀r,r<n->(A j r).natAbs<=2^240):d.natAbs<2^1999/\∀i j,i<n->j<N->(R i j).natAbs<2^1999:=by
 have b:=QAb hn;refine⟨?_,λi j hi hj=>?_⟩
 ·rw[← h.clr.det];exact ZO (Qd4 h.col) b
 ·rw[h.clr.ent i j hi hj];exact ZO (Qd4 (h.col.put (hA j hj))) b
noncomputable def QiR(Qa3:Den)(Qax:Den):DS:=(Qd (Qs 1 (dBf Qaa (Qa vv0 Qe))) (Qd (Qs 2 (Qm 1 Qax [] (Qa (QG (Qct vv0) (.tp [1,2]) [none,none,none,some 1] QO (QS vv2 (Qm 2 Qa3 [] (Qa vv3 (Qa vv1 Qe))))) Qe))) (Qd (QH (QaP (Qa (QG (Q2 (Qn vv2 kk0)) (.nm 1) [none,none,some 1] QO (QbJ vv1 (QaI vv2) QbV)) (Qa (Qn vv2 kk1) Qe)))) Qo)))
def QmV(d:Den):Prop:=∀(n:Nat) (f:Mt2),n<=8->(∀i j,i<n->j<n->(f i j).natAbs<=2^240)->(det n λj i=>f i j)≠0->∃P:Nat->Nat->Int,d [Qc n n f]=some (.tup [Qc n n P,.int (det n λj i=>f i j)],true)/\(∀i j,i<n->j<n->prodF n f P i j=(det n λj i=>f i j)*idF i j)/\(∀i j,i<n->j<n->(P i j).natAbs<2^1999)/\(det n λj i=>f i j).natAbs<2^1999
theorem QwE(hu:Qjr du)(hc:Qho dc):QmV (Qq 3 (QiR du dc)):=λn f n8 hf hd=>by
 obtain⟨A,hA⟩:∃A:Nat->Nat->Int,A=λj r=>if j<n then f r j else if j-n=r then 1 else 0:=⟨_,rfl⟩;have aLow:∀j r,j<n->A j r=f r j:=λj r hj=>by rw[hA];show(if j<n then _ else _)=_;rw[if_pos hj]
 have aUp:∀c r,A (n+c) r=idF c r:=λc r=>by rw[hA];show(if n+c<n then _ else if n+c-n=r then 1 else 0)=_;rw[if_neg ⋯,show n+c-n=c by omega];rfl
 have bA:∀j,j<n+n->∀r,r<n->(A j r).natAbs<=2^240:=λj hj r hr=>by
  by_cases z:j<n
  ·rw[aLow j r z];exact hf r j hr z
  ·rw[show j=n+(j-n) by omega,aUp];unfold idF;split<;>decide
 have dA:det n A=det n λj i=>f i j:=QW λj hj r _=>aLow j r hj;obtain⟨m,R,b,ec,C⟩:=hc n (n+n) A n8 ⋯ bA (by rw[dA];exact hd);obtain⟨sb,sR⟩:=C.Qyj n8 bA;have hb:b=det n λj i=>f i j:=by rw[← dA];exact C.clr.all
 subst hb;refine⟨λi j=>R i (n+j),QN ?_,λi j hi hj=>?_,λi j hi hj=>sR i (n+j) hi ⋯,sb⟩
 ·refine rsa (Qd3 rfl rfl) ?_;have et:Qc n (n+n) (λi j=>A j i)= .lst ((List.range n).map λi=>Qb (n+n) λj=>if j<n then f i j else(λk=>if k=i then 1 else 0) (j-n)):=by
   unfold Qc;refine congrArg D.lst (ZF λi _=>Qcr λj _=>?_);rw[hA]
  refine run_seq (Qz ((Qbh (Qr (r:=reT (Qc n (n+n) λi j=>A j i)) ?_ (QK _)) ec rfl).trans rfl) ?_)
  ·rw[et];exact QB (List.range n) (Qqd rfl rfl) rfl λi _=>⟨[none,slI i,slF (Qb n (f i)),slI n],rfl,reT (Qb (n+n) λj=>if j<n then f i j else(λk=>if k=i then 1 else 0) (j-n)),QkS (g:=λk=>if k=i then 1 else 0) rfl rfl (Qk rfl (hu n i ⋯) rfl) rfl ⋯,rfl,rfl⟩
  ·refine Qv (r:=reT (.tup [Qc n n λi j=>R i (n+j),.int (det n λj i=>f i j)])) ?_ ⟨rfl,rfl⟩
   have e1:QG (Q2 (Qn (Qh 2) (dC (.int 0)))) (.nm 1) [none,none,some 1] QO (QbJ (Qh 1) (QaI (Qh 2)) QbV) [slF (Qc n n f),slI n,slF (.tup [Qc n (n+n) R,.int (det n λj i=>f i j)])]=some (reT (Qc n n λi j=>R i (n+j))):=
    QB (List.range n) (Q1 rfl rfl) rfl λi _=>⟨[none,slF (Qb (n+n) (R i)),slI n],rfl,reT (Qb n λj=>R i (n+j)),(QwR rfl rfl rfl rfl ⋯).trans (by rw[show n+n-n=n by omega]),rfl,rfl⟩
   change QaP (Qa (QG (Q2 (Qn (Qh 2) (dC (.int 0)))) (.nm 1) [none,none,some 1] QO (QbJ (Qh 1) (QaI (Qh 2)) QbV)) (Qa (Qn (Qh 2) (dC (.int 1))) Qe)) [slF (Qc n n f),slI n,slF (.tup [Qc n (n+n) R,.int (det n λj i=>f i j)])]=_;unfold QaP;rw[Qr e1 (Qr rfl (QK _))];rfl
 ·have t:=C.clr.tell (j:=n+j) ⋯ hi;rw[aUp]at t;have e:idF j i=idF i j:=by
   unfold idF;by_cases z:i=j
   ·rw[if_pos z,if_pos z.symm]
   ·rw[if_neg z,if_neg (Ne.symm z)]
  rw[← e,t,Qbv];exact Qg λl hl=>by rw[C.clr.own l hl,aLow l i hl,ZL]
theorem RT.start(hW:0<W)(hw:W∣w)(hA:∀i j,i<n->j<n->prodF n A P i j=w*idF i j):RT n n A P W 1 W idF idF P λ_=>1:=by
 have u:QbC n idF idF:=λi j hi hj=>Qcc _ _ hi;refine⟨Zh n,u,u,hW,ZR W,λi j h1 h2=> ⋯,λi j hi hj=>?_,λi j hi hj=>?_,λ_ _=>rfl,λj h1 h2=> ⋯,λi j h1 h2=> ⋯,λi j h1 h2=> ⋯,λj h1 h2=> ⋯,λh=> ⋯⟩
 ·rw[Qar (a':=A) (b':=P) (λk hk=>Qgb A i hk) (λ_ _=>rfl),hA i j hi hj];exact ZaC hw
 ·rw[Qcc P j hi,ZR,ZbH];exact Int.dvd_zero _
noncomputable def Qdk(Qal:Den)(Qbb:Den)(Qcd:Den)(QcD:Den)(Qb2:Den)(QbQ:Den)(Qa8:Den):DS:=(Qd (Qs 2 (dBf Qaa (Qa vv0 Qe))) (Qd (Qs 3 (Qm 1 Qal [] (Qa vv2 Qe))) (Qd (Qs 4 (Qm 1 Qal [] (Qa vv2 Qe))) (Qd (Qs 5 (Q7 (Qao (Qa kk1 Qe)) vv2)) (Qd (Qs 6 (QaA vv0)) (Qd (Qs 7 (dBf QpL (Qa vv1 Qe))) (Qd (Qa7 (Qf0 (dOp QaG vv2 kk1) (Qnb kk1) (Qnb kk1)) (.nm 8) (Qd (Qs 9 (Qm 2 Qbb [] (Qa vv6 (Qa vv7 Qe)))) (Qd (Qs 7 (dOp Qco vv7 vv9)) (Qd (sIf (QD (dOp gEq vv7 kk1)) (Qd Qsm Qo) Qo) (Qd (Qs 6 (QG (Q2 vv6) (.nm 1) [none,none,some 7,some 9] QO (Qm 2 QcD [] (Qa (Qm 2 Qcd [] (Qa vv1 (Qa vv3 Qe))) (Qa vv2 Qe))))) (Qd (QbW 5 Qaf vv8 vv7) (Qd (Qs 10 (Qm 2 QbQ [] (Qa (Qm 2 Qb2 [] (Qa vv6 (Qa vv7 Qe))) (Qa vv8 Qe)))) (Qd (Qs 3 (Qm 2 Qa8 [] (Qa vv3 (Qa (Qn Qjs kk1) Qe)))) (Qd (Qs 4 (Qm 2 Qa8 [] (Qa (Qn Qjs kk0) (Qa vv4 Qe)))) (Qd (Qs 6 (Qm 2 Qa8 [] (Qa (Qn Qjs kk0) (Qa vv6 Qe)))) (Qd (QbW 6 Qaf vv8 (Q7 (Qao (Qa kk0 Qe)) vv2)) Qo))))))))))) (Qd (QH (QaP (Qa vv3 (Qa vv4 (Qa vv5 Qe))))) Qo))))))))
def QaM(n k:Nat)(f:Mt2):Prop:=∀i j,i<n->j<n->(f i j).natAbs<=2^k
theorem QaM.bits(h:QaM n k f)(hk:k<2^20):Qsc n f:=λi j hi hj=>Qgc (k:=k+1) (by
 have:=h i j hi hj;have:(2:Nat)^k<2^(k+1):=Nat.pow_lt_pow_right (by decide) ⋯;omega) ⋯
theorem QaM.prod(hn:n<=8)(h1:QaM n k f)(h2:QaM n l g):QaM n (k+l+3) (prodF n f g):=λi j hi hj=>by
 have h:(prodF n f g i j).natAbs<=n*2^(k+l):=Qlo λm hm=>by
  rw[Zad,Nat.pow_add];exact ZaU (h1 i m hi hm) (h2 m j hm hj)
 have h3:n*2^(k+l)<=8*2^(k+l):=Zbq _ hn;have h4:(2:Nat)^(k+l+3)=8*2^(k+l):=by rw[Nat.pow_add,Zbe]
 omega
theorem QaM.mono(h:QaM n k f)(hk:k<=l):QaM n l f:=λi j hi hj=>Zp (h i j hi hj) (Zn (by decide) hk)
theorem QaM.id(n k:Nat):QaM n k idF:=λi j _ _=>by
 have:0<(2:Nat)^k:=Nat.pow_pos (by decide);unfold idF;split
 ·show 1<=_;omega
 ·exact Zai _
def Qm2(d:Den):Prop:=∀(n:Nat) (A P:Mt2) (w:Int),0<n->n<=8->w≠0->w.natAbs<2^1999->(∀i j,i<n->j<n->prodF n A P i j=w*idF i j)->∃(R Rb:Mt2) (len:Mt1),d [Qc n n P,.int w]=some (.tup [Qc n n R,Qc n n Rb,Qb n len],true)/\QjX n A P (w.natAbs:Int) R Rb len/\QaM n 130000 R/\QaM n 130000 Rb/\∀j,j<n->(len j).natAbs<2^1999
structure RTI (n k:Nat) (A P:Mt2) (W c L:Int) (R Rb S:Mt2) (len:Mt1):Prop where
 kn:k<=n
 rt:RT n (n-k) A P W c L R Rb S len
 bR:QaM n (16003*k) R
 bB:QaM n (16003*k) Rb
 Ll:L<2^1999
 ll:∀j,j<n->(len j).natAbs<2^1999
theorem Qvj(hu:QhC du)(hi:QjY di)(hs:QhZ ds)(hw:QiE dw)(hf:QoW df)(hc:QmK dc)(hp:QgM dp):Qm2 (Qq 11 (Qdk du di ds dw df dc dp)):=λn A P w n0 n8 w0 wl hA=>by
 obtain⟨W,hW⟩:∃W:Int,W=w.natAbs:=⟨_,rfl⟩;have W0:0<W:= ⋯
 have Ww:W∣w:=by rw[hW];exact Int.natAbs_dvd.mpr (Int.dvd_refl w)
 have Wl:W<2^1999:=by rw[hW];exact_mod_cast wl
 rw[← hW];have key:Run (Qdk du di ds dw df dc dp) [slF (Qc n n P),slI w,none,none,none,none,none,none,none,none,none] λo=>match o with | .rt d fr=>fr=true/\∃(R Rb:Mt2) (len:Mt1),d= .tup [Qc n n R,Qc n n Rb,Qb n len]/\QjX n A P W R Rb len/\QaM n 130000 R/\QaM n 130000 Rb/\(∀j,j<n->(len j).natAbs<2^1999) | _=>False:=by
  refine rsa (Qd3 (n:=n) (m:=n) (f:=P) (r:=reF (Qc n n P)) rfl rfl) ?_;refine rsa (d:=Qc n n idF) (Qk (r:=⟨[.int n],true,[]⟩) rfl (hu n ⋯) rfl) ?_;refine rsa (d:=Qc n n idF) (Qk (r:=⟨[.int n],true,[]⟩) rfl (hu n ⋯) rfl) ?_;refine rsa (Qev (n:=n) (z:=1) (r:=reI n) rfl rfl ⋯) ?_;refine run_seq (Qz (QaV (r:=reF (Qc n n P)) rfl) ?_);refine run_seq (Qz (r:=reI W) ?_ ?_)
  ·show some (HS.R.mk (.int (if w<0 then-w else w)) true [])=_;rw[hW,show(if w<0 then-w else w)=(w.natAbs:Int) by split<;>omega]
  rw[QaJ];change Run _ [slF (Qc n n P),slI w,slI n,slT (Qc n n idF),slT (Qc n n idF),slT (Qb n λ_=>1),slF (Qc n n P),slI W,none,none,none] _;refine QaW (P:=λρ=>∃(R Rb:Mt2) (len:Mt1) (j6 j7 j8 j9 j10:Option (D×Bool)),QjX n A P W R Rb len/\QaM n 130000 R/\QaM n 130000 Rb/\(∀j,j<n->(len j).natAbs<2^1999)/\ρ=[slF (Qc n n P),slI w,slI n,slT (Qc n n R),slT (Qc n n Rb),slT (Qb n len),j6,j7,j8,j9,j10]) ?_ ?_
  ·refine Qah (toD:=λ(k:Nat)=> .int ((n:Int)-1-k)) (List.range n) (λk ρ=>∃(R Rb S:Mt2) (len:Mt1) (c L:Int) (b6:Bool) (j8 j9 j10:Option (D×Bool)),RTI n k A P W c L R Rb S len/\ρ=[slF (Qc n n P),slI w,slI n,slT (Qc n n R),slT (Qc n n Rb),slT (Qb n len),some (Qc n n S,b6),slI L,j8,j9,j10]) (Qnq (n:=n) (Qdf (a:=n) (b:=1) (ra:=reI n) rfl rfl rfl rfl) rfl (rb:=reI (-1)) rfl rfl (rc:=reI (-1)) rfl rfl ⋯) rfl ⟨idF,idF,P,λ_=>1,1,W,false,none,none,none,⟨⋯,by rw[ZbV];exact RT.start W0 Ww hA,QaM.id n _,QaM.id n _,Wl,λj hj=>by show(1:Int).natAbs<2^1999;exact Zw (by decide) (Zn (n:=2) (by decide) (show 1<=1999 by decide))⟩,rfl⟩ ?_ ?_
   ·rintro k k' ρ hk ⟨R,Rb,S,len,c,L,b6,j8,j9,j10,I,rfl⟩;obtain⟨hkn,rfl⟩:=QbF hk;obtain⟨last,hlast⟩:∃last,last=n-1-k:=⟨_,rfl⟩;have el:(n:Int)-1-k=(last:Int):= ⋯
    have ek:n-k=last+1:= ⋯
    have hln:last<n:= ⋯
    obtain⟨kn,rt,bR,bB,Ll,ll⟩:=I;rw[ek]at rt;refine⟨[slF (Qc n n P),slI w,slI n,slT (Qc n n R),slT (Qc n n Rb),slT (Qb n len),some (Qc n n S,b6),slI L,slI (last:Int),j9,j10],by rw[el];rfl,?_⟩;obtain⟨part,ep,p0,hpd⟩:=hi n n S L ⋯;have pp:=(hpd part).mp (Int.dvd_refl part);have L0:=rt.L0;obtain⟨L',eL⟩:=pp.2;have pz:part≠0:=λz=>by rw[z,ZA]at eL;omega
    have p1:0<part:= ⋯
    have pL:part.natAbs<2^2000:=by
     have h1:=Int.le_of_dvd L0 pp.2;have h2:(2:Int)^1999<2^2000:=by decide
     have h3:((part.natAbs:Nat):Int)<((2^2000:Nat):Int):=by rw[Int.natAbs_of_nonneg p0];push_cast;omega
     omega
    have L0':0<L':=by
     refine ZP λz=>?_;have:=ZaW (a:=part) (b:=L') ⋯ ⋯;omega
    have Ll':L'<2^1999:=by
     have:L'<=L:=by
      have:=Zan (show 1<=part by omega) (show 0<=L' by omega);omega
     omega
    have ll':L'.natAbs<2^1999:=by
     have h3:((L'.natAbs:Nat):Int)<((2^1999:Nat):Int):=by rw[Int.natAbs_of_nonneg ⋯];push_cast;omega
     omega
    obtain⟨r6,v6,d6⟩:∃r:HS.R,Qh 6 [slF (Qc n n P),slI w,slI n,slT (Qc n n R),slT (Qc n n Rb),slT (Qb n len),some (Qc n n S,b6),slI L,slI (last:Int),j9,j10]=some r/\r.d=Qc n n S:=by cases b6<;>exact⟨_,rfl,rfl⟩
    refine rsa (d:= .int part) (Qk (r:=⟨[Qc n n S,.int L],r6.fr && (true && true),r6.M++([]++[])⟩) ((Qr v6 (Qr rfl (QK _))).trans (by rw[d6])) ep rfl) ?_;refine rsa (QeT rfl rfl rfl rfl pz pL eL) ?_;change Run _ [slF (Qc n n P),slI w,slI n,slT (Qc n n R),slT (Qc n n Rb),slT (Qb n len),some (Qc n n S,b6),slI L',slI (last:Int),slI part,j10] _;have hS:=λi j (hi:i<n) (hj:j<n)=>pp.1 i j hi hj;refine Qx (QQ (Qw (QbA rfl rfl rfl rfl) rfl) (λh=>?_) (λh=>Qt ?_))
    ·have h1:L'=1:=of_decide_eq_true h;have:L=part:=by rw[eL,h1,ZU]
     refine Qx ⟨_,rfl,R,Rb,len,_,_,_,_,_,rt.stop λi j hi hj=>by rw[this];exact hS i j hi hj,bR.mono ⋯,bB.mono ⋯,ll,rfl⟩
    have hone:L'≠1:=of_decide_eq_false h;have hSq:∀i j,i<n->j<n->S i j=part*(S i j / part):=λi j hi hj=>(Int.mul_ediv_cancel' (hS i j hi hj)).symm;obtain⟨r6',v6',d6'⟩:∃r:HS.R,Qh 6 [slF (Qc n n P),slI w,slI n,slT (Qc n n R),slT (Qc n n Rb),slT (Qb n len),some (Qc n n S,b6),slI L',slI (last:Int),slI part,j10]=some r/\r.d=Qc n n S:=by cases b6<;>exact⟨_,rfl,rfl⟩
    refine rsa (QB (List.range n) (Q1 v6' d6') rfl λi hi=>⟨[none,slF (Qb n (S i)),slI L',slI part],rfl,reT (Qb n λj=>S i j / part % L'),Qk (Qr (Qk (r:=⟨[Qb n (S i),.int part],false,[]⟩) rfl (hs n (S i) (λj=>S i j / part) part pz pL λj hj=>hSq i j (Ze.mp hi) hj) rfl) (Qr (r:=reI L') rfl (QK _))) (hw n _ L' L0') rfl,rfl,rfl⟩) ?_;refine run_seq (Qln rfl rfl rfl rfl rfl ⋯ ⋯ ?_);rw[Zab];change Run _ [slF (Qc n n P),slI w,slI n,slT (Qc n n R),slT (Qc n n Rb),slT (Qb n (up len last L')),slT (Qc n n λi j=>S i j / part % L'),slI L',slI (last:Int),slI part,j10] _;have bS1:∀i j,i<n->j<n->0<=S i j / part % L'/\S i j / part % L'<L':=λi j _ _=>⟨ZI _ ⋯,ZG _ L0'⟩;obtain⟨x,cc,fr,ef,FI⟩:=hf n (λi j=>S i j / part % L') L' n0 n8 L0' bS1;obtain⟨T,B,g,ec,sp,bT,bBk⟩:=hc n last x hln n8 λi hi=>⟨(FI.bd i hi).1,by have:=(FI.bd i hi).2;omega⟩;have hz:∀i j,last<i->i<n->j<n->S i j / part % L'=0:=λi j h1 h2 h3=>by rw[rt.low i j ⋯ h2 h3];simp
    have rt':=rt.step p1 eL hSq (λi j _ _=>Int.dvd_self_sub_emod) hz (λt h1 h2=>by
     have a1:part*t∣part:=(hpd (part*t)).mpr ⟨λi j hi hj=>by rw[hSq i j hi hj];exact Int.mul_dvd_mul_left part (h2 i j hi hj),by rw[eL];exact Int.mul_dvd_mul_left part h1⟩;have a2:t∣1:=Int.dvd_of_mul_dvd_mul_left pz (by rw[ZU];exact a1);have:=Zal.mpr a2;exact Nat.eq_one_of_dvd_one this) FI.mix (λi h1 h2=>by
     have a1:=FI.mix i h2;rw[Qg λj hj=>by rw[hz i j h1 h2 hj,ZC],Qaz,Int.sub_zero]at a1;have a2:=FI.bd i h2;rw[← ZbG a2.1 a2.2];exact Int.emod_eq_zero_of_dvd a1) FI.cop sp
    have ecf:=Qia (fs:=Qa (Qh 6) (Qa (Qh 7) Qe)) (ρ:=[slF (Qc n n P),slI w,slI n,slT (Qc n n R),slT (Qc n n Rb),slT (Qb n (up len last L')),slT (Qc n n λi j=>S i j / part % L'),slI L',slI (last:Int),slI part,j10]) rfl ef rfl;have efree:∃r:HS.R,Qm 2 df [] (Qa (Qh 6) (Qa (Qh 7) Qe)) [slF (Qc n n P),slI w,slI n,slT (Qc n n R),slT (Qc n n Rb),slT (Qb n (up len last L')),slT (Qc n n λi j=>S i j / part % L'),slI L',slI (last:Int),slI part,j10]=some r/\r.d=Qb n x:=by
     cases fr
     ·exact⟨_,ecf,rfl⟩
     ·exact⟨_,ecf,rfl⟩
    obtain⟨rf,vf,dfx⟩:=efree;refine rsa (Qk (r:=⟨[Qb n x,.int last],rf.fr && (true && true),rf.M++([]++[])⟩) ((Qr vf (Qr rfl (QK _))).trans (by rw[dfx])) ec rfl) ?_;change Run _ [slF (Qc n n P),slI w,slI n,slT (Qc n n R),slT (Qc n n Rb),slT (Qb n (up len last L')),slT (Qc n n λi j=>S i j / part % L'),slI L',slI (last:Int),slI part,slT (.tup [Qc n n T,Qc n n B])] _;have BT:QaM n 16000 T:=bT;have BB:QaM n 16000 B:=bBk;have kk:16003*k+16000+3=16003*(k+1):= ⋯
    have B1:QaM n 1999 λi j=>S i j / part % L':=λi j hi hj=>by
     show(S i j / part % L').natAbs<=2^1999;have h3:(((S i j / part % L').natAbs:Nat):Int)<((2^1999:Nat):Int):=by rw[Int.natAbs_of_nonneg (bS1 i j hi hj).1];push_cast;have:=(bS1 i j hi hj).2;omega
     omega
    refine rsa (Qk rfl (hp n R B ⋯ (bR.bits ⋯) (BB.bits (by decide))) rfl) ?_;refine rsa (Qk rfl (hp n T Rb ⋯ (BT.bits (by decide)) (bB.bits ⋯)) rfl) ?_;refine rsa (Qk rfl (hp n T _ ⋯ (BT.bits (by decide)) (B1.bits (by decide))) rfl) ?_;change Run _ [slF (Qc n n P),slI w,slI n,slT (Qc n n (prodF n R B)),slT (Qc n n (prodF n T Rb)),slT (Qb n (up len last L')),slT (Qc n n (prodF n T λi j=>S i j / part % L')),slI L',slI (last:Int),slI part,slT (.tup [Qc n n T,Qc n n B])] _;refine run_seq (Qvh rfl rfl (Qev rfl rfl ⋯) hln (Qt ?_));refine⟨_,_,_,up len last L',c*part,L',true,_,_,_,⟨⋯,?_,?_,?_,Ll',λj hj=>?_⟩,rfl⟩
    ·rw[show n-(k+1)=last by omega];exact rt'
    ·rw[← kk];exact bR.prod n8 BB
    ·rw[← kk,show 16003*k+16000+3=16000+16003*k+3 by omega];exact BT.prod n8 bB
    ·rw[Qda];split
     ·exact ll'
     ·exact ll j hj
   ·rintro ρ ⟨R,Rb,S,len,c,L,b6,j8,j9,j10,I,rfl⟩;rw[Zt]at I;obtain⟨kn,rt,bR,bB,Ll,ll⟩:=I;rw[Nat.sub_self]at rt;exact⟨R,Rb,len,_,_,_,_,_,rt.done,bR.mono ⋯,bB.mono ⋯,ll,rfl⟩
  ·rintro ρ ⟨R,Rb,len,j6,j7,j8,j9,j10,rg,b1,b2,ll,rfl⟩;exact Qv rfl ⟨rfl,R,Rb,len,rfl,rg,b1,b2,ll⟩
 obtain⟨o,h1,h2⟩:=key;cases o with
 | rt d fr=>
  obtain⟨rfl,R,Rb,len,rfl,h⟩:=h2;exact⟨R,Rb,len,by show Option.bind (Qdk du di ds dw df dc dp [slF (Qc n n P),slI w,none,none,none,none,none,none,none,none,none]) outD=_;rw[h1];rfl,h⟩
 | _=>exact h2.elim
theorem Qzp{n:Nat}{m:Mt2}{y:Mt1}(hd:det n m≠0)(h:∀r,r<n->sm n (λl=>y l*m l r)=0):∀k,k<n->y k=0:=λk hk=>by
 have e1:det n (cup m k λr=>sm n λl=>y l*m l r)=y k*det n m:=by
  rw[Qd7 hk y m n,QcL hk λi hi ne=>by rw[Qee hi hk ne (by rw[QI,QF _ _ ne]),ZC],Qas]
 have e2:det n (cup m k λr=>sm n λl=>y l*m l r)=0:=by
  rw[QW (k:=cup m k λr=>0*m k r) λj hj r hr=>by
   by_cases e:j=k
   ·subst e;rw[QI,QI,h r hr,ZA]
   ·rw[QF _ _ e,QF _ _ e],QfR hk,ZA]
 rw[e2]at e1;rcases Int.mul_eq_zero.mp e1.symm with z | z
 ·exact z
 ·exact absurd z hd
theorem Quh{n:Nat}{A P:Mt2}{w:Int}(hd:(det n λj i=>A i j)≠0)(h:∀i j,i<n->j<n->prodF n A P i j=w*idF i j):∀i j,i<n->j<n->prodF n P A i j=w*idF i j:=λi j hi hj=>by
 have:=Qzp hd (λr hr=>by
  rw[Qbv];have e1:(Qi n λl=>(prodF n P A l j-w*idF l j)*A r l)=prodF n A (prodF n P A) r j-w*prodF n A idF r j:=by
   unfold prodF;rw[← QP,← Qio];exact Qg λl _=>by grind
  rw[e1,← QaC,Qar (a':=λi j=>w*idF i j) (b':=A) (λk hk=>h r k hr hk) (λ_ _=>rfl),Qgb _ _ hj];have e2:prodF n (λi j=>w*idF i j) A r j=w*prodF n idF A r j:=by
   unfold prodF;rw[← QP];exact Qg λl _=>Zq _ _ _
  rw[e2,Qcc _ _ hr,ZbH]) i hi
 omega
structure QfQ (n:Nat) (f Lf R Lb Rb:Mt2) (len:Mt1):Prop where
 u1:QbC n R Rb
 u2:QbC n Rb R
 v1:QbC n Lf Lb
 v2:QbC n Lb Lf
 mid:∀i j,i<n->j<n->prodF n (prodF n Lf f) R i j=len i*idF i j
 pos:∀j,j<n->0<len j
 nxt:∀j,j+1<n->len j∣len (j+1)
theorem QwU{n:Nat}{f P R Rb Lf Lb:Mt2}{w W:Int}{len:Mt1}(w0:w≠0)(hd:(det n λj i=>f i j)≠0)(hP:∀i j,i<n->j<n->prodF n f P i j=w*idF i j)(rg:QjX n f P W R Rb len)
  (hL:∀i j,i<n->j<n->len i*prodF n Rb P i j=w*Lf i j) (hB:∀i j,i<n->j<n->prodF n f R i j=len j*Lb i j):QfQ n f Lf R Lb Rb len:=by
 have hPA:=Quh hd hP;have key:∀i j,i<n->j<n->prodF n (prodF n Rb P) (prodF n f R) i j=w*idF i j:=λi j hi hj=>by
  rw[QaC,← QaC n P f R,Qar (a':=Rb) (b':=λi j=>w*R i j) (λ_ _=>rfl) λk hk=>?_]
  ·have:prodF n Rb (λi j=>w*R i j) i j=w*prodF n Rb R i j:=by
    unfold prodF;rw[← QP];exact Qg λl _=>ZS _ _ _
   rw[this,rg.u2 i j hi hj]
  ·rw[Qar (a':=λi j=>w*idF i j) (b':=R) (λl hl=>hPA k l hk hl) (λ_ _=>rfl)];have:prodF n (λi j=>w*idF i j) R k j=w*prodF n idF R k j:=by
    unfold prodF;rw[← QP];exact Qg λl _=>Zq _ _ _
   rw[this,Qcc _ _ hk]
 have kL:∀i j,i<n->j<n->w*prodF n Lf (prodF n f R) i j=len i*(w*idF i j):=λi j hi hj=>by
  rw[← key i j hi hj];unfold prodF;rw[← QP,← QP];refine Qg λk hk=>?_;have:=hL i k hi hk;unfold prodF at this;rw[← Zq,← this,Zq]
 refine⟨rg.u1,rg.u2,λi j hi hj=>?_,λi j hi hj=>?_,λi j hi hj=>?_,rg.pos,rg.nxt⟩
 ·have h1:=kL i j hi hj;have h2:prodF n Lf (prodF n f R) i j=len j*prodF n Lf Lb i j:=by
   unfold prodF;rw[← QP];refine Qg λk hk=>?_;have:=hB k j hk hj;unfold prodF at this;rw[this,ZS]
  have lj:=rg.pos j hj;have h3:w*len j*prodF n Lf Lb i j=w*len j*idF i j:=by
   rw[Zq,← h2,h1];unfold idF;by_cases e:i=j
   ·subst e;rw[if_pos rfl];grind
   ·rw[if_neg e];grind
  exact Zah (Int.mul_ne_zero w0 ⋯) h3
 ·have h1:w*prodF n Lb Lf i j=w*idF i j:=by
   rw[← hP i j hi hj];have e:prodF n f P i j=prodF n (prodF n f R) (prodF n Rb P) i j:=by
    have hk':∀k,k<n->prodF n (prodF n R Rb) P k j=P k j:=λk hk=>by
     rw[Qar (a':=idF) (b':=P) (λl hl=>rg.u1 k l hk hl) (λ_ _=>rfl),Qcc _ _ hk]
    rw[QaC,← QaC n R Rb P];exact Qar (λ_ _=>rfl) λk hk=>(hk' k hk).symm
   rw[e];show w*Qi n (λk=>Lb i k*Lf k j)=Qi n λk=>prodF n f R i k*prodF n Rb P k j;rw[← QP];exact Qg λk hk=>by rw[hB i k hi hk,ZS,← hL k j hk hj];grind
  exact Zah w0 h1
 ·rw[QaC];have h1:=kL i j hi hj;have:w*prodF n Lf (prodF n f R) i j=w*(len i*idF i j):=by rw[h1];exact ZS _ _ _
  exact Zah w0 this
noncomputable def QiJ(Qb3:Den)(QbR:Den)(QcS:Den)(Qal:Den)(Qcd:Den)(Qa8:Den)(Q5:Den):DS:=(Qd (Qs 1 (Qm 1 Qb3 [] (Qa vv0 Qe))) (Qd (Qs 2 (Qm 2 QbR [] (Qa (Qn vv1 kk0) (Qa (Qn vv1 kk1) Qe)))) (Qd (Qs 3 (QaA (Qn vv2 kk0))) (Qd (Qs 4 (QaA (Qn vv2 kk1))) (Qd (Qs 5 (QaA (Qn vv2 kk2))) (Qd (Qs 6 (QG (Qak (Qm 1 Qal [] (Qa (dBf Qaa (Qa vv0 Qe)) Qe)) vv5) (.tp [1,2]) [none,none,none] QO (Qm 2 QcS [] (Qa vv1 (Qa vv2 Qe))))) (Qd (Qs 7 (QG (Q2 (Qm 2 Qa8 [] (Qa vv6 (Qa (Qm 2 Qa8 [] (Qa vv4 (Qa (Qn vv1 kk0) Qe))) Qe)))) (.nm 1) [none,none,some 1] QO (Qm 2 Qcd [] (Qa vv1 (Qa (Qn vv2 kk1) Qe))))) (Qd (Qs 8 (Qm 1 Q5 [] (Qa (QG (Qak (Qm 1 Q5 [] (Qa (Qm 2 Qa8 [] (Qa vv0 (Qa vv3 Qe))) Qe)) vv5) (.tp [1,2]) [none,none,none] QO (Qm 2 Qcd [] (Qa vv1 (Qa vv2 Qe)))) Qe))) (Qd (QH (QaP (Qa vv7 (Qa vv6 (Qa vv3 (Qa vv8 (Qa vv4 Qe))))))) Qo)))))))))
noncomputable def Qaq(len:Mt1):Nat->Nat->Int:=λi j=>len i*idF i j
def QjZ(d:Den):Prop:=∀(n:Nat) (f:Mt2),0<n->n<=8->(∀i j,i<n->j<n->(f i j).natAbs<=2^240)->(det n λj i=>f i j)≠0->∃(Lf R Lb Rb:Mt2) (len:Mt1),d [Qc n n f]=some (.tup [Qc n n Lf,Qc n n (Qaq len),Qc n n R,Qc n n Lb,Qc n n Rb],false)/\QfQ n f Lf R Lb Rb len/\QaM n 200000 Lf/\QaM n 130000 R/\QaM n 200000 Lb/\QaM n 130000 Rb/\∀j,j<n->(len j).natAbs<2^1999
theorem Qwr(hb:QmV db)(hr:Qm2 dr)(hn:Qm8 dn)(hu:QhC du)(hs:QhZ ds)(hp:QgM dp)(ht:QcJ dt):QjZ (Qq 9 (QiJ db dr dn du ds dp dt)):=λn f n0 n8 hf hd=>by
 obtain⟨P,eb,hP,bP,wl⟩:=hb n f n8 hf hd;obtain⟨w,hw⟩:∃w,w=det n λj i=>f i j:=⟨_,rfl⟩;rw[← hw]at eb wl hd;have hP:∀i j,i<n->j<n->prodF n f P i j=w*idF i j:=λi j hi hj=>by rw[hP i j hi hj,← hw]
 obtain⟨R,Rb,len,er,rg,bR,bB,ll⟩:=hr n f P w n0 n8 hd wl hP;have wl':w.natAbs<2^2000:=Zcm wl (Nat.pow_lt_pow_right (by decide) (by decide));have ll':∀j,j<n->(len j).natAbs<2^2000:=λj hj=>Zcm (ll j hj) (Nat.pow_lt_pow_right (by decide) (by decide));obtain⟨Lf,hL⟩:∃Lf:Nat->Nat->Int,∀i j,i<n->j<n->len i*prodF n Rb P i j=w*Lf i j:=by
  refine⟨λi j=>len i*prodF n Rb P i j / w,λi j hi hj=>(Int.mul_ediv_cancel' ?_).symm⟩;exact Int.natAbs_dvd.mp (rg.row j i hj hi)
 obtain⟨Lb,hB⟩:∃Lb:Nat->Nat->Int,∀i j,i<n->j<n->prodF n f R i j=len j*Lb i j:=
  ⟨λi j=>prodF n f R i j / len j,λi j hi hj=>(Int.mul_ediv_cancel' (rg.col i j hi hj)).symm⟩
 have BP:QaM n 1999 P:=λi j hi hj=>Zbi (bP i j hi hj);have BQ:=bB.prod n8 BP;have Bf:QaM n 240 f:=hf;have BM:=Bf.prod n8 bR;have Bm:QaM n 1999 (Qaq len):=λi j hi hj=>by
  unfold Qaq idF;split
  ·rw[ZU];exact Zbi (ll i hi)
  ·rw[ZC];exact Zai _
 have BmQ:=Bm.prod n8 BQ;have mQ:∀i j,i<n->j<n->prodF n (Qaq len) (prodF n Rb P) i j=w*Lf i j:=λi j hi hj=>by
  rw[← hL i j hi hj];show(Qi n λk=>Qaq len i k*prodF n Rb P k j)=_;rw[Qbs hi λk hk ne=>by unfold Qaq idF;rw[if_neg (Ne.symm ne),ZC,ZA]];unfold Qaq idF;rw[if_pos rfl,ZU]
 have dvL:∀a b c:Int,a=b*c->b≠0->c.natAbs<=a.natAbs:=λa b c h hb=>by
  rw[h,Zad];exact Nat.le_mul_of_pos_left _ ⋯
 have BL:QaM n 200000 Lf:=λi j hi hj=>Zp (dvL _ _ _ (mQ i j hi hj) hd) (BmQ.mono (by decide) i j hi hj);have BLb:QaM n 200000 Lb:=λi j hi hj=>Zp (dvL _ _ _ (hB i j hi hj) (by have:=rg.pos j hj;omega)) (BM.mono (by decide) i j hi hj);refine⟨Lf,R,Lb,Rb,len,QN ?_,QwU hd (by rw[← hw];exact hd) hP rg hL hB,BL,bR,BLb,bB,ll⟩;refine rsa (Qk rfl eb rfl) ?_;refine rsa (Qk rfl er rfl) ?_;refine run_seq (Qz (QaV rfl) ?_);refine run_seq (Qz (QaV rfl) ?_);refine run_seq (Qz (QaV rfl) ?_);change Run _ [slF (Qc n n f),slT (.tup [Qc n n P,.int w]),slF (.tup [Qc n n R,Qc n n Rb,Qb n len]),slF (Qc n n R),slF (Qc n n Rb),slF (Qb n len),none,none,none] _;refine rsa (QB (List.range n) (Qac (Qk (Qr (Qd3 rfl rfl) (QK _)) (hu n ⋯) rfl) rfl rfl rfl) rfl λi hi=>⟨[none,slF (Qb n (idF i)),slI (len i)],rfl,reT (Qb n (Qaq len i)),Qk rfl (hn n (idF i) (len i) (Qa6 (ll' i (Ze.mp hi))) λj _=>Qa6 (by unfold idF;split<;>exact Zw (by decide) (Zn (by decide) (show 1<=2000 by decide)))) rfl,rfl,rfl⟩) ?_;change Run _ [slF (Qc n n f),slT (.tup [Qc n n P,.int w]),slF (.tup [Qc n n R,Qc n n Rb,Qb n len]),slF (Qc n n R),slF (Qc n n Rb),slF (Qb n len),slT (Qc n n (Qaq len)),none,none] _;have eQ:Qm 2 dp [] (Qa (Qh 4) (Qa (Qn (Qh 1) (dC (.int 0))) Qe)) [slF (Qc n n f),slT (.tup [Qc n n P,.int w]),slF (.tup [Qc n n R,Qc n n Rb,Qb n len]),slF (Qc n n R),slF (Qc n n Rb),slF (Qb n len),slT (Qc n n (Qaq len)),none,none]=some (reT (Qc n n (prodF n Rb P))):=Qk rfl (hp n Rb P ⋯ (bB.bits (by decide)) (BP.bits (by decide))) rfl;have eMQ:Qm 2 dp [] (Qa (Qh 6) (Qa (Qm 2 dp [] (Qa (Qh 4) (Qa (Qn (Qh 1) (dC (.int 0))) Qe))) Qe)) [slF (Qc n n f),slT (.tup [Qc n n P,.int w]),slF (.tup [Qc n n R,Qc n n Rb,Qb n len]),slF (Qc n n R),slF (Qc n n Rb),slF (Qb n len),slT (Qc n n (Qaq len)),none,none]=some (reT (Qc n n (prodF n (Qaq len) (prodF n Rb P)))):=Qk (Qr rfl (Qr eQ (QK _))) (hp n _ _ ⋯ (Bm.bits (by decide)) (BQ.bits (by decide))) rfl;refine rsa (QB (List.range n) (Q1 eMQ rfl) rfl λi hi=>⟨[none,slF (Qb n (prodF n (Qaq len) (prodF n Rb P) i)),slF (.tup [Qc n n P,.int w])],rfl,reT (Qb n (Lf i)),Qk rfl (hs n _ (Lf i) w hd wl' λj hj=>mQ i j (Ze.mp hi) hj) rfl,rfl,rfl⟩) ?_;change Run _ [slF (Qc n n f),slT (.tup [Qc n n P,.int w]),slF (.tup [Qc n n R,Qc n n Rb,Qb n len]),slF (Qc n n R),slF (Qc n n Rb),slF (Qb n len),slT (Qc n n (Qaq len)),slT (Qc n n Lf),none] _;have eM:Qm 2 dp [] (Qa (Qh 0) (Qa (Qh 3) Qe)) [slF (Qc n n f),slT (.tup [Qc n n P,.int w]),slF (.tup [Qc n n R,Qc n n Rb,Qb n len]),slF (Qc n n R),slF (Qc n n Rb),slF (Qb n len),slT (Qc n n (Qaq len)),slT (Qc n n Lf),none]=some (reT (Qc n n (prodF n f R))):=Qk rfl (hp n f R ⋯ (Bf.bits (by decide)) (bR.bits (by decide))) rfl;have eT:Qm 1 dt [] (Qa (Qm 2 dp [] (Qa (Qh 0) (Qa (Qh 3) Qe))) Qe) [slF (Qc n n f),slT (.tup [Qc n n P,.int w]),slF (.tup [Qc n n R,Qc n n Rb,Qb n len]),slF (Qc n n R),slF (Qc n n Rb),slF (Qb n len),slT (Qc n n (Qaq len)),slT (Qc n n Lf),none]=some (reT (Qc n n (λj i=>prodF n f R i j))):=Qk (Qr eM (QK _)) (ht n _ ⋯) rfl;refine rsa (Qk (Qr (QB (List.range n) (Qac eT rfl rfl rfl) rfl λi hi=>⟨[none,slF (Qb n (λj=>prodF n f R j i)),slI (len i)],rfl,reT (Qb n λj=>Lb j i),Qk rfl (hs n _ (λj=>Lb j i) (len i) (by have:=rg.pos i (Ze.mp hi);omega) (ll' i (Ze.mp hi)) λj hj=>hB j i hj (Ze.mp hi)) rfl,rfl,rfl⟩) (QK _)) (ht n _ ⋯) rfl) ?_;exact Qv rfl ⟨rfl,rfl⟩
def Qle(d:Den):Prop:=∀(N k:Nat) (a p q:Mt1) (b:Int),k<N->b≠0->b.natAbs<2^2000->(∀j,j<N->Qbd (a j)/\Qbd (p j))->(∀j,j<N->p k*a j-a k*p j=b*q j)->d [Qb N a,Qb N p,.int k,.int b]=some (Qb N q,true)
theorem Qtm:Qle (Qq 4 QkD):=λN k a p q b hk hb hb2 hs hq=>
 QN (Qv (QB (List.range N) (Qac rfl rfl rfl rfl) rfl λi hi=>⟨[none,slI (a i),slI (p i),slI k,slI b,slF (Qb N a),slF (Qb N p)],rfl,reI (q i),by
  have hi':=Ze.mp hi;refine QeT (Qdf (Qan (Qae rfl rfl rfl rfl hk) rfl rfl rfl (QcO (hs k hk).2 (hs i hi').1)) rfl (Qan (Qae rfl rfl rfl rfl hk) rfl rfl rfl (QcO (hs k hk).1 (hs i hi').2)) rfl) rfl rfl rfl hb hb2 (hq i hi'),rfl,rfl⟩) ⟨rfl,rfl⟩)
theorem QyA(hm:Qpe n m)(hi:i<n)(ha:∀r,r<n->(a r).natAbs<=B):(det n (cup m i a)).natAbs<=n*(B*bnd (2^240) n):=by
 have e:det n (cup m i a)=sm n λs=>a s*det n (cup m i (QE s)):=by
  rw[← Qd7 hi a QE n];refine QW λj hj r hr=>?_;by_cases q:j=i
  ·subst q;rw[QI,QI,QcL hr λs _ ne=>by unfold QE;rw[if_neg ne,ZC]];unfold QE;rw[if_pos rfl,ZU]
  ·rw[QF _ _ q,QF _ _ q]
 rw[e,Qbv];refine Qlo λs hs=>?_;rw[Zad];exact ZaU (ha s hs) (Qd4 (hm.put λr _=>by unfold QE;split<;>decide))
theorem QbE.QtQ{n N k:Nat}{A m R:Mt2}{d:Int}(h:QbE n N k A m R d)(hn:n<=8)(hA:∀j,j<n->∀r,r<n->(A j r).natAbs<=2^240)(hB:∀j,j<N->∀r,r<n->(A j r).natAbs<=2^200000):d.natAbs<2^2000/\∀i j,i<n->j<N->Qbd (R i j):=by
 have b:=Qlw hn;refine⟨by rw[← h.clr.det];exact ZO (Qd4 h.col) b,λi j hi hj=>?_⟩;rw[h.clr.ent i j hi hj];refine Qgc (k:=202004) ?_ (by decide);refine ZO (QyA h.col hi (hB j hj)) ?_;have h1:n*(2^200000*bnd (2^240) n)<=8*(2^200000*2^2000):=ZaU hn (Nat.mul_le_mul_left _ (Zbi b));refine ZO h1 ?_;rw[← Nat.pow_add,show(8:Nat)=2^3 from rfl,← Nat.pow_add];exact Nat.pow_lt_pow_right (by decide) (by decide)
theorem QbE.QB7{n N k:Nat}{A m R R':Mt2}{d:Int}(h:QbE n N k A m R d)(hk:k<n)(kN:k<N)(hA:∀j,j<n->∀r,r<n->(A j r).natAbs<=2^240)(hp:R k k≠0)(h1:∀j,j<N->R' k j=R k j)(h2:∀i j,i<n->i≠k->j<N->∀q,R k k*R i j-R i k*R k j=d*q->R' i j=q):QbE n N (k+1) A (cup m k (A k)) R' (R k k):=
 ⟨h.clr.step hk kN hp h1 h2,h.col.put (hA k hk)⟩
def QfI(d:Den):Prop:=∀(n N:Nat) (A:Mt2),n<=8->n<=N->(∀j,j<n->∀r,r<n->(A j r).natAbs<=2^240)->(∀j,j<N->∀r,r<n->(A j r).natAbs<=2^200000)->∃R,d [Qc n N (λi j=>A j i)]=some (.tup [Qc n N R,.int (det n A)],false)/\(det n A≠0->∃m,QbE n N n A m R (det n A))
theorem QqP(hp:Qk6 dp)(ht:Qle dt):QfI (Qq 5 (Qg9 dp dt)):=λn N A n8 hN hA hB=>by
 have key:Run (Qg9 dp dt) [slF (Qc n N (λi j=>A j i)),none,none,none,none] λo=>match o with | .rt d fr=>fr=false/\∃R,d= .tup [Qc n N R,.int (det n A)]/\(det n A≠0->∃m,QbE n N n A m R (det n A)) | _=>False:=by
  refine run_seq (Qz (QaV rfl) ?_);refine rsa rfl ?_;refine Qx (Qah (List.range n) (λk ρ=>∃m R b j3 j4,QbE n N k A m R b/\ρ=[slF (Qc n N (λi j=>A j i)),slF (Qc n N R),slI b,j3,j4]) (Qbc (Qd3 rfl rfl) rfl ⋯) rfl ⟨_,_,_,none,none,QbE.start n N A,rfl⟩ ?_ ?_)
  ·rintro k k' ρ hk ⟨m0,R0,b,j3,j4,C0,rfl⟩;obtain⟨hkn,rfl⟩:=QbF hk;have kN:k<N:= ⋯
   obtain⟨R,ep,hR⟩:=hp n N k R0 hkn ⋯ kN;have hC:∃m,QbE n N k A m R b/\(R k k=0->det n A=0):=by
    rcases hR with⟨rfl,hz⟩ | ⟨i,h1,h2,h3,rfl⟩
    ·exact⟨m0,C0,λz=>C0.clr.stuck hkn kN (hz z)⟩
    ·obtain⟨m',C'⟩:=C0.swap hkn h2 h1;refine⟨m',C',λz=>absurd z ?_⟩;unfold Qdj;rw[if_neg ⋯,if_pos rfl];exact h3
   obtain⟨m,C,hzero⟩:=hC;obtain⟨sb,sR⟩:=C.QtQ n8 hA hB;refine⟨[slF (Qc n N (λi j=>A j i)),slF (Qc n N R0),slI b,slI k,j4],rfl,?_⟩;refine run_seq (Qz (r:=reF (Qc n N R)) ((Qbh (r:=⟨[Qc n N R0,.int k],false,[]⟩) rfl ep rfl).trans rfl) ?_);refine run_seq (Qz ((QaV (QdG rfl rfl rfl rfl ⋯ ⋯)).trans rfl) ?_);refine Qx (QQ (Qw (QbA (Qae rfl rfl rfl rfl kN) rfl rfl rfl) rfl) (λh=>?_) (λh=>Qt ?_))
   ·have dz:=hzero (of_decide_eq_true h);refine Qx (Qb0 rfl ?_);exact⟨rfl,R,by rw[dz],λz=>absurd dz z⟩
   have pv:R k k≠0:=of_decide_eq_false h;have ex:∀i j,∃q,i<n->i≠k->j<N->R k k*R i j-R i k*R k j=b*q:=λi j=>by
    by_cases h:i<n/\i≠k/\j<N
    ·exact⟨_,λh1 h2 h3=>C.clr.exact hkn kN h1 h3 h2⟩
    ·exact⟨0,λh1 h2 h3=>absurd ⟨h1,h2,h3⟩ h⟩
   have zz:∀j,R k k*R k j-R k k*R k j=b*0:=λj=>by rw[ZbH,ZC]
   have eT:∀i,i<n->dt [Qb N (R i),Qb N (R k),.int k,.int b]=slT (Qb N (λj=>if i=k then 0 else(ex i j).choose)):=λi hi=>
    ht N k (R i) (R k) _ b kN C.clr.nz sb (λj hj=>⟨sR i j hi hj,sR k j hkn hj⟩) λj hj=>by
     by_cases e:i=k
     ·rw[if_pos e,e];exact zz j
     ·rw[if_neg e];exact(ex i j).choose_spec hi e hj
   refine rsa (QB (List.range n) (Q1 rfl rfl) rfl λi hi=>⟨[none,slF (Qb N (R i)),slI k,slI b,slF (Qb N (R k))],rfl,reT (Qb N (λj=>if i=k then 0 else(ex i j).choose)),Qk rfl (eT i (Ze.mp hi)) rfl,rfl,rfl⟩) ?_;refine run_seq (Qto rfl rfl rfl hkn ?_);refine run_seq (Qz ((QaV (Qae rfl rfl rfl rfl kN)).trans rfl) (Qt ?_));rw[Qcf rfl];refine⟨_,_,_,_,_,C.QB7 (R':=λi j=>if i=k then R k j else(λi j=>if i=k then 0 else(ex i j).choose) i j) hkn kN hA pv (λj _=>by show(if k=k then R k j else _)=_;rw[if_pos rfl]) (λi j hi ne hj q hq=>?_),rfl⟩;show(if i=k then R k j else if i=k then 0 else(ex i j).choose)=q;rw[if_neg ne,if_neg ne];exact Zah C.clr.nz (((ex i j).choose_spec hi ne hj).symm.trans hq)
  ·rintro ρ ⟨m,R,b,j3,j4,C,rfl⟩;rw[Zt]at C;have hb:=C.clr.all;subst hb;exact Qv rfl ⟨rfl,R,rfl,λ_=>⟨m,C⟩⟩
 obtain⟨o,h1,h2⟩:=key;cases o with
 | rt d fr=>
  obtain⟨rfl,R,rfl,C⟩:=h2;exact⟨R,by show Option.bind (Qg9 dp dt [slF (Qc n N (λi j=>A j i)),none,none,none,none]) outD=_;rw[h1];rfl,C⟩
 | _=>exact h2.elim
def Qhi(d:Den):Prop:=∀(n N:Nat) (A:Mt2),n<=8->n<=N->(∀j,j<n->∀r,r<n->(A j r).natAbs<=2^240)->(∀j,j<N->∀r,r<n->(A j r).natAbs<=2^200000)->det n A≠0->∃m R b,d [Qc n N (λi j=>A j i)]=some (.tup [Qc n N R,.int b],false)/\QbE n N n A m R b
theorem QoY(hc:QfI dc):Qhi (Qq 2 (Qey dc)):=λn N A n8 hN hA hB hd=>by
 obtain⟨R,ec,hC⟩:=hc n N A n8 hN hA hB;obtain⟨m,C⟩:=hC hd;refine⟨m,R,det n A,QN ?_,C⟩;refine run_seq (Qz ((Qbh (r:=⟨[Qc n N (λi j=>A j i)],false,[]⟩) rfl ec rfl).trans rfl) ?_);refine Qx (QQ (b:=false) (Qw (QbA rfl rfl rfl rfl) (by simp[hd])) (λh=>by cases h) (λ_=>Qt ?_));exact Qv rfl ⟨rfl,rfl⟩
def QgN(d:Den):Prop:=∀(n:Nat) (f:Mt2) (row:Mt1),n<=8->(∀j r,j<n->r<n->(f j r).natAbs<=2^240)->(∀r,r<n->(row r).natAbs<=2^200000)->det n f≠0->∃tops q,d [Qc n n f,Qb n row]=some (.tup [Qb n tops,.int q],true)/\0<q/\q.natAbs<2^2000/\(∀r,r<n->q*row r=sm n λl=>tops l*f l r)/\((∀r,r<n->(row r).natAbs<=2^240)->∀l,l<n->(tops l).natAbs<2^2000)/\(∀t,t∣q->(∀l,l<n->t∣tops l)->t.natAbs=1)
theorem Qss(ht:QcJ dt)(hc:Qhi dc)(hl:QgG dl)(hm:Qic dm):QgN (Qq 6 (Qjm dt dc dl dm)):=λn f row n8 hf hr hL=>by
 have hA:∀j,j<n->∀r,r<n->((λj r=>if j=n then row r else f j r) j r).natAbs<=2^240:=λj hj r hr'=>by
  show(if j=n then row r else f j r).natAbs<=_;rw[if_neg ⋯];exact hf j r hj hr'
 have hB:∀j,j<n+1->∀r,r<n->((λj r=>if j=n then row r else f j r) j r).natAbs<=2^200000:=λj hj r hr'=>by
  show(if j=n then row r else f j r).natAbs<=_;split
  ·exact hr r hr'
  ·exact Zp (hf j r ⋯ hr') (Zn (by decide) (by decide))
 have hL':det n (λj r=>if j=n then row r else f j r)≠0:=by
  rw[QW (k:=f) λj hj r _=>by rw[if_neg ⋯]];exact hL
 obtain⟨m,R,b,ec,C⟩:=hc n (n+1) _ n8 ⋯ hA hB hL';obtain⟨sb,sR⟩:=C.QtQ n8 hA hB;obtain⟨g,eg,g0,hg⟩:=hm ((List.range (n+1)).map (up (λi=>R i n) n b));have gb:g∣b:=(hg g).mp ⟨1,⋯⟩ b (ZN.mpr ⟨n,Ze.mpr ⋯,by rw[Qda,if_pos rfl]⟩);have gR:∀i,i<n->g∣R i n:=λi hi=>(hg g).mp ⟨1,⋯⟩ _ (ZN.mpr ⟨i,Ze.mpr ⋯,by rw[Qda,if_neg ⋯]⟩);have bz:=C.clr.nz;have gz:g≠0:=λz=>by rw[z]at gb;obtain⟨x,hx⟩:=gb;rw[ZA]at hx;exact bz hx
 obtain⟨p,hp⟩:∃p,p=if b<0 then 0-g else g:=⟨_,rfl⟩;have pz:p≠0:=by rw[hp];split<;>omega
 have pd:∀x,g∣x->∃y,x=p*y:=λx Z=>by
  obtain⟨y,hy⟩:=Z;rw[hp];split
  ·exact⟨-y,by rw[hy,ZY,Int.neg_mul_neg]⟩
  ·exact⟨y,hy⟩
 obtain⟨q,hq⟩:=pd b gb;have tp:∀i,∃y,i<n->R i n=p*y:=λi=>by
  by_cases h:i<n
  ·obtain⟨y,hy⟩:=pd _ (gR i h);exact⟨y,λ_=>hy⟩
  ·exact⟨0,λh'=>absurd h' h⟩
 have gle:g.natAbs<=b.natAbs:=Zal.mpr gb |> λh=>Zbw ⋯ h;have ple:p.natAbs<2^2000:=by rw[hp];split<;>omega
 have q0:0<q:=by
  by_cases h:b<0
  ·rw[if_pos h]at hp;refine ZP λz=>?_;have:=Int.mul_nonneg_of_nonpos_of_nonpos (a:=p) (b:=q) ⋯ ⋯;omega
  ·rw[if_neg h]at hp;refine ZP λz=>?_;have:=ZaW (a:=p) (b:=q) ⋯ ⋯;omega
 have qle:q.natAbs<2^2000:=by
  have:q∣b:=⟨p,by rw[hq,ZL]⟩;have:=Zbw ⋯ (Zal.mpr this);omega
 have low:∀t,t∣q->(∀l,l<n->t∣(tp l).choose)->t.natAbs=1:=λt tq all=>by
  have bg:p*t∣g:=(hg (p*t)).mpr λx hx=>by
   obtain⟨i,hi,rfl⟩:=ZN.mp hx;rw[Qda];split
   ·obtain⟨y,hy⟩:=tq;exact⟨y,by rw[hq,hy,Zq]⟩
   ·rename_i z;have hi':i<n:=by have:=Ze.mp hi;omega
    obtain⟨y,hy⟩:=all i hi';exact⟨y,by rw[(tp i).choose_spec hi',hy,Zq]⟩
  have pg:p.natAbs=g.natAbs:=by rw[hp];split<;>omega
  have h1:=Zbw ⋯ (Zal.mpr bg);rw[Zad,pg]at h1;have t0:t≠0:=λz=>by
   obtain⟨y,hy⟩:=tq;rw[z,ZA]at hy;omega
  have h2:t.natAbs<2:=by
   refine ZP λh=>?_;have h3:=Nat.mul_le_mul_left g.natAbs (show 2<=t.natAbs by omega);omega
  omega
 have tops_small:(∀r,r<n->(row r).natAbs<=2^240)->∀l,l<n->((tp l).choose).natAbs<2^2000:=λhr2 l hl=>by
  have h:=(tp l).choose_spec hl;have:=(C.small n8 λj hj r hr'=>by
   show(if j=n then row r else f j r).natAbs<=_;split
   ·exact hr2 r hr'
   ·exact hf j r ⋯ hr').2 l n hl ⋯
  by_cases z:(tp l).choose=0
  ·rw[z];exact ZO (Zai _) this
  ·have d:(tp l).choose∣R l n:=⟨p,by rw[ZL];exact h⟩;have nz:R l n≠0:=by rw[h];exact Int.mul_ne_zero pz z
   have:=Zbw ⋯ (Zal.mpr d);omega
 refine⟨λi=>(tp i).choose,q,QN ?_,q0,qle,λr hr'=>?_,tops_small,low⟩
 ·refine rsa (Qd3 (n:=n) rfl rfl) ?_;refine Qx (QQ (Qw (r:=reT (.bl false)) ((Qb4 ((Qc8 rfl rfl).trans (by rw[Zj,Zt])) rfl rfl rfl).trans (by simp)) rfl) (λh=>by cases h) (λ_=>Qt ?_));have et:=ht n f ⋯;have eZ:QG (Qak (Qm 1 dt [] (Qa (Qh 0) Qe)) (Qh 1)) (.tp [1,2]) [none,none,none] QO (QS (Qh 1) (Qao (Qa (Qh 2) Qe))) [slF (Qc n n f),slF (Qb n row),slI n,none,none,none]=some (reT (Qc n (n+1) (λi j=>(λj r=>if j=n then row r else f j r) j i))):=by
   refine(QB (List.range n) (Qac (Qk (r:=⟨[Qc n n f],false,[]⟩) rfl et rfl) rfl rfl rfl) rfl λi hi=>⟨[none,slF (Qb n (λj=>f j i)),slI (row i)],rfl,reT (Qb (n+1) (up (λj=>f j i) n (row i))),Qlp rfl rfl rfl ⋯,rfl,rfl⟩).trans ?_;have eT:Qc n (n+1) (λi j=>(λj r=>if j=n then row r else f j r) j i)= .lst ((List.range n).map λi=>Qb (n+1) (up (λj=>f j i) n (row i))):=by
    unfold Qc;refine congrArg D.lst (ZF λi _=>?_);unfold Qb;exact congrArg D.lst (ZF λj _=>by rw[Qda])
   rw[eT]
  refine run_seq (Qz ((Qbh (Qr eZ (QK _)) ec rfl).trans rfl) ?_);refine rsa (Qk rfl (hl n (n+1) R n ⋯) rfl) ?_;refine rsa (Qk (Qr (Qlp rfl rfl rfl ⋯) (QK _)) (by show dm [Qb (n+1) (up (λi=>R i n) n b)]=_;rw[Qgk];exact eg) rfl) ?_;refine QaW (P:=λρ=>ρ=[slF (Qc n n f),slF (Qb n row),slI n,slF (.tup [Qc n (n+1) R,.int b]),slT (Qb n (λi=>R i n)),slI p]) ?_ ?_
  ·refine QQ (Qw (Qap rfl rfl rfl) rfl) (λh=>?_) (λh=>?_)
   ·refine run_seq (Qz rfl (Qt ?_));rw[QaJ,hp,if_pos (of_decide_eq_true h)];rfl
   ·refine Qt ?_;rw[hp,if_neg (of_decide_eq_false h)];rfl
  ·rintro ρ rfl;refine Qv (r:=reT (.tup [Qb n λi=>(tp i).choose,.int q])) ?_ ⟨rfl,rfl⟩;unfold QaP;refine(congrArg (λz=>Option.bind z _) (Qr (QB (List.range n) (Q1 rfl rfl) rfl λi hi=>⟨[none,slI (R i n),slI p],rfl,reT (.int (tp i).choose),QeT rfl rfl rfl rfl pz ple ((tp i).choose_spec (Ze.mp hi)),rfl,rfl⟩) (Qr (QeT rfl rfl rfl rfl pz ple hq) (QK _)))).trans ?_;rfl
 ·have t:=C.clr.tell (j:=n) ⋯ hr';have t:b*row r=sm n λl=>R l n*m l r:=by
   have e:(if n=n then row r else f n r)=row r:=if_pos rfl;rw[← e];exact t
  rw[QaU (g:=λl=>((tp l).choose*f l r)*p) λl hl=>by
   rw[C.clr.own l hl];show R l n*(if l=n then row r else f l r)=_;rw[if_neg ⋯,ZL _ p,← Zq,← (tp l).choose_spec hl],QmB,hq]at t
  refine Zah pz ?_;rw[← Zq,t,ZL]
def QmW(d:Den):Prop:=∀(m:Nat) (R L:Lpp) (f:Mt1),m<=8->Qa5 m R L->(∀j,j<m->(f j).natAbs<=2^200000)->∃c,d [QC m R L,Qb m f]=some (Qb m c,true)/\∀r,r<m-> -(2^67)<=Qf m (Qp m (Ql R L)) f c r/\Qf m (Qp m (Ql R L)) f c r<=2^67
theorem Qu6(ht:Qgf dt)(hs:QgN ds):QmW (Qq 3 (QiS dt ds)):=λm R L f m8 hw hf=>by
 have hg:=hw.good;have tp:=hw.tp;have et:=ht m R L ⋯ ⋯ hg.1 hg.2.1;generalize Qp m (Ql R L)=T at *;obtain⟨tops,q,es,q0,q1,hq,_⟩:=hs m (λi j=>0-T i j) f m8 (λj r hj hr=>by have:=tp.bnd j r hj hr;have:(2:Nat)^64<=2^240:=Zn (by decide) (by decide);omega) hf (Qhv (λj hj r hr=>by have:=tp.bnd j r hj hr;have:(2:Nat)^64<=2^200:=Zn (by decide) (by decide);omega) (QfU tp));refine⟨λl=>tops l / q,QN ?_,Qus m8 tp.bnd q0 hq⟩;refine rsa (Qk (Qr (Qk rfl et rfl) (Qr rfl (QK _))) es rfl) ?_;refine Qv (QB (List.range m) (Q1 rfl rfl) rfl λi _=>⟨[none,slI (tops i),slF (.tup [Qb m tops,.int q])],rfl,reI (tops i / q),Qna rfl rfl rfl rfl q0 q1,rfl,rfl⟩) ⟨rfl,rfl⟩
def Qix(d:Den):Prop:=∀(m:Nat) (R L:Lpp) (f:Mt1),0<m->m<=8->Qa5 m R L->(∀j,j<m->(f j).natAbs<=2^200000)->∃k v,d [QC m R L,Qb m f]=some (.tup [Qb m (Qf m (Qp m (Ql R L)) f k),Qb m k],true)/\Dbl m (Qp m (Ql R L)) v/\Rec m (Qp m (Ql R L)) v (Qf m (Qp m (Ql R L)) f k)/\Stb m (Qp m (Ql R L)) (Qf m (Qp m (Ql R L)) f k)/\∀j,j<m->0<=Qf m (Qp m (Ql R L)) f k j
set_option maxHeartbeats 0 in
theorem Qs6(hn:QgI dn)(hc:QmW dc)(ha:QmU da)(hd:Qja dd)(hs:Qkp ds):Qix (Qq 10 (QqZ dn dc da dd ds)):=λm R L f m0 m8 hw hf=>by
 have hg:=hw.good;have tp:=hw.tp;obtain⟨c,ec,bc⟩:=hc m R L f m8 hw hf;have ea:=ha m R L f c ⋯ ⋯ hg.1 hg.2.1;have ed:=hd m R L ⋯ ⋯ hg.1 hg.2.1;have sp:∀j,j<m->QcI R L j=0-Qp m (Ql R L) j j:=λj hj=>(hw.neg hj).symm;rw[show(Qb m λi=>2*QcI R L i)=Qb m λi=>2*(0-Qp m (Ql R L) i i)from congrArg D.lst (ZF λi hi=>by show D.int (2*QcI R L i)=D.int (2*(0-Qp m (Ql R L) i i));rw[sp i (Ze.mp hi)])]at ed;obtain⟨v,ev,hv⟩:=hs m R L (λi=>2*(0-Qp m (Ql R L) i i)) m0 ⋯ hw λj hj=>by
  have:=tp.neg j hj;have:=tp.bnd j j hj hj;have:(2:Int)^66<=2^200:=by decide
  omega
 have DD:Dbl m (Qp m (Ql R L)) v:=⟨hv⟩;have still:=hs m R L;generalize Qp m (Ql R L)=T at *;generalize hlow:Qf m T f c=low at *;have big:=λj hj=>DD.big (j:=j) hj;have hmo:∀j,j<m->2*(0-T j j)-Qf m T (λi=>2*(0-T i i)) v j=QM m T v j:=λj hj=>rfl;generalize hmore:QM m T v=mo at *;have vb:∀l,l<m->(v l).natAbs<2^2000:=QpE (N:=m) m8 (g:=mo) (λj hj r hr=>by have:=tp.bnd j r hj hr;have:(2:Nat)^64<=2^200:=Zn (by decide) (by decide);omega) (QfU tp) (λr hr=>by
  have b:=big r hr;have:=tp.neg r hr;have:=tp.bnd r r hr hr;have:(2:Nat)^66<=2^200:=Zn (by decide) (by decide);omega) λr hr=>by
  rw[← hmore,Qg3,Qbv,← Qbu];exact Qg λi _=>by rw[ZY,Zac]
 obtain⟨top,⟨i0,hi0,etop⟩,hmax,evmax⟩:=Qrh (m:=1+m) ⋯ (λi=>if i<1 then 0 else 0-low (i-1) / mo (i-1));have top0:0<=top:=by have:=hmax 0 ⋯;rw[if_pos ⋯]at this;exact this
 have topj:∀j,j<m->0-low j / mo j<=top:=λj hj=>by
  have:=hmax (j+1) ⋯;rw[if_neg ⋯,Zby]at this;exact this
 have mo0:∀j,j<m->0<mo j:=λj hj=>by have:=big j hj;have:=tp.neg j hj;omega
 have mo1:∀j,j<m->mo j<2^66:=λj hj=>by have:=big j hj;have:=tp.bnd j j hj hj;omega
 have topU:top<=2^67:=by
  rw[etop];split
  ·decide
  ·rename_i h;have hj:i0-1<m:= ⋯
   have b:=bc (i0-1) hj;have p:=mo0 (i0-1) hj;have: -(2^67)<=low (i0-1) / mo (i0-1):=by
    rw[Int.le_ediv_iff_mul_le p];have:=ZZ (show(1:Int)<=mo (i0-1) by omega) (show(0:Int)<=2^67 by decide);rw[Zak];omega
   omega
 have y0:∀j,j<m->0<=low j+top*mo j:=λj hj=>by
  have h1:=Zan (topj j hj) (show 0<=mo j from Int.le_of_lt (mo0 j hj));have h2:=ZaX (low j) (mo j);have h3:=ZI (low j) (by have:=mo0 j hj;omega:mo j≠0);rw[ZY,Zak,ZL (low j / mo j)]at h1;omega
 have hi:∀j,j<m->0<=low j+(top+1)*mo j/\low j+(top+1)*mo j<2^200:=λj hj=>by
  have h1:=y0 j hj;have h2:=mo0 j hj;have h3:=mo1 j hj;have h4:=Int.mul_le_mul (show top+1<=2^67+1 by omega) (show mo j<=2^66 by omega) ⋯ (by decide);have h5:(2:Int)^67+(2^67+1)*2^66<2^200:=by decide
  have h6:=(bc j hj).2;rw[ZQ,ZR]at h4 ⊢;omega
 obtain⟨u,eu,hu⟩:=still (λj=>low j+(top+1)*mo j) m0 ⋯ hw hi;have key:∀j,Qf m T (λj=>low j+(top+1)*mo j) u j=Qf m T f (λi=>c i-(top+1)*v i+u i) j:=λj=>by
  rw[← hlow,← hmore];unfold Qf;show f j+Qi m (λi=>c i*T i j)+(top+1)*QM m T v j+Qi m (λi=>u i*T i j)=f j+Qi m λi=>(c i-(top+1)*v i+u i)*T i j;rw[Qg3,Zac,← QP];have:(λi=>(c i-(top+1)*v i+u i)*T i j)=λi=>(c i*T i j+ -((top+1)*(v i*T i j)))+u i*T i j:=by
   funext i;rw[ZQ,Int.sub_mul,Zq];omega
  rw[this,Qat,Qat,Qbu];omega
 have row:Qb m (Qf m T (λj=>low j+(top+1)*mo j) u)=Qb m (Qf m T f (λi=>c i-(top+1)*v i+u i)):=congrArg D.lst (ZF λj _=>by rw[key j]);refine⟨λi=>c i-(top+1)*v i+u i,v,QN ?_,DD,⟨λj=>low j+top*mo j,u,y0,?_,λj _=>?_⟩,λj hj=>?_,λj hj=>?_⟩
 ·refine run_seq (Qde (Qk rfl (hn m R L [f]) rfl) ?_);refine rsa (Qk rfl ec rfl) ?_;refine rsa (Qk rfl ea rfl) ?_;refine rsa (Qk (Qr rfl (Qr (Qk rfl ed rfl) (QK _))) ev rfl) ?_;refine rsa (d:=Qb m mo) (QB (List.range m) (Qac (Qk rfl ed rfl) rfl rfl rfl) rfl λj hj=>⟨[none,slI (2*(0-T j j)),slI (Qf m T (λi=>2*(0-T i i)) v j)],rfl,reI (2*(0-T j j)-Qf m T (λi=>2*(0-T i i)) v j),rfl,by rw[← hmo j (Ze.mp hj)],rfl⟩) ?_;refine rsa (Qad (evmax (QkS rfl rfl (QB (List.range m) (Qac rfl rfl rfl rfl) rfl λj hj=>⟨[none,slI (low j),slI (mo j)],rfl,reI (0-low j / mo j),Qdf rfl rfl (Qna rfl rfl rfl rfl (mo0 j (Ze.mp hj)) (by have:=mo0 j (Ze.mp hj);have:=mo1 j (Ze.mp hj);have:(2:Nat)^66<=2^2000:=Zn (by decide) (by decide);omega)) rfl,rfl,rfl⟩) rfl ⋯) rfl) rfl rfl rfl) ?_;refine rsa (QB (List.range m) (Qac rfl rfl rfl rfl) rfl λj hj=>⟨[none,slI (low j),slI (mo j),slI (top+1)],rfl,reI (low j+(top+1)*mo j),Qad rfl rfl (Qan rfl rfl rfl rfl (QcO (Qa6 (by have:(2:Nat)^68<=2^2000:=Zn (by decide) (by decide);omega)) (Qa6 (by have:=mo0 j (Ze.mp hj);have:=mo1 j (Ze.mp hj);have:(2:Nat)^66<=2^2000:=Zn (by decide) (by decide);omega)))) rfl,rfl,rfl⟩) ?_;refine rsa (Qk rfl eu rfl) ?_;refine run_seq (Qz (QB (List.range m) (QkO rfl rfl rfl rfl rfl rfl) rfl λi hi=>⟨[none,slI (c i),slI (v i),slI (u i),slI (top+1)],rfl,reI (c i-(top+1)*v i+u i),Qad (Qdf rfl rfl (Qan rfl rfl rfl rfl ?_) rfl) rfl rfl rfl,rfl,rfl⟩) ?_)
  rotate_left
  ·rw[QaJ];refine Qv (r:=⟨.tup [Qb m (Qf m T (λj=>low j+(top+1)*mo j) u),Qb m λi=>c i-(top+1)*v i+u i],true,[8,9]⟩) rfl ⟨by rw[row],rfl⟩
  ·exact QcO (Qa6 (by have:(2:Nat)^68<=2^2000:=Zn (by decide) (by decide);omega)) (Qa6 (vb i (Ze.mp hi)))
 ·refine⟨hu.leg.QoA λj hj=>?_,λj hj=>?_,λj hj=>?_⟩
  ·show _=low j+top*mo j+QM m T v j;rw[hmore,ZQ,ZR];omega
  ·have:=hu.pos j hj;rw[QaN (g:=λj=>low j+top*mo j+QM m T v j) j (by show _=low j+top*mo j+QM m T v j;rw[hmore,ZQ,ZR];omega) λi _=>rfl]at this;exact this
  ·have:=hu.stb j hj;rw[QaN (g:=λj=>low j+top*mo j+QM m T v j) j (by show _=low j+top*mo j+QM m T v j;rw[hmore,ZQ,ZR];omega) λi _=>rfl]at this;exact this
 ·rw[← key j];exact QaN j (by show _=low j+top*mo j+QM m T v j;rw[hmore,ZQ,ZR];omega) λi _=>rfl
 ·rw[← key j];exact hu.stb j hj
 ·rw[← key j];exact hu.pos j hj
theorem QBN.small(h:Qix d):QhF d:=λm R L f m0 m8 hw hf=>h m R L f m0 m8 hw λj hj=>Zp (hf j hj) (Zn (by decide) (by decide))
theorem QxB.g(h:QgN d):QnB d:=λn f row n8 hf hr hL=>by
 obtain⟨tops,q,e,q0,ql,hq,ht,hc⟩:=h n f row n8 hf (λr hr'=>Zp (hr r hr') (Zn (by decide) (by decide))) hL;exact⟨tops,q,e,q0,ql,hq,ht hr,hc⟩
theorem Qvw.g(h:QfI d):QfL d:=λn N A n8 hN hA=>h n N A n8 hN (λj hj=>hA j ⋯) λj hj r hr=>Zp (hA j hj r hr) (Zn (by decide) (by decide))
theorem Shared.small(h:QnB d):QkU d:=λn f row n8 hf hr hl=>by
 have up:(2:Nat)^200<=2^240:=Zn (by decide) (by decide);obtain⟨tops,q,e,q0,ql,hq,ht,hc⟩:=h n f row n8 (λj r hj hr'=>Zp (hf j r hj hr') up) (λr hr'=>Zp (hr r hr') up) (Qhv (λj hj r hr'=>hf j r hj hr') hl);refine⟨tops,q,e,q0,ql,hq,ht,λne=>ZP λz=>ne ?_⟩;have:=hc q (Int.dvd_refl q) λl hl=>ZP λy=>z ⟨l,hl,y⟩;omega
structure QaK (m n0:Nat) (T Lf Rt Lb Rb:Mt2) (len:Mt1):Prop where
 le:n0<=m
 sm:QfQ m (QaO T) Lf Rt Lb Rb len
 one:∀j,j<n0->len j=1
 big:∀j,n0<=j->j<m->1<len j
 bR:QaM m 130000 Rt
 bB:QaM m 130000 Rb
 ll:∀j,j<m->(len j).natAbs<2^1999
def QhV(dr:Den)(m:Nat)(T Lf Rt Lb Rb:Mt2)(len:Mt1):Prop:=dr [Qc m m (QaO T)]=some (.tup [Qc m m Lf,Qc m m (Qaq len),Qc m m Rt,Qc m m Lb,Qc m m Rb],false)
theorem Qml{len:Mt1}:∀(m:Nat),(∀j,j<m->0<len j)->(∀j,j+1<m->len j∣len (j+1))->∃n0,n0<=m/\(∀j,j<n0->len j=1)/\∀j,n0<=j->j<m->1<len j
 | 0,_,_=>⟨0,Zh _,λj hj=> ⋯,λj _ hj=> ⋯⟩
 | m+1,hp,hn=>by
  obtain⟨n0,h1,h2,h3⟩:=Qml m (λj hj=>hp j ⋯) λj hj=>hn j ⋯;by_cases e:n0=m
  ·subst e;by_cases z:len n0=1
   ·exact⟨n0+1,Zh _,λj hj=>by
     by_cases q:j=n0
     ·rw[q];exact z
     ·exact h2 j ⋯,λj a b=> ⋯⟩
   ·exact⟨n0,⋯,h2,λj a b=>by rw[show j=n0 by omega];have:=hp n0 ⋯;omega⟩
  ·refine⟨n0,⋯,h2,λj a b=>?_⟩;by_cases q:j=m
   ·subst q;have d:=hn (j-1) ⋯;rw[show j-1+1=j by omega]at d;have b1:=h3 (j-1) ⋯ ⋯;have:=Int.le_of_dvd (hp j ⋯) d;omega
   ·exact h3 j a ⋯
theorem Qa5.QBt{m:Nat}{R L:Lpp}(hw:Qa5 m R L):(det m λj i=>QaO (Qp m (Ql R L)) i j)≠0:=by
 rw[Qld];exact Qhv hw.big (QfU hw.tp)
theorem Qs0{dr:Den}(hr:QjZ dr){m:Nat}{R L:Lpp}(m0:0<m)(m8:m<=8)(hw:Qa5 m R L):∃n0 Lf Rt Lb Rb len,QaK m n0 (Qp m (Ql R L)) Lf Rt Lb Rb len/\QhV dr m (Qp m (Ql R L)) Lf Rt Lb Rb len:=by
 obtain⟨Lf,Rt,Lb,Rb,len,e,sm,_,b2,_,b4,ll⟩:=hr m (QaO (Qp m (Ql R L))) m0 m8 (λi j hi hj=>Zp (hw.big i hi j hj) (Zn (by decide) (by decide))) hw.QBt;obtain⟨n0,h1,h2,h3⟩:=Qml m sm.pos sm.nxt;exact⟨n0,Lf,Rt,Lb,Rb,len,⟨h1,sm,h2,h3,b2,b4,ll⟩,e⟩
theorem Qiu{len:Mt1}{m n0:Nat}(h1:n0<=m)(h2:∀j,j<n0->len j=1)(h3:∀j,n0<=j->j<m->1<len j):(List.range m).filter (λj=>decide (1<len j))=(List.range (m-n0)).map (n0+ ·):=by
 rw[show m=n0+(m-n0) by omega,List.range_add,List.filter_append,List.filter_eq_nil_iff.mpr λj hj=>?_,Zbk,ZbT.mpr λj hj=>?_]
 ·rw[show n0+(m-n0)-n0=m-n0 by omega]
 ·obtain⟨i,hi,rfl⟩:=ZN.mp hj;have:=h3 (n0+i) ⋯ (by have:=Ze.mp hi;omega);simpa using this
 ·rw[h2 j (Ze.mp hj)];decide
noncomputable def Qgn:DS:=(Qd (QH (QG (Qct vv0) (.tp [1,2]) [none,none,none] QO (Qn vv2 vv1))) Qo)
def Ql3(d:Den):Prop:=∀(n:Nat) (len:Mt1),d [Qc n n (Qaq len)]=some (Qb n len,true)
theorem QBi:Ql3 (Qq 1 Qgn):=λn len=>
 QN (Qv (QB (List.range n) (Qqd rfl rfl) rfl λi hi=>⟨[none,slI i,slF (Qb n (Qaq len i))],rfl,reI (len i),(Qae rfl rfl rfl rfl (Ze.mp hi)).trans (by unfold Qaq idF;rw[if_pos rfl,ZU]),rfl,rfl⟩) ⟨rfl,rfl⟩)
noncomputable def Qa4(len:Mt1)(n0:Nat):Nat->Int:=λj=>len (n0+j)
noncomputable def Q8(m:Nat)(Rt:Mt2)(f:Mt1)(j:Nat):Int:=Qi m λi=>f i*Rt i j
noncomputable def QT(m n0:Nat)(Rt:Mt2)(len:Mt1)(f:Mt1):Nat->Int:=λj=>Q8 m Rt f (n0+j) % len (n0+j)
def QhM(d:Den):Prop:=∀(m:Nat) (R L:Lpp),m<=8->Qa5 m R L->d [QC m R L]=some (Qc m m (QaO (Qp m (Ql R L))),true)
theorem Qke(h:Qgf d):QhM d:=λm R L m8 hw=>by
 have hg:=hw.good;exact h m R L ⋯ ⋯ hg.1 hg.2.1
noncomputable def Qhy(QX:Den)(QZ:Den)(Q4:Den):DS:=(Qd (Qs 1 (Qm 1 QZ [] (Qa (Qm 1 QX [] (Qa vv0 Qe)) Qe))) (Qd (QH (QG (Q2 (Qm 1 Q4 [] (Qa (Qn vv1 kk1) Qe))) (.nm 1) [none,none] (QD (dOp gGt vv1 kk1)) vv1)) Qo))
def QoF(dr d:Den):Prop:=∀(m:Nat) (R L:Lpp) (n0:Nat) (Lf Rt Lb Rb:Mt2) (len:Mt1),m<=8->Qa5 m R L->QaK m n0 (Qp m (Ql R L)) Lf Rt Lb Rb len->QhV dr m (Qp m (Ql R L)) Lf Rt Lb Rb len->d [QC m R L]=some (Qb (m-n0) (Qa4 len n0),true)
theorem Qzo{dt dr dm:Den}(ht:QhM dt)(hm:Ql3 dm):QoF dr (Qq 2 (Qhy dt dr dm)):=λm R L n0 Lf Rt Lb Rb len m8 hw nr re=>by
 have et:=ht m R L m8 hw;generalize Qp m (Ql R L)=T at *;refine QN ?_;refine run_seq (Qz ((Qbh (Qr (Qk (r:=⟨[QC m R L],false,[]⟩) rfl et rfl) (QK _)) re rfl).trans rfl) ?_);change Nx _ (.nx [slF (QC m R L),slF (.tup [Qc m m Lf,Qc m m (Qaq len),Qc m m Rt,Qc m m Lb,Qc m m Rb])]);refine Qv (r:=reT (Qb (m-n0) (Qa4 len n0))) ?_ ⟨rfl,rfl⟩;refine(Qdo (List.range m) (Q1 (Qk (r:=⟨[Qc m m (Qaq len)],false,[]⟩) rfl (hm m len) rfl) rfl) rfl λi hi=>⟨[none,slI (len i)],rfl,rfl,λ_=>⟨(reI (len i)),rfl,rfl,rfl⟩⟩).trans ?_;rw[Qiu nr.le nr.one nr.big,Zaj];rfl
noncomputable def Qji(Q3:Den)(QX:Den)(QZ:Den)(Q5:Den)(Qbp:Den)(Q4:Den):DS:=(Qd (Qdp (Qm 2 Q3 [] (Qa vv0 (Qa (Qao (Qa vv1 Qe)) Qe)))) (Qd (Qs 2 (Qm 1 QZ [] (Qa (Qm 1 QX [] (Qa vv0 Qe)) Qe))) (Qd (Qs 3 (Qm 2 Qbp [] (Qa vv1 (Qa (Qm 1 Q5 [] (Qa (Qn vv2 kk2) Qe)) Qe)))) (Qd (QH (QG (Qak vv3 (Qm 1 Q4 [] (Qa (Qn vv2 kk1) Qe))) (.tp [1,2]) [none,none,none] (QD (dOp gGt vv2 kk1)) (dOp Qa0 vv1 vv2))) Qo))))
def Qlj(dr d:Den):Prop:=∀(m:Nat) (R L:Lpp) (n0:Nat) (Lf Rt Lb Rb:Mt2) (len f:Mt1),m<=8->Qa5 m R L->QaK m n0 (Qp m (Ql R L)) Lf Rt Lb Rb len->QhV dr m (Qp m (Ql R L)) Lf Rt Lb Rb len->(∀i,i<m->Qbd (f i))->d [QC m R L,Qb m f]=some (Qb (m-n0) (QT m n0 Rt len f),true)
theorem QuQ{dn dt dr du dl dm:Den}(hn:QgI dn)(ht:QhM dt)(hu:QcJ du)(hl:Qga dl)(hm:Ql3 dm):Qlj dr (Qq 4 (Qji dn dt dr du dl dm)):=λm R L n0 Lf Rt Lb Rb len f m8 hw nr re hf=>by
 have et:=ht m R L m8 hw;have en:=hn m R L [f];generalize Qp m (Ql R L)=T at *;refine QN ?_;refine run_seq (Qde (Qk rfl en rfl) ?_);refine run_seq (Qz ((Qbh (Qr (Qk (r:=⟨[QC m R L],false,[]⟩) rfl et rfl) (QK _)) re rfl).trans rfl) ?_);change Run _ [slF (QC m R L),slF (Qb m f),slF (.tup [Qc m m Lf,Qc m m (Qaq len),Qc m m Rt,Qc m m Lb,Qc m m Rb]),none] _;refine rsa (Qk (Qr (r:=reF (Qb m f)) rfl (Qr (Qk (r:=⟨[Qc m m Rt],false,[]⟩) rfl (hu m Rt ⋯) rfl) (QK _))) (hl m m f (λj i=>Rt i j) hf λj i hj hi=>nr.bR.bits (by decide) i j hi hj) rfl) ?_;change Run _ [slF (QC m R L),slF (Qb m f),slF (.tup [Qc m m Lf,Qc m m (Qaq len),Qc m m Rt,Qc m m Lb,Qc m m Rb]),slT (Qb m (Q8 m Rt f))] _;refine Qv (r:=reT (Qb (m-n0) (QT m n0 Rt len f))) ?_ ⟨rfl,rfl⟩;refine(Qdo (List.range m) (Qac rfl rfl (Qk (r:=⟨[Qc m m (Qaq len)],false,[]⟩) rfl (hm m len) rfl) rfl) rfl λi hi=>⟨[none,slI (Q8 m Rt f i),slI (len i)],rfl,rfl,λ_=>⟨(reI (Q8 m Rt f i % len i)),QaZ rfl rfl rfl rfl (nr.sm.pos i (Ze.mp hi)),rfl,rfl⟩⟩).trans ?_;rw[Qiu nr.le nr.one nr.big,Zaj];rfl
noncomputable def Qew:DS:=(Qd (sIf (QD (dOp gNe (dBf Qaa (Qa vv0 Qe)) (dBf Qaa (Qa vv1 Qe)))) (Qd Qy Qo) Qo) (Qd (Qa7 (Qak vv0 vv1) (.tp [2,3]) (Qd (sIf (bOr (QD (dOp gLt vv2 kk0)) (QD (dOp gGe vv2 vv3))) (Qd Qy Qo) Qo) Qo)) Qo))
def Qk2(d:Den):Prop:=∀(k:Nat) (p l:Mt1),(∀j,j<k->0<=p j/\p j<l j)->d [Qb k p,Qb k l]=some (.non,true)
theorem QtZ:Qk2 (Qq 4 Qew):=λk p l h=>by
 have key:Run Qew (QaQ 4 [Qb k p,Qb k l]) (Nx λ_=>True):=by
  refine run_seq (QQ (Qw (r:=reT (.bl false)) ((Qb4 (QcP rfl rfl) rfl (QcP rfl rfl) rfl).trans (by simp)) rfl) (λh=>by cases h) (λ_=>Qt ?_));refine run_seq (Qah (List.range k) (λ_ ρ=>∃j2 j3,ρ=[slF (Qb k p),slF (Qb k l),j2,j3]) (Qac rfl rfl rfl rfl) rfl ⟨none,none,rfl⟩ ?_ ?_)
  ·rintro i i' ρ hi ⟨j2,j3,rfl⟩;obtain⟨hik,rfl⟩:=QbF hi;refine⟨[slF (Qb k p),slF (Qb k l),slI (p i),slI (l i)],rfl,?_⟩;have:=h i hik;exact run_seq (QQ (b:=false) ((Qav (Qw (Qap rfl rfl rfl) rfl) (Qw (Qap rfl rfl rfl) rfl)).trans (by rw[decide_eq_false ⋯,decide_eq_false ⋯];rfl)) (λh=>by cases h) (λ_=>Qt (Qt ⟨_,_,rfl⟩)))
  ·rintro ρ ⟨j2,j3,rfl⟩;exact Qt trivial
 obtain⟨o,h1,h2⟩:=key;cases o with
 | nx ρ=>show Option.bind (Qew (QaQ 4 [Qb k p,Qb k l])) outD=_;rw[h1];rfl
 | _=>exact h2.elim
noncomputable def Qes(m n0:Nat)(Rb:Mt2)(p:Mt1):Nat->Int:=Q8 m Rb λi=>if i<n0 then 0 else p (i-n0)
noncomputable def QnF(QX:Den)(QZ:Den)(Q4:Den)(Qcs:Den)(Q5:Den)(Qbp:Den)(Qbl:Den):DS:=(Qd (Qs 2 (Qm 1 QZ [] (Qa (Qm 1 QX [] (Qa vv0 Qe)) Qe))) (Qd (Qs 3 (Qm 1 Q4 [] (Qa (Qn vv2 kk1) Qe))) (Qd (Qdp (Qm 2 Qcs [] (Qa vv1 (Qa (QG (Q2 vv3) (.nm 1) [none,none] (QD (dOp gGt vv1 kk1)) vv1) Qe)))) (Qd (Qs 4 (QS (Q7 (Qao (Qa kk0 Qe)) (dOp QaG (dBf Qaa (Qa vv3 Qe)) (dBf Qaa (Qa vv1 Qe)))) vv1)) (Qd (QH (Qn (Qm 2 Qbl [] (Qa vv0 (Qa (Qm 2 Qbp [] (Qa vv4 (Qa (Qm 1 Q5 [] (Qa (Qn vv2 kk4) Qe)) Qe))) Qe))) kk0)) Qo)))))
def Qll(dr d:Den):Prop:=∀(m:Nat) (R L:Lpp) (n0:Nat) (Lf Rt Lb Rb:Mt2) (len p:Mt1),0<m->m<=8->Qa5 m R L->QaK m n0 (Qp m (Ql R L)) Lf Rt Lb Rb len->QhV dr m (Qp m (Ql R L)) Lf Rt Lb Rb len->(∀j,j<m-n0->0<=p j/\p j<Qa4 len n0 j)→
 ∃k,d [QC m R L,Qb (m-n0) p]=some (Qb m (Qf m (Qp m (Ql R L)) (Qes m n0 Rb p) k),true)/\Qhs m (Qp m (Ql R L)) (Qes m n0 Rb p) k
theorem QtW(ht:QhM dt)(hm:Ql3 dm)(hn:Qk2 dn)(hu:QcJ du)(hl:Qga dl)(ha:Qix da):Qll dr (Qq 5 (QnF dt dr dm dn du dl da)):=λm R L n0 Lf Rt Lb Rb len p m0 m8 hw nr re hp=>by
 have et:=ht m R L m8 hw;have bsp:∀i,i<m->(if i<n0 then(0:Int)else p (i-n0)).natAbs<=2^1999:=λi hi=>by
  split
  ·exact Zai _
  ·rename_i z;have h1:=hp (i-n0) ⋯;have h2:=nr.ll i hi;have h3:Qa4 len n0 (i-n0)=len i:=by unfold Qa4;rw[show n0+(i-n0)=i by omega]
   rw[h3]at h1;omega
 have bits:∀i,i<m->Qbd (if i<n0 then(0:Int)else p (i-n0)):=λi hi=>Qa6 (ZO (bsp i hi) (Nat.pow_lt_pow_right (by decide) (by decide)));have bf:∀j,j<m->(Qes m n0 Rb p j).natAbs<=2^200000:=λj hj=>by
  have h1:(Qes m n0 Rb p j).natAbs<=m*(2^1999*2^130000):=Qlo λi hi=>by
   rw[Zad];exact ZaU (bsp i hi) (nr.bB i j hi hj)
  refine Zp h1 (Zp (Zbq _ m8) ?_);rw[← Nat.pow_add,show(8:Nat)=2^3 from rfl,← Nat.pow_add];exact Zn (by decide) (by decide)
 obtain⟨k,v,ek,h1,h2,h3,h4⟩:=ha m R L (Qes m n0 Rb p) m0 m8 hw bf;refine⟨k,QN ?_,⟨⟨v,h1,h2⟩,h3,h4⟩⟩;generalize Qp m (Ql R L)=T at *;refine run_seq (Qz ((Qbh (Qr (Qk (r:=⟨[QC m R L],false,[]⟩) rfl et rfl) (QK _)) re rfl).trans rfl) ?_);change Run _ [slF (QC m R L),slF (Qb (m-n0) p),slF (.tup [Qc m m Lf,Qc m m (Qaq len),Qc m m Rt,Qc m m Lb,Qc m m Rb]),none,none] _;refine rsa (Qk rfl (hm m len) rfl) ?_;change Run _ [slF (QC m R L),slF (Qb (m-n0) p),slF (.tup [Qc m m Lf,Qc m m (Qaq len),Qc m m Rt,Qc m m Lb,Qc m m Rb]),slT (Qb m len),none] _;have ec:QG (Q2 (Qh 3)) (.nm 1) [none,none] (QD (dOp gGt (Qh 1) (dC (.int 1)))) (Qh 1) [slF (QC m R L),slF (Qb (m-n0) p),slF (.tup [Qc m m Lf,Qc m m (Qaq len),Qc m m Rt,Qc m m Lb,Qc m m Rb]),slT (Qb m len),none]=some (reT (Qb (m-n0) (Qa4 len n0))):=by
  refine(Qdo (List.range m) (Q1 rfl rfl) rfl λi hi=>⟨[none,slI (len i)],rfl,rfl,λ_=>⟨(reI (len i)),rfl,rfl,rfl⟩⟩).trans ?_;rw[Qiu nr.le nr.one nr.big,Zaj];rfl
 refine run_seq (Qde (Qk (Qr rfl (Qr ec (QK _))) (hn (m-n0) p (Qa4 len n0) hp) rfl) ?_);have le:=nr.le;have erep:=Qev (fb:=dOp QaG (dBf Qaa (Qa (Qh 3) Qe)) (dBf Qaa (Qa (Qh 1) Qe))) (ρ:=[slF (QC m R L),slF (Qb (m-n0) p),slF (.tup [Qc m m Lf,Qc m m (Qaq len),Qc m m Rt,Qc m m Lb,Qc m m Rb]),slT (Qb m len),none]) (z:=0) ((Qdf (QcP rfl rfl) rfl (QcP rfl rfl) rfl).trans (by rw[show(m:Int)-((m-n0:Nat):Int)=n0 by omega])) rfl ⋯;refine rsa ((QkS erep rfl rfl rfl ⋯).trans (by rw[show n0+(m-n0)=m by omega])) ?_;change Run _ [slF (QC m R L),slF (Qb (m-n0) p),slF (.tup [Qc m m Lf,Qc m m (Qaq len),Qc m m Rt,Qc m m Lb,Qc m m Rb]),slT (Qb m len),slT (Qb m (λi=>if i<n0 then 0 else p (i-n0)))] _;have eb:Qm 2 dl [] (Qa (Qh 4) (Qa (Qm 1 du [] (Qa (Qn (Qh 2) (dC (.int 4))) Qe)) Qe)) [slF (QC m R L),slF (Qb (m-n0) p),slF (.tup [Qc m m Lf,Qc m m (Qaq len),Qc m m Rt,Qc m m Lb,Qc m m Rb]),slT (Qb m len),slT (Qb m (λi=>if i<n0 then 0 else p (i-n0)))]=some (reT (Qb m (Qes m n0 Rb p))):=Qk (Qr rfl (Qr (Qk rfl (hu m Rb ⋯) rfl) (QK _))) (hl m m _ (λj i=>Rb i j) bits λj i hj hi=>nr.bB.bits (by decide) i j hi hj) rfl;exact Qv (QfW (Qk (Qr rfl (Qr eb (QK _))) ek rfl) rfl).1 ⟨rfl,rfl⟩
section
variable {m n0:Nat}{T Lf Rt Lb Rb:Mt2}{len:Mt1}
theorem QfQ.ar{n:Nat}{f Lf R Lb Rb:Mt2}{len:Mt1}(h:QfQ n f Lf R Lb Rb len){i j:Nat}(hi:i<n)(hj:j<n):prodF n f R i j=Lb i j*len j:=by
 have e1:prodF n Lb (prodF n (prodF n Lf f) R) i j=prodF n f R i j:=by
  rw[QaC n Lf f R,← QaC,Qar (a':=idF) (b':=prodF n f R) (λk hk=>h.v2 i k hi hk) (λ_ _=>rfl),Qcc _ _ hi]
 rw[← e1];show(Qi n λk=>Lb i k*prodF n (prodF n Lf f) R k j)=_;rw[Qbs hj λk hk ne=>by rw[h.mid k j hk hj];unfold idF;rw[if_neg ne,ZC,ZC],h.mid j j hj hj];unfold idF;rw[if_pos rfl,ZU]
theorem QfQ.la{n:Nat}{f Lf R Lb Rb:Mt2}{len:Mt1}(h:QfQ n f Lf R Lb Rb len){i j:Nat}(hi:i<n)(hj:j<n):prodF n Lf f i j=len i*Rb i j:=by
 have e1:prodF n (prodF n (prodF n Lf f) R) Rb i j=prodF n Lf f i j:=by
  rw[QaC,Qar (a':=prodF n Lf f) (b':=idF) (λ_ _=>rfl) (λk hk=>h.u1 k j hk hj),Qgb _ _ hj]
 rw[← e1];show(Qi n λk=>prodF n (prodF n Lf f) R i k*Rb k j)=_;rw[Qbs hi λk hk ne=>by rw[h.mid i k hi hk];unfold idF;rw[if_neg (Ne.symm ne),ZC,ZA],h.mid i i hi hi];unfold idF;rw[if_pos rfl,ZU]
theorem Qvs(f g:Mt1)(x y:Int)(j:Nat):Q8 m Rt (λi=>x*f i+y*g i) j=x*Q8 m Rt f j+y*Q8 m Rt g j:=by
 unfold Q8;exact Qf2 m x y f g λi=>Rt i j
theorem QwK(nr:QaK m n0 T Lf Rt Lb Rb len)(f c:Mt1){j:Nat}(hj:j<m):len j∣Q8 m Rt (Qf m T f c) j-Q8 m Rt f j:=by
 have e:Q8 m Rt (Qf m T f c) j-Q8 m Rt f j= -Qi m λl=>c l*prodF m (QaO T) Rt l j:=by
  unfold Q8;rw[← Qio,Qg (g:=λi=>Qi m λl=>c l*(T l i*Rt i j)) λi _=>by
   unfold Qf;rw[ZQ,← Qeb,Qg λl _=>Zq _ _ _];omega,Qbn,← Qbu]
  refine Qg λl _=>?_;rw[QP,← Zac];congr 1;show _= -Qi m λi=>QaO T l i*Rt i j;rw[← Qbu];exact Qg λi _=>by unfold QaO;rw[ZY,Zak,Zbh]
 rw[e];exact Int.dvd_neg.mpr (QdX λl hl=>Int.dvd_mul_of_dvd_right (by rw[nr.sm.ar hl hj];exact Int.dvd_mul_left _ _))
theorem Quq(nr:QaK m n0 T Lf Rt Lb Rb len)(s:Mt1){j:Nat}(hj:j<m):Q8 m Rt (Q8 m Rb s) j=s j:=by
 have e:Q8 m Rt (Q8 m Rb s) j=Qi m λi=>s i*prodF m Rb Rt i j:=by
  unfold Q8 prodF;rw[Qg (g:=λl=>Qi m λi=>s i*(Rb i l*Rt l j)) λl _=>by rw[← Qeb];exact Qg λi _=>Zq _ _ _,Qbn];exact Qg λi _=>QP m _ _
 rw[e,Qbs hj λi hi ne=>by rw[nr.sm.u2 i j hi hj];unfold idF;rw[if_neg ne,ZC],nr.sm.u2 j j hj hj];unfold idF;rw[if_pos rfl,ZU]
theorem QtK(nr:QaK m n0 T Lf Rt Lb Rb len){y:Mt1}(h:∀j,j<m->len j∣Q8 m Rt y j):∃c:Nat->Int,∀r,r<m->y r=Qi m λl=>c l*QaO T l r:=by
 obtain⟨z,hz⟩:∃z:Nat->Int,∀j,j<m->Q8 m Rt y j=len j*z j:=⟨λj=>Q8 m Rt y j / len j,λj hj=>(Int.mul_ediv_cancel' (h j hj)).symm⟩;refine⟨λl=>Qi m λj=>z j*Lf j l,λr hr=>?_⟩;have e1:(Qi m λj=>Q8 m Rt y j*Rb j r)=y r:=by
  have:(Qi m λj=>Q8 m Rt y j*Rb j r)=Qi m λi=>y i*prodF m Rt Rb i r:=by
   unfold Q8 prodF;rw[Qg (g:=λj=>Qi m λi=>y i*(Rt i j*Rb j r)) λj _=>by rw[← Qeb];exact Qg λi _=>Zq _ _ _,Qbn];exact Qg λi _=>QP m _ _
  rw[this,Qbs hr λi hi ne=>by rw[nr.sm.u1 i r hi hr];unfold idF;rw[if_neg ne,ZC],nr.sm.u1 r r hr hr];unfold idF;rw[if_pos rfl,ZU]
 rw[← e1];have e2:(Qi m λl=>(Qi m λj=>z j*Lf j l)*QaO T l r)=Qi m λj=>z j*prodF m Lf (QaO T) j r:=by
  unfold prodF;rw[Qg (g:=λl=>Qi m λj=>z j*(Lf j l*QaO T l r)) λl _=>by rw[← Qeb];exact Qg λj _=>Zq _ _ _,Qbn];exact Qg λj _=>QP m _ _
 show _=Qi m λl=>(Qi m λj=>z j*Lf j l)*QaO T l r;rw[e2];exact Qg λj hj=>by rw[hz j hj,nr.sm.la hj hr];grind
theorem QtI(nr:QaK m n0 T Lf Rt Lb Rb len){f g:Mt1}(h:∀j,j<m-n0->QT m n0 Rt len f j=QT m n0 Rt len g j):∀j,j<m->len j∣Q8 m Rt f j-Q8 m Rt g j:=λj hj=>by
 by_cases z:j<n0
 ·rw[nr.one j z];exact Int.one_dvd _
 ·have e:=h (j-n0) ⋯;unfold QT at e;rw[show n0+(j-n0)=j by omega]at e;have h1:=ZaX (Q8 m Rt f j) (len j);have h2:=ZaX (Q8 m Rt g j) (len j);exact⟨Q8 m Rt f j / len j-Q8 m Rt g j / len j,by rw[ZbP];omega⟩
end
end HS
namespace HS
open PySem L2
def Qlq(d:Den):Prop:=∀(m:Nat) (T:Mt2) (a b:Mt1) (s:D),0<m->m<=8->(∀i j,i<m->j<m->(T i j).natAbs<2^64)->(∀j,j<m->(a j).natAbs<=2^190)->(∀j,j<m->(b j).natAbs<=2^190)->QpF m T a b s->d [s,Qc m m T,Qb m a,Qb m b]=some (.bl true,true)
theorem QsL:(D.str "alike").sim 8=true:=by decide+kernel
theorem QwT:(D.str "apart").sim 8=true:=by decide+kernel
theorem QpI:deq (.str "apart") (.str "alike")=false:=by decide+kernel
noncomputable def QhJ:DS:=(Qd (QH (QG (QaY vv2) (.nm 1) [none,none,some 0,some 3,some 1] QO (dOp QaG (dOp Qa0 (Qn vv2 (QS vv4 vv1)) (QS (Q7 kk2 vv3) kk1)) vv3))) Qo)
theorem QjG:∀xs ys:List Int,PyData.eqvAll (pys (xs.map D.int)) (pys (ys.map D.int))=decide (xs=ys)
 | [],[]=>rfl
 | [],y::ys=>rfl
 | x::xs,[]=>rfl
 | x::xs,y::ys=>by
  have ih:=QjG xs ys;show(PyData.eqv (D.int x).py (D.int y).py && PyData.eqvAll (pys (xs.map D.int)) (pys (ys.map D.int)))=_;rw[ih];show((x == y) && decide (xs=ys))=_;by_cases a:x=y
  ·subst a;by_cases b:xs=ys
   ·subst b;simp
   ·simp[b]
  ·simp[a]
theorem Qvz:deq (Qb m f) (Qb k g)=decide ((List.range m).map f=(List.range k).map g):=by
 rw[Qgk,Qgk];exact QjG _ _
theorem Qyn{m:Nat}{f g:Mt1}:(List.range m).map f=(List.range m).map g↔∀j,j<m->f j=g j:=by
 constructor
 ·intro h j hj;have:=congrArg (λl:List Int=>l[j]?) h;simpa[hj]using this
 ·intro h;exact ZF λj hj=>h j (Ze.mp hj)
theorem Qzs(ha:fa ρ=some ra)(ea:ra.d=Qb m f)(hb:fb ρ=some rb)(eb:rb.d=Qb m g):∃b,dOp gEq fa fb ρ=some (reT (.bl b))/\(b=true↔∀j,j<m->f j=g j):=by
 refine⟨_,QoR ha hb (by rw[ea];exact QcY 7 _ _) (by rw[eb];exact QcY 7 _ _),?_⟩;rw[ea,eb,Qvz,decide_eq_true_iff,Qyn]
theorem QzV(ha:fa ρ=some ra)(ea:ra.d=Qb m f)(hb:fb ρ=some rb)(eb:rb.d=Qb m g)(h:∀j,j<m->f j=g j):dOp gNe fa fb ρ=some (reT (.bl false)):=Qhz (d:=Qb m g) ha (by rw[ea];exact Qcr h) hb eb (QcY 7 _ _)
def Qp3(d:Den):Prop:=∀(cs:List Int) (s m:Nat) (far:Int),s+m<=cs.length->m<=8->0<=far->∃g:Nat->Int,d [QA cs,.int s,.int m,.int far]=some (Qb m g,true)/\∀j,j<m-> -far<=g j/\g j<=far
theorem QxT:Qp3 (Qq 4 QhJ):=λcs s m far hs hm hf=>by
 have cell:∀k:Nat,k<cs.length->cs[k]? =some (cs.getD k 0):=λk hk=>by
  rw[ZaS,Zae ⋯];rfl
 refine⟨λk=>cs.getD (s+k) 0 % (2*far+1)-far,QN ?_,λj hj=>?_⟩
 ·refine Qv (r:=reT (Qb m λk=>cs.getD (s+k) 0 % (2*far+1)-far)) (QB (toD:=λ(k:Nat)=> .int (k:Int)) (out:=λ(k:Nat)=> .int (cs.getD (s+k) 0 % (2*far+1)-far)) (List.range m) (Qbc (n:=m) (r:=reI m) rfl rfl ⋯) rfl λk hk=>⟨[none,slI k,slF (QA cs),slI far,slI s],rfl,reI (cs.getD (s+k) 0 % (2*far+1)-far),?_,rfl,rfl⟩) ⟨rfl,rfl⟩;have hk:=Ze.mp hk;have e21:((s:Int)+(k:Int)).toNat=s+k:= ⋯
  exact Qdf (a:=cs.getD (s+k) 0 % (2*far+1)) (b:=far) (QaZ (a:=cs.getD (s+k) 0) (b:=2*far+1) (Qdw (ns:=cs) (i:=(s:Int)+(k:Int)) (v:=cs.getD (s+k) 0) (ra:=reF (QA cs)) rfl rfl (Qad (a:=(s:Int)) (b:=(k:Int)) (ra:=reI s) (rb:=reI k) rfl rfl rfl rfl) rfl ⋯ (by rw[e21];exact cell _ ⋯)) rfl (Qad (a:=2*far) (b:=1) (Qan (a:=2) (b:=far) (ra:=reI 2) (rb:=reI far) rfl rfl rfl rfl (Qc0 (by decide))) rfl (Qgq _ _) rfl) rfl ⋯) rfl (rb:=reI far) rfl rfl
 ·have h1:=ZI (cs.getD (s+j) 0) (by omega:2*far+1≠0);have h2:=ZG (cs.getD (s+j) 0) (by omega:0<2*far+1);show-far<=cs.getD (s+j) 0 % (2*far+1)-far/\cs.getD (s+j) 0 % (2*far+1)-far<=far;omega
noncomputable def QeW(Qc1:Den)(QcT:Den):DS:=(Qd (Qs 1 (QS kk5 (dOp Qa0 (Qn vv0 kk0) kk4))) (Qd (Qs 2 (dOp Qa0 (Qn vv0 kk1) kk6)) (Qd (Qs 3 (Qm 5 QcT [] (Qa (Qm 3 Qc1 [] (Qa (QbJ vv0 (QaI kk3) (QaI Qwe)) (Qa vv1 (Qa vv2 Qe)))) (Qa (QbJ vv0 (QaI Qwe) (QaI (QS Qwe (dOp Qa0 (Qn vv0 kk2) kk5)))) (Qa vv1 (Qa vv2 (Qa QBz Qe))))))) (Qd (Qs 4 (QG (Q2 vv3) (.tp [1,2,3]) [none,none,none,none] (QbG (QD vv3)) (QaP (Qa (dBf QlN (Qa vv1 (Qa vv2 Qe))) (Qa (dBf Qmi (Qa vv1 (Qa vv2 Qe))) Qe))))) (Qd (Qs 5 (QG (Q2 vv3) (.tp [1,2,3]) [none,none,none,none] (QD vv3) (QaP (Qa vv1 (Qa vv2 Qe))))) (Qd (QH (QaP (Qa vv1 (Qa vv4 (Qa vv5 Qe))))) Qo))))))
def QmM(d:Den):Prop:=∀cs:List Int,cs.length=25->(∀c∈cs,0<=c/\c<B40)->∃(m:Nat) (R L:Lpp),d [QA cs]=some (QC m R L,true)/\5<=m/\m<=8/\Qa5 m R L
theorem Qwu(hb:QmG db)(hm:QmD dm):QmM (Qq 6 (QeW db dm)):=λcs hl hcs=>by
 have cell:∀k:Nat,k<25->∃c,cs[k]? =some c/\0<=c/\c<B40:=λk hk=>⟨cs[k]'⋯,Zae ⋯,hcs _ (List.getElem_mem _)⟩;obtain⟨c0,e0,p0,_⟩:=cell 0 (by decide);obtain⟨c1,e1,p1,_⟩:=cell 1 (by decide);obtain⟨c2,e2,p2,_⟩:=cell 2 (by decide);have b1:=ZI c0 (by decide:(4:Int)≠0);have b2:=ZG c0 (by decide:(0:Int)<4);obtain⟨m,em⟩:∃m:Nat,(m:Int)=5+c0 % 4:=⟨(5+c0 % 4).toNat,⋯⟩;have key:Run (QeW db dm) (QaQ 6 [QA cs]) (Rt λd fr=>∃R L,d=QC m R L/\fr=true/\Qa5 m R L):=by
  have idx:∀{ρ:En}(k:Nat) (c:Int),ρ[0]? =some (slF (QA cs))->cs[k]? =some c->Qn (Qh 0) (dC (.int k)) ρ=some (reI c):=λ{ρ} k c h0 hc=>Qdw (ns:=cs) (i:=k) (QbB h0) rfl (Qgq _ _) rfl ⋯ (by simpa using hc);refine rsa (Qad (a:=5) rfl rfl (QaZ (b:=4) (idx 0 c0 rfl e0) rfl rfl rfl (by decide)) rfl) ?_;rw[← em];refine rsa (QaZ (b:=6) (idx 1 c1 rfl e1) rfl rfl rfl (by decide)) ?_;generalize c1 % 6=kind;obtain⟨W0,hbase,lW0,gW0,esc0⟩:=hb m ((cs.drop (min 3 cs.length)).take (min 11 cs.length-min 3 cs.length)) kind ⋯ ⋯ (by rw[ZaJ,ZaR];omega) λc hc=>hcs c (Qq4 hc);have d1:=ZI c2 (by decide:(5:Int)≠0);have d2:=ZG c2 (by decide:(0:Int)<5);obtain⟨q,eq⟩:∃q:Nat,(q:Int)=11+c2 % 5:=⟨(11+c2 % 5).toNat,⋯⟩;have eh:QS (dC (.int 11)) (dOp Qa0 (Qn (Qh 0) (dC (.int 2))) (dC (.int 5))) [slF (QA cs),slI m,slI kind,none,none,none]=some (reI q):=by
   rw[eq];exact Qad (a:=11) rfl rfl (QaZ (a:=c2) (b:=5) (idx 2 c2 rfl e2) rfl (rb:=reI 5) rfl rfl (by decide)) rfl
  have esl:=QrC (cs:=cs) (a:=11) (b:=q) (fa:=Qh 0) (fl:=dC (.int 11)) (ρ:=[slF (QA cs),slI m,slI kind,none,none,none]) (ra:=reF (QA cs)) rfl rfl rfl rfl eh rfl;generalize efu:(cs.drop (min 11 cs.length)).take (min q cs.length-min 11 cs.length)=fu at esl;have hfu:∀c∈fu,0<=c/\c<B40:=λc hc=>hcs c (by rw[← efu]at hc;exact Qq4 hc);have lfu:fu.length<=25:=by rw[← efu,ZaJ,ZaR];omega
  obtain⟨W,fr,hmore,lW,gW,sub⟩:=hm m W0 fu kind 300 ⋯ ⋯ ⋯ gW0 hfu
  have eargs:Qa (Qm 3 db [] (Qa (QbJ (Qh 0) (QaI (dC (.int 3))) (QaI (dC (.int 11)))) (Qa (Qh 1) (Qa (Qh 2) Qe)))) (Qa (QbJ (Qh 0) (QaI (dC (.int 11))) (QaI (QS (dC (.int 11)) (dOp Qa0 (Qn (Qh 0) (dC (.int 2))) (dC (.int 5)))))) (Qa (Qh 1) (Qa (Qh 2) (Qa (dC (.int 300)) Qe)))) [slF (QA cs),slI m,slI kind,none,none,none]=some ⟨[Qab W0,QA fu,.int m,.int kind,.int 300],true,[]⟩:=
   Qr (Qk (Qr (QrC (cs:=cs) (a:=3) (b:=11) (ra:=reF (QA cs)) rfl rfl rfl rfl rfl rfl) (Qr (r:=reI m) rfl (Qr (r:=reI kind) rfl (QK _)))) hbase rfl) (Qr esl (Qr (r:=reI m) rfl (Qr (r:=reI kind) rfl (Qr (r:=reI 300) rfl (QK _)))))
  refine run_seq (Qz (Qia eargs hmore rfl) ?_);rw[Qtr rfl];refine rsa (Qu7 (W:=W) (QbB (b:=fr) rfl) (by cases fr<;>rfl)) ?_;refine rsa (Qwd (W:=W) (QbB (b:=fr) rfl) (by cases fr<;>rfl)) ?_;exact Qv (r:=⟨QC m (QcU W) (QdD W),true,[4,5]⟩) rfl ⟨QcU W,QdD W,rfl,rfl,W,esc0.mono sub,gW,⋯,rfl,rfl⟩
 obtain⟨o,h1,h2⟩:=key;cases o with
 | rt d fr=>
  obtain⟨R,L,rfl,rfl,h3⟩:=h2;exact⟨m,R,L,by unfold Qq;rw[h1];rfl,⋯,⋯,h3⟩
 | _=>exact h2.elim
theorem QqK{x y l:Int}(h:l∣x-y):x % l=y % l:=(Zbs).mpr (Int.emod_eq_zero_of_dvd h)
theorem Qi4{m n0:Nat}{T Lf Rt Lb Rb:Mt2}{len:Mt1}(nr:QaK m n0 T Lf Rt Lb Rb len)(f:Mt1):∀j,j<m-n0->0<=QT m n0 Rt len f j/\QT m n0 Rt len f j<Qa4 len n0 j:=λj hj=>by
 have:=nr.big (n0+j) ⋯ ⋯;unfold QT Qa4;exact⟨ZI _ ⋯,ZG _ ⋯⟩
theorem QlP{m:Nat}{Rt:Mt2}{f g:Mt1}(h:∀i,i<m->f i=g i)(j:Nat):Q8 m Rt f j=Q8 m Rt g j:=Qg λi hi=>by rw[h i hi]
section
variable {m n0:Nat}{T Lf Rt Lb Rb:Mt2}{len:Mt1}
theorem Qnz(nr:QaK m n0 T Lf Rt Lb Rb len)(f c:Mt1):∀j,j<m-n0->QT m n0 Rt len (Qf m T f c) j=QT m n0 Rt len f j:=λj hj=>QqK (QwK nr f c ⋯)
theorem Qn1(nr:QaK m n0 T Lf Rt Lb Rb len)(f g:Mt1):(∀j,j<m-n0->QT m n0 Rt len f j=QT m n0 Rt len g j)↔∃c:Nat->Int,∀r,r<m->f r-g r=Qi m λl=>c l*QaO T l r:=by
 constructor
 ·intro h;refine QtK nr λj hj=>?_;have e:=Qvs (m:=m) (Rt:=Rt) f g 1 (-1) j;rw[ZR,QlP (g:=λi=>f i-g i) (λi _=> ⋯)]at e;rw[e,show Q8 m Rt f j+ -1*Q8 m Rt g j=Q8 m Rt f j-Q8 m Rt g j by omega];exact QtI nr h j hj
 ·rintro⟨c,hc⟩ j hj;have e:∀r,r<m->f r=Qf m T g (λl=> -c l) r:=λr hr=>by
   show f r=g r+Qi m λl=> -c l*T l r;have:=hc r hr;rw[Qg (g:=λl=> -c l*T l r) λl _=>by unfold QaO;rw[ZY,Zac,Zak]]at this;omega
  unfold QT;rw[QlP e];exact Qnz nr g (λl=> -c l) j hj
end
end HS
namespace HS
open PySem L2
noncomputable def QaH(len:Mt1):Nat->Int
 | 0=>1
 | n+1=>QaH len n*len n
theorem Qny:∀{n:Nat},(∀j,j<n->0<len j)->0<QaH len n
 | 0,_=>Int.one_pos
 | n+1,h=>Int.mul_pos (Qny λj hj=>h j ⋯) (h n ⋯)
theorem QkH:∀(n:Nat) (len:Mt1),QaH len (n+1)=len 0*QaH (λi=>len (i+1)) n
 | 0,len=>by show 1*len 0=len 0*1;omega
 | n+1,len=>by
  show QaH len (n+1)*len (n+1)=len 0*(QaH (λi=>len (i+1)) n*len (n+1));rw[QkH n len,Zq]
theorem QrA:∀(n:Nat) (len:Mt1),dia (Qaq len) n=QaH len n
 | 0,len=>rfl
 | n+1,len=>by
  show Qaq len 0 0*dia (λj r=>Qaq len (j+1) (r+1)) n=QaH len (n+1);rw[QkH,show(λj r=>Qaq len (j+1) (r+1))=Qaq (λi=>len (i+1))from ?_,QrA n]
  ·unfold Qaq idF;rw[if_pos rfl,ZU]
  ·funext j r;unfold Qaq idF;by_cases z:j=r
   ·rw[if_pos z,if_pos ⋯]
   ·rw[if_neg z,if_neg ⋯]
theorem Qjt(n:Nat)(f g:Mt2):(det n λj i=>prodF n f g i j)=(det n λj i=>f i j)*det n λj i=>g i j:=by
 rw[ZL,← Qwo n (λj i=>g i j) λj i=>f i j];refine QW λj _ i _=>?_;unfold prodF;rw[← Qbv];exact QaU λs _=>by rw[ZL]
theorem Qvu{a b:Int}(h:a*b=1):a.natAbs=1:=by
 have:=congrArg Int.natAbs h;rw[Zad]at this;exact Nat.eq_one_of_mul_eq_one_right this
theorem QbC.det{n:Nat}{a b:Mt2}(h:QbC n a b):(det n λj i=>a i j).natAbs=1:=by
 have e:(HS.det n λj i=>prodF n a b i j)=1:=by
  rw[QW (k:=QE) λj hj i hi=>by
   rw[h i j hi hj];unfold idF QE;by_cases z:i=j
   ·rw[if_pos z,if_pos z.symm]
   ·rw[if_neg z,if_neg (Ne.symm z)],Qd0]
 rw[Qjt]at e;exact Qvu e
theorem QfQ.many{n:Nat}{f Lf R Lb Rb:Mt2}{len:Mt1}(h:QfQ n f Lf R Lb Rb len):QaH len n=((det n λj i=>f i j).natAbs:Int):=by
 have e1:(HS.det n λj i=>prodF n (prodF n Lf f) R i j)=QaH len n:=by
  rw[QW (k:=Qaq len) λj hj i hi=>by
   rw[h.mid i j hi hj];unfold Qaq idF;by_cases z:i=j
   ·subst z;rw[if_pos rfl]
   ·rw[if_neg z,if_neg (Ne.symm z),ZC,ZC],Qmj n (Qaq len) λj r _ _ hr=>by unfold Qaq idF;rw[if_neg ⋯,ZC],QrA]
 rw[Qjt,Qjt]at e1;have e2:=congrArg Int.natAbs e1;rw[Zad,Zad,h.v1.det,h.u1.det,Nat.mul_one,Nat.one_mul]at e2;have:=Qny h.pos;omega
theorem QnC:∀{n:Nat},(∀j,j<n->(len j).natAbs<2^1999)->(QaH len n).natAbs<=2^(1999*n)
 | 0,_=>by show(1:Int).natAbs<=2^(1999*0);decide
 | n+1,h=>by
  show(QaH len n*len n).natAbs<=_;rw[Zad,Nat.mul_add,Nat.mul_one,Nat.pow_add];exact ZaU (QnC λj hj=>h j ⋯) (Zbi (h n ⋯))
theorem QpA:∀(n:Nat) (m:Mt2),(∀r,r<n->m n r=0)->m n n=1->det (n+1) m=det n m
 | 0,m,_,h=>by show(0:Int)+sgn 0*m 0 0*1=1;rw[h];rfl
 | n+1,m,h0,h1=>by
  show sm (n+1) _+sgn (n+1)*m (n+1) 0*_=sm (n+1) _;rw[h0 0 ⋯,ZC,ZA,Zbt];refine QaU λj hj=>?_;have e:skp j n=n+1:=by unfold skp;rw[if_neg ⋯]
  rw[QpA n (λc r=>m (skp j c) (r+1)) (λr hr=>by show m (skp j n) (r+1)=0;rw[e];exact h0 (r+1) ⋯) (by show m (skp j n) (n+1)=1;rw[e];exact h1)]
theorem Qt7(tp:TP m T):∀k,k<=m->0<det k λl r=>0-T l r
 | 0,_=>by show(0:Int)<1;decide
 | k+1,hk=>by
  have ih:=Qt7 tp k ⋯;have big:∀j,j<m->∀r,r<m->(0-T j r).natAbs<=2^200:=λj hj r hr=>by
   have:=tp.bnd j r hj hr;have:(2:Nat)^64<=2^200:=Zn (by decide) (by decide);omega
  have nz:=Qhv (n:=k+1) (λj hj r hr=>big j ⋯ r ⋯) λk' hk'=>QfU tp k' ⋯;by_cases neg:(det (k+1) λl r=>0-T l r)<0
  ·have cr:=λr (hr:r<k+1)=>QiW (λl r=>0-T l r) (λr=>if r=k then(1:Int)else 0) hr;generalize (det (k+1) λl r=>0-T l r)=D at *;have ck:det (k+1) (cup (λl r=>0-T l r) k λr=>if r=k then 1 else 0)=det k λl r=>0-T l r:=by
    rw[QpA k _ (λr hr=>by rw[QI,if_neg ⋯]) (by rw[QI,if_pos rfl])];exact QW λj hj r _=>by rw[QF _ _ ⋯]
   have z:=Qpb (k:=k) tp (c:=λl=>if l<=k then det (k+1) (cup (λl r=>0-T l r) l λr=>if r=k then 1 else 0)else 0) (λl hl=>if_neg ⋯) (λr _ hr=>?_) k ⋯
   ·have z:(if k<=k then det (k+1) (cup (λl r=>0-T l r) k λr=>if r=k then 1 else 0)else 0)<=0:=z;rw[if_pos (Zh k),ck]at z;omega
   ·have e:=cr r ⋯;have e2:Qi m (λl=>(if l<=k then det (k+1) (cup (λl r=>0-T l r) l λr=>if r=k then 1 else 0)else 0)*T l r)= -(D*if r=k then 1 else 0):=by
     rw[e,← Qbv,QgE (k:=k+1) ⋯ λi h1 _=>by rw[if_neg ⋯,ZA],Qbv,Qbv,← Qbu];exact Qg λl hl=>by rw[if_pos ⋯,ZY,Zac,Zbh]
    rw[e2];split<;>omega
  ·omega
theorem QlD:∀n,(∀j,j<n->len j=1)->QaH len n=1
 | 0,_=>rfl
 | n+1,h=>by show QaH len n*len n=1;rw[QlD n λj hj=>h j ⋯,h n ⋯];rfl
theorem Qkv(n0:Nat):∀k,QaH len (n0+k)=QaH len n0*QaH (Qa4 len n0) k
 | 0=>by show QaH len n0=QaH len n0*1;rw[ZU]
 | k+1=>by
  show QaH len (n0+k)*len (n0+k)=QaH len n0*(QaH (Qa4 len n0) k*Qa4 len n0 k);rw[Qkv n0 k,Zq];rfl
theorem QaK.many{m n0:Nat}{T Lf Rt Lb Rb:Mt2}{len:Mt1}(nr:QaK m n0 T Lf Rt Lb Rb len)(tp:TP m T):QaH (Qa4 len n0) (m-n0)=det m (QaO T):=by
 have e:=nr.sm.many;rw[Qld m (QaO T)]at e;have p:=Qt7 tp m (Zh m);have e1:=Qkv (len:=len) n0 (m-n0);have le:=nr.le;rw[show n0+(m-n0)=m by omega,QlD n0 nr.one,ZR]at e1;have p:0<det m (QaO T):=p;rw[← e1,e];omega
noncomputable def QfA(QR:Den)(Qa1:Den)(QaD:Den):DS:=(Qd (sIf (bOr (QbG (QD (Qhf "tuple" vv0))) (bOr (QD (dOp gLt (dBf Qaa (Qa vv0 Qe)) kk2)) (QbG (QD (Qm 2 QR [] (Qa (Qn vv0 kk1) (Qa (dBf Qaa (Qa vv2 Qe)) Qe))))))) (Qd (QH (dC (.bl false))) Qo) Qo) (Qd (sIf (QD (dOp gEq (Qn vv0 kk0) (dC (.str "alike")))) (Qd (QH (Qgz (dOp gEq (dBf Qaa (Qa vv0 Qe)) kk2) (dOp gEq (Qm 3 Qa1 [] (Qa vv1 (Qa vv2 (Qa (Qn vv0 kk1) Qe)))) vv3))) Qo) Qo) (Qd (sIf (bOr (QD (dOp gNe (Qn vv0 kk0) (dC (.str "apart")))) (bOr (QD (dOp gNe (dBf Qaa (Qa vv0 Qe)) kk3)) (bOr (QbG (QD (Qm 1 QaD [] (Qa (Qn vv0 kk2) Qe)))) (QD (dOp gLt (Qn vv0 kk2) kk1))))) (Qd (QH (dC (.bl false))) Qo) Qo) (Qd (Qa7 (Q2 vv1) (.nm 4) (Qd (sIf (QD (dOp gNe (dOp Qa0 (dBf QfF (Qa (QG (Qak (Qn vv0 kk1) vv4) (.tp [1,2]) [none,none,none] QO (Q7 vv1 vv2)) Qe)) (Qn vv0 kk2)) kk0)) (Qd (QH (dC (.bl false))) Qo) Qo) Qo)) (Qd (Qs 5 (QG (Qak vv2 vv3) (.tp [1,2]) [none,none,none] QO (dOp QaG vv2 vv1))) (Qd (QH (dOp gNe (dOp Qa0 (dBf QfF (Qa (QG (Qak (Qn vv0 kk1) vv5) (.tp [1,2]) [none,none,none] QO (Q7 vv1 vv2)) Qe)) (Qn vv0 kk2)) kk0)) Qo))))))
set_option maxHeartbeats 0 in
theorem Qup(hn:Qgg dn)(hb:QfO db)(hw:QhP dw):Qlq (Qq 6 (QfA dn db dw)):=λm T a b s m0 m8 hT ha hbb hs=>by
 have sR:∀f:Nat->Int,(Qb m f).sim 8=true:=λf=>QcY 7 m f;cases hs with
 | @alike k h=>
  have eb:=hb m T a k m0 ⋯ hT;rw[Qcr λr hr=>(h r hr).symm]at eb;refine QN ?_;refine Qx (QQ (Qav (QaS (Qw rfl rfl)) (Qav (Qw rfl rfl) (QaS (Qw (Qk (Qr rfl (Qr (QcP rfl rfl) (QK _))) (hn m k) rfl) rfl)))) (λh=>by cases h) (λ_=>Qt ?_));refine Qx (QQ (Qw (QeP rfl rfl rfl rfl QsL) rfl) (λ_=>?_) (λh=>by cases h));exact Qx (Qb0 (QiU (QeP rfl rfl rfl rfl rfl) (QeP (Qk rfl eb rfl) rfl rfl rfl (sR _))) ⟨rfl,rfl⟩)
 | @apart w q q0 wb hd nd=>
  refine QN ?_;refine Qx (QQ (Qav (QaS (Qw rfl rfl)) (Qav (Qw rfl rfl) (QaS (Qw (Qk (Qr rfl (Qr (QcP rfl rfl) (QK _))) (hn m w) rfl) rfl)))) (λh=>by cases h) (λ_=>Qt ?_));refine Qx (QQ (Qw ((QoR (ra:=reT (.str "apart")) rfl rfl QwT QsL).trans (by rw[QpI])) rfl) (λh=>by cases h) (λ_=>Qt ?_));refine Qx (QQ (b:=false) (Qav (Qw (Qhz rfl rfl rfl rfl QwT) rfl) (Qav (Qw (Qhz rfl rfl rfl rfl rfl) rfl) (Qav (a:=false) (QaS (b:=true) (Qw (Qk rfl (hw q) rfl) rfl)) (Qw (Qap rfl rfl ?_) rfl)))) (λh=>by cases h) (λ_=>Qt ?_))
  ·show some (D.bl (decide (q<1)))=_;rw[decide_eq_false ⋯]
  have sum:∀(g:Mt1) (fg:DE) (ρ:En) (rg:HS.R),(∀r,r<m->QdN (w r) (g r)=true)->ρ[0]? =some (slF (.tup [.str "apart",Qb m w,.int q]))->fg ρ=some rg->rg.d=Qb m g->dOp Qa0 (dBf QfF (Qa (QG (Qak (Qn (Qh 0) (dC (.int 1))) fg) (.tp [1,2]) [none,none,none] QO (Q7 (Qh 1) (Qh 2))) Qe)) (Qn (Qh 0) (dC (.int 2))) ρ=some (reI ((Qi m λr=>w r*g r) % q)):=λg fg ρ rg hmu h0 hg hd'=>by
   have v0:Qh 0 ρ=some (reF (.tup [.str "apart",Qb m w,.int q])):=QbB h0;refine QaZ (Qri (QB (List.range m) (Qac (ra:=reF (Qb m w)) ?_ rfl hg hd') rfl λr hr=>⟨[none,slI (w r),slI (g r)],rfl,reI (w r*g r),Qan rfl rfl rfl rfl (hmu r (Ze.mp hr)),rfl,rfl⟩) rfl) rfl (rb:=reI q) ?_ rfl q0
   ·unfold Qn;rw[v0];rfl
   ·unfold Qn;rw[v0];rfl
  refine Qx (Qah (List.range m) (λi ρ=>∃j4,ρ=[slF (.tup [.str "apart",Qb m w,.int q]),slF (Qc m m T),slF (Qb m a),slF (Qb m b),j4,none]) (Q1 rfl rfl) rfl ⟨none,rfl⟩ ?_ ?_)
  ·rintro l l' ρ hl ⟨j4,rfl⟩;obtain⟨hlm,rfl⟩:=QbF hl;refine⟨[slF (.tup [.str "apart",Qb m w,.int q]),slF (Qc m m T),slF (Qb m a),slF (Qb m b),slF (Qb m (T l)),none],rfl,?_⟩;refine Qx (QQ (Qw ((Qb4 (sum (T l) (Qh 4) _ (reF (Qb m (T l))) (λr hr=>QcW (hT l r hlm hr)) rfl rfl rfl) rfl (Qgq _ _) rfl).trans (by rw[Int.emod_eq_zero_of_dvd (hd l hlm)])) rfl) (λh=>by cases h) (λ_=>Qt (Qt ⟨_,rfl⟩)))
  ·rintro ρ ⟨j4,rfl⟩;refine rsa (QB (List.range m) (Qac rfl rfl rfl rfl) rfl λj _=>⟨[none,slI (a j),slI (b j)],rfl,reI (b j-a j),rfl,rfl,rfl⟩) ?_;refine Qv (r:=reT (.bl true)) ((Qb4 (sum (λr=>b r-a r) (Qh 5) _ ⟨Qb m λr=>b r-a r,true,[5]⟩ (λr hr=>QcO (Qa6 (wb r hr)) (Qa6 ?_)) rfl rfl rfl) rfl (Qgq _ _) rfl).trans ?_) ⟨rfl,rfl⟩
   ·have h1:=ha r hr;have h2:=hbb r hr;have h3:(2:Nat)^191<2^2000:=Nat.pow_lt_pow_right (by decide) (by decide);have h4:(2:Nat)^190+2^190=2^191:=by decide
    omega
   ·have:¬(Qi m λr=>w r*(b r-a r)) % q=0:=λz=>nd (Int.dvd_of_emod_eq_zero z);rw[decide_eq_false this];rfl
noncomputable def QlX(QX:Den)(Qd9:Den):DS:=(Qd (QH (Qm 1 Qd9 [] (Qa (Qm 1 QX [] (Qa vv0 Qe)) Qe))) Qo)
def QrM(d:Den):Prop:=∀(m:Nat) (R L:Lpp),m<=8->Qa5 m R L->d [QC m R L]=some (.int (det m (QaO (Qp m (Ql R L)))),true)
theorem QzY(ht:QhM dt)(hm:Qi8 dm):QrM (Qq 1 (QlX dt dm)):=λm R L m8 hw=>by
 have em:=hm m (QaO (Qp m (Ql R L))) m8 λi hi j hj=>Zp (hw.big i hi j hj) (Zn (by decide) (by decide));rw[Qld m (QaO (Qp m (Ql R L)))]at em;exact QN (Qv (Qk (Qr (Qk rfl (ht m R L m8 hw) rfl) (QK _)) em rfl) ⟨rfl,rfl⟩)
noncomputable def QgF(QbN:Den)(QdE:Den)(QR:Den)(QaD:Den):DS:=(Qd (Qs 1 (Qm 1 QbN [] (Qa vv0 Qe))) (Qd (Qs 2 (Qm 1 QdE [] (Qa vv0 Qe))) (Qd (sIf (bOr (QbG (QD (Qhf "list" vv1))) (bOr (QbG (QD (Qm 2 QR [] (Qa vv1 (Qa (dBf Qaa (Qa vv1 Qe)) Qe))))) (QbG (QD (Qm 1 QaD [] (Qa vv2 Qe)))))) (Qd (QH (dC .non)) Qo) Qo) (Qd (Qs 3 kk1) (Qd (Qa7 (Q2 vv1) (.nm 4) (Qd (sIf (QD (dOp gLt vv4 kk2)) (Qd (QH (dC .non)) Qo) Qo) (Qd (Qs 3 (Q7 vv3 vv4)) Qo))) (Qd (sIf (QD (dOp gNe vv3 vv2)) (Qd (QH (dC .non)) Qo) Qo) (Qd (QH vv1) Qo)))))))
def Qjw(dr d:Den):Prop:=∀(m:Nat) (R L:Lpp) (n0:Nat) (Lf Rt Lb Rb:Mt2) (len:Mt1),m<=8->Qa5 m R L->QaK m n0 (Qp m (Ql R L)) Lf Rt Lb Rb len->QhV dr m (Qp m (Ql R L)) Lf Rt Lb Rb len->d [QC m R L]=some (Qb (m-n0) (Qa4 len n0),false)
theorem Qst(hl:QoF dr dl)(hh:QrM dh)(hu:Qgg du)(hwh:QhP dw):Qjw dr (Qq 5 (QgF dl dh du dw)):=λm R L n0 Lf Rt Lb Rb len m8 hw nr re=>by
 have el:=hl m R L n0 Lf Rt Lb Rb len m8 hw nr re;have eh:=hh m R L m8 hw;have many:=nr.many hw.tp;have le:=nr.le;rw[← many]at eh;have bl:∀j,j<m-n0->(Qa4 len n0 j).natAbs<2^1999:=λj hj=>nr.ll (n0+j) ⋯;have two:∀j,j<m-n0->1<Qa4 len n0 j:=λj hj=>nr.big (n0+j) ⋯ ⋯;generalize Qa4 len n0=le' at *;have k8:m-n0<=8:= ⋯
 generalize m-n0=k at *;refine QN ?_;refine rsa (Qk rfl el rfl) ?_;refine rsa (Qk rfl eh rfl) ?_;refine Qx (QQ (Qav (QaS (Qw rfl rfl)) (Qav (QaS (Qw (Qk (Qr rfl (Qr (QcP rfl rfl) (QK _))) (hu k le') rfl) rfl)) (QaS (Qw (Qk rfl (hwh _) rfl) rfl)))) (λh=>by cases h) (λ_=>Qt ?_));refine rsa rfl ?_;refine QaW (P:=λρ=>∃j4,ρ=[slF (QC m R L),slF (Qb k le'),slI (QaH le' k),slI (QaH le' k),j4]) ?_ ?_
 ·refine Qah (List.range k) (λi ρ=>∃j4,ρ=[slF (QC m R L),slF (Qb k le'),slI (QaH le' k),slI (QaH le' i),j4]) (Q1 rfl rfl) rfl ⟨none,rfl⟩ ?_ ?_
  ·rintro i i' ρ hi ⟨j4,rfl⟩;obtain⟨hik,rfl⟩:=QbF hi;refine⟨[slF (QC m R L),slF (Qb k le'),slI (QaH le' k),slI (QaH le' i),slI (le' i)],rfl,?_⟩;have t2:=two i hik;have bp:=QnC (n:=i) λj hj=>bl j ⋯;refine Qx (QQ (Qw (Qap rfl rfl (by show some (D.bl (decide (le' i<2)))=_;rw[decide_eq_false ⋯])) rfl) (λh=>by cases h) (λ_=>Qt ?_));refine run_seq (Qz ((Qan rfl rfl rfl rfl (QcO (Qgc (k:=1999*i+1) (ZO bp (Nat.pow_lt_pow_right (by decide) ⋯)) ⋯) (Qgc (bl i hik) (by decide)))).trans rfl) (Qt ?_));rw[QaJ];exact⟨_,rfl⟩
  ·rintro ρ ⟨j4,rfl⟩;refine⟨j4,?_⟩;rw[Zt]
 rintro ρ ⟨j4,rfl⟩;refine Qx (QQ (Qw (r:=reT (.bl false)) ((Qb4 rfl rfl rfl rfl).trans (by simp)) rfl) (λh=>by cases h) (λ_=>Qt ?_));exact Qv rfl ⟨rfl,rfl⟩
noncomputable def Qfz(Qcn:Den)(QR:Den):DS:=(Qd (Qs 3 (Qm 2 Qcn [] (Qa vv0 (Qa vv1 Qe)))) (Qd (sIf (QbG (QD (Qm 2 QR [] (Qa vv3 (Qa (dBf Qaa (Qa vv2 Qe)) Qe))))) (Qd (QH (dC .non)) Qo) Qo) (Qd (Qa7 (Qak vv3 vv2) (.tp [4,5]) (Qd (sIf (bOr (QD (dOp gLt vv4 kk0)) (QD (dOp gGe vv4 vv5))) (Qd (QH (dC .non)) Qo) Qo) Qo)) (Qd (QH vv3) Qo))))
def QiD(dr d:Den):Prop:=∀(m:Nat) (R L:Lpp) (n0:Nat) (Lf Rt Lb Rb:Mt2) (len f:Mt1),m<=8->Qa5 m R L->QaK m n0 (Qp m (Ql R L)) Lf Rt Lb Rb len->QhV dr m (Qp m (Ql R L)) Lf Rt Lb Rb len->(∀i,i<m->Qbd (f i))->d [QC m R L,Qb m f,Qb (m-n0) (Qa4 len n0)]=some (Qb (m-n0) (QT m n0 Rt len f),false)
theorem QqM(hp:Qlj dr dp)(hu:Qgg du):QiD dr (Qq 6 (Qfz dp du)):=λm R L n0 Lf Rt Lb Rb len f m8 hw nr re hf=>by
 have ep:=hp m R L n0 Lf Rt Lb Rb len f m8 hw nr re hf;have rg:=Qi4 nr f;generalize Qa4 len n0=le' at *;generalize QT m n0 Rt len f=p at *;generalize m-n0=k at *;refine QN ?_;refine rsa (Qk rfl ep rfl) ?_;refine Qx (QQ (QaS (Qw (Qk (Qr rfl (Qr (QcP rfl rfl) (QK _))) (hu k p) rfl) rfl)) (λh=>by cases h) (λ_=>Qt ?_));refine Qx (Qah (List.range k) (λ_ ρ=>∃j4 j5,ρ=[slF (QC m R L),slF (Qb m f),slF (Qb k le'),slF (Qb k p),j4,j5]) (Qac rfl rfl rfl rfl) rfl ⟨none,none,rfl⟩ ?_ ?_)
 ·rintro i i' ρ hi ⟨j4,j5,rfl⟩;obtain⟨hik,rfl⟩:=QbF hi;refine⟨[slF (QC m R L),slF (Qb m f),slF (Qb k le'),slF (Qb k p),slI (p i),slI (le' i)],rfl,?_⟩;have r:=rg i hik;refine Qx (QQ (Qav (Qw (Qap rfl rfl (by show some (D.bl (decide (p i<0)))=_;rw[decide_eq_false ⋯])) rfl) (Qw (Qap rfl rfl (by show some (D.bl (decide (le' i<=p i)))=_;rw[decide_eq_false ⋯])) rfl)) (λh=>by cases h) (λ_=>Qt (Qt ⟨_,_,rfl⟩)))
 ·rintro ρ ⟨j4,j5,rfl⟩;exact Qv rfl ⟨rfl,rfl⟩
theorem Qsn(tp:TP m T)(h:∀r,r<m->Qf m T f k r=Qf m T f k' r):∀i,i<m->k i=k' i:=λi hi=>by
 have z:∀a b:Nat->Int,(∀r,r<m->Qf m T f a r=Qf m T f b r)->a i<=b i:=λa b h=>by
  have q:=Qmw (k:=m) tp (c:=λl=>if l<m then a l-b l else 0) (λl hl=>if_neg ⋯) (λr hr _=>by
   have e:=h r hr;unfold Qf at e;rw[Qg λl hl=>by rw[if_pos hl],Qmf];omega) i hi
  have q:(if i<m then a i-b i else 0)<=0:=q;rw[if_pos hi]at q;omega
 have:=z k k' h;have:=z k' k λr hr=>(h r hr).symm;omega
theorem Qy8(tp:TP m T)(h:QpF m T a (Qf m T a k) s):s= .tup [.str "alike",Qb m k]:=by
 generalize hb:Qf m T a k=b at h;cases h with
 | @alike k' h=>rw[Qcr (Qsn tp (k':=k) λr hr=>by rw[← h r hr,hb])]
 | @apart w q q0 wb hd nd=>
  refine absurd ?_ nd;subst hb;have e:(Qi m λr=>w r*(Qf m T a k r-a r))=Qi m λl=>k l*Qi m λr=>w r*T l r:=by
   rw[Qg (g:=λr=>Qi m λl=>k l*(w r*T l r)) λr _=>by
    unfold Qf;rw[show a r+(Qi m λi=>k i*T i r)-a r=Qi m λi=>k i*T i r by omega,← QP];exact Qg λl _=>by rw[← Zq,ZL (w r),Zq],Qbn]
   exact Qg λl _=>by rw[QP]
  rw[e];exact QdX λl hl=>Int.dvd_trans (hd l hl) (Int.dvd_mul_left _ _)
noncomputable def Qgx(Qbl:Den)(QR:Den)(Qa1:Den)(Qcv:Den)(Qbe:Den):DS:=(Qd (Qs 3 (Qm 2 Qbl [] (Qa vv0 (Qa vv2 Qe)))) (Qd (sIf (bOr (QbG (QD (Qhf "tuple" vv3))) (QD (dOp gNe (dBf Qaa (Qa vv3 Qe)) kk2))) (Qd (QH (dC .non)) Qo) Qo) (Qd (sIf (bOr (QbG (QD (Qm 2 QR [] (Qa (Qn vv3 kk0) (Qa (Qn vv0 kk0) Qe))))) (QbG (QD (Qm 2 QR [] (Qa (Qn vv3 kk1) (Qa (Qn vv0 kk0) Qe)))))) (Qd (QH (dC .non)) Qo) Qo) (Qd (sIf (bOr (QD (dOp gNe (Qm 3 Qa1 [] (Qa vv1 (Qa vv2 (Qa (Qn vv3 kk1) Qe)))) (Qn vv3 kk0))) (QbG (QD (Qm 2 Qcv [] (Qa vv1 (Qa (Qn vv3 kk0) Qe)))))) (Qd (QH (dC .non)) Qo) Qo) (Qd (Qs 4 (Qm 3 Qbe [] (Qa vv0 (Qa vv2 (Qa (Qn vv3 kk0) Qe))))) (Qd (sIf (bOr (QbG (QD (Qhf "tuple" vv4))) (QD (dOp gNe vv4 (QaP (Qa (dC (.str "alike")) (Qa (Qn vv3 kk1) Qe)))))) (Qd (QH (dC .non)) Qo) Qo) (Qd (QH (Qn vv3 kk0)) Qo)))))))
def QiY(d:Den):Prop:=∀(m:Nat) (R L:Lpp) (f:Mt1),0<m->m<=8->Qa5 m R L->(∀j,j<m->(f j).natAbs<=10^18)->∃k,d [QC m R L,Qc m m (Qp m (Ql R L)),Qb m f]=some (Qb m (Qf m (Qp m (Ql R L)) f k),true)/\Qhs m (Qp m (Ql R L)) f k
theorem QrS(ha:QhF da)(hu:Qgg du)(hb:QfO db)(hc:QjB dc)(ht:Qki dt):QiY (Qq 5 (Qgx da du db dc dt)):=λm R L f m0 m8 hw hf=>by
 have tp:=hw.tp;obtain⟨k,v,ea,a1,a2,a3,a4⟩:=ha m R L f m0 m8 hw λj hj=>Zp (hf j hj) (by decide);have bx:=QmA tp a3 a4;obtain⟨s,es,said⟩:=ht m R L f (Qf m (Qp m (Ql R L)) f k) m0 m8 hw (λj hj=>Zp (hf j hj) (by decide)) λj hj=>by
  have:=bx j hj;have h:(Qf m (Qp m (Ql R L)) f k j).natAbs<=2^100:= ⋯
  exact Zp h (Zn (by decide) (by decide))
 have e:=Qy8 tp said;subst e;have eb:=hb m (Qp m (Ql R L)) f k m0 ⋯ tp.bnd;have ec:=hc m (Qp m (Ql R L)) _ v m0 m8 tp a1 a2 a3 a4;refine⟨k,?_,⟨⟨v,a1,a2⟩,a3,a4⟩⟩;generalize Qf m (Qp m (Ql R L)) f k=x at *;generalize Qp m (Ql R L)=T at *;have sT:(D.tup [.str "alike",Qb m k]).sim 8=true:=by
  simp only[D.sim,List.all_cons,List.all_nil,Bool.and_true,Zg];exact⟨by decide+kernel,QcY 6 m k⟩
 refine QN ?_;refine rsa (Qk rfl ea rfl) ?_;change Run _ [slF (QC m R L),slF (Qc m m T),slF (Qb m f),slT (.tup [Qb m x,Qb m k]),none] _;refine Qx (QQ (Qav (QaS (Qw rfl rfl)) (Qw rfl rfl)) (λh=>by cases h) (λ_=>Qt ?_));refine Qx (QQ (Qav (QaS (Qw (Qk rfl (hu m x) rfl) rfl)) (QaS (Qw (Qk rfl (hu m k) rfl) rfl))) (λh=>by cases h) (λ_=>Qt ?_));refine Qx (QQ (Qav (Qw (Qhz (Qk rfl eb rfl) rfl rfl rfl (QcY 7 m x)) rfl) (QaS (Qw (Qk rfl ec rfl) rfl))) (λh=>by cases h) (λ_=>Qt ?_));refine rsa (Qk rfl es rfl) ?_;change Run _ [slF (QC m R L),slF (Qc m m T),slF (Qb m f),slT (.tup [Qb m x,Qb m k]),slT (.tup [.str "alike",Qb m k])] _;refine Qx (QQ (Qav (QaS (Qw rfl rfl)) (Qw (Qhz rfl rfl rfl rfl sT) rfl)) (λh=>by cases h) (λ_=>Qt ?_));exact Qv rfl ⟨rfl,rfl⟩
section
variable {m n0:Nat}{T Lf Rt Lb Rb:Mt2}{len:Mt1}
theorem QrN(nr:QaK m n0 T Lf Rt Lb Rb len){p:Mt1}(hp:∀j,j<m-n0->0<=p j/\p j<Qa4 len n0 j):∀j,j<m-n0->QT m n0 Rt len (Qes m n0 Rb p) j=p j:=λj hj=>by
 have le:=nr.le;have e:=Quq nr (λi=>if i<n0 then 0 else p (i-n0)) (j:=n0+j) ⋯;have e2:Q8 m Rt (Qes m n0 Rb p) (n0+j)=p j:=by
  refine Eq.trans ?_ (e.trans ?_)
  ·rfl
  ·show(if n0+j<n0 then(0:Int)else p (n0+j-n0))=p j;rw[if_neg ⋯,show n0+j-n0=j by omega]
 have:=hp j hj;unfold QT;rw[e2];exact ZbG this.1 this.2
theorem QxG(nr:QaK m n0 T Lf Rt Lb Rb len)(tp:TP m T){f k k2:Mt1}(rk:Qhs m T f k)(r2:Qhs m T (Qes m n0 Rb (QT m n0 Rt len f)) k2):∀j,j<m->Qf m T (Qes m n0 Rb (QT m n0 Rt len f)) k2 j=Qf m T f k j:=by
 obtain⟨c,hc⟩:=(Qn1 nr (Qes m n0 Rb (QT m n0 Rt len f)) f).mp (QrN nr (Qi4 nr f));refine QAZ tp rk r2 (d:=λi=>(k2 i-c i)-k i) λj hj=>?_;have e:=hc j hj;rw[Qg (g:=λl=> -c l*T l j) λl _=>by unfold QaO;rw[ZY,Zac,Zak],QAt]at e;unfold Qf;rw[Qmf,Qmf];omega
end
noncomputable def Qnp(Qcz:Den)(QdF:Den)(Qcu:Den)(QdH:Den)(Qcp:Den)(Qcx:Den)(Qbo:Den)(Qd6:Den)(Qbe:Den)(Qb1:Den)(QeM:Den)(QR:Den)(Qdy:Den)(Qdz:Den):DS:=(Qd (Qs 1 (Qm 2 Qcz [] (Qa vv0 (Qa QC6 Qe)))) (Qd (Qs 2 (Qm 1 QdF [] (Qa vv1 Qe))) (Qd (Qs 3 (Qm 1 Qcu [] (Qa vv2 Qe))) (Qd (Qs 4 (Qm 4 QdH [] (Qa vv1 (Qa QDf (Qa (Qn vv2 kk0) (Qa (Q7 kk9 (dOp Qjh QzF QCJ)) Qe)))))) (Qd (Qs 5 (Qm 1 Qcp [] (Qa vv2 Qe))) (Qd (Qs 6 (Qm 3 Qcx [] (Qa vv2 (Qa vv3 (Qa (dList (Qa vv4 Qe)) Qe))))) (Qd (sIf (bOr (QD (dOp (Qfw false) vv5 (dC .non))) (QD (dOp (Qfw false) vv6 (dC .non)))) (Qd (QH (dC (.bl false))) Qo) Qo) (Qd (Qs 7 (Qm 3 Qbo [] (Qa vv2 (Qa vv4 (Qa vv5 Qe))))) (Qd (sIf (bOr (QD (dOp (Qfw false) vv7 (dC .non))) (bOr (QD (dOp gNe (Qm 3 Qbo [] (Qa vv2 (Qa vv6 (Qa vv5 Qe)))) vv7)) (QD (dOp gNe (Qm 2 Qd6 [] (Qa vv2 (Qa vv7 Qe))) vv6)))) (Qd (QH (dC (.bl false))) Qo) Qo) (Qd (Qs 8 (dOp Qa0 (Qn vv1 QDc) (Qn vv2 kk0))) (Qd (Qs 9 (dList (Qa vv4 Qe))) (Qd (QbW 9 Qaf vv8 (QS (Qn vv9 vv8) (dOp Qa0 (Qn vv1 QDb) kk3))) (Qd (Qs 10 (Qm 3 Qbe [] (Qa vv2 (Qa vv4 (Qa vv9 Qe))))) (Qd (Qs 11 (Qm 3 Qbo [] (Qa vv2 (Qa vv9 (Qa vv5 Qe))))) (Qd (sIf (bOr (QD (dOp (Qfw false) QpQ (dC .non))) (bOr (QbG (QD (Qm 4 Qb1 [] (Qa Qjs (Qa vv3 (Qa vv4 (Qa vv9 Qe))))))) (QD (dOp gNe (dOp gEq QpQ vv7) (dOp gEq (Qn Qjs kk0) (dC (.str "alike"))))))) (Qd (QH (dC (.bl false))) Qo) Qo) (Qd (Qs 12 (Qm 1 QeM [] (Qa vv2 Qe))) (Qd (QH (Qgz (Qm 2 QR [] (Qa QA8 (Qa (Qn vv2 kk0) Qe))) (dOp gEq (Qm 3 Qdz [] (Qa vv2 (Qa vv6 (Qa (Qm 2 Qdy [] (Qa vv2 (Qa vv6 Qe))) Qe)))) QA8))) Qo)))))))))))))))))
set_option maxHeartbeats 0 in
theorem QAh(hs:QjZ dr)(hc:CellsOk dc)(hn:QmM dn)(ht:TabsOk dt)(hrw:Qp3 drw)(hri:Qjw dr dri)(ha:QiY da)(hp:QiD dr dp)(hh:Qll dr dh)(hta:Qki dta)(hpa:Qlq dpa)(hno:Qlc dno)(hu:Qgg du)(hk:Qk9 dk)(hhs:QpO dhs)(ns:List Int)(hns:ns.length<=63):
  Qq 13 (Qnp dc dn dt drw dri da dp dh dta dpa dno du dk dhs) [.lst (ns.map .int)]=slT (.bl true):=by
 obtain⟨cs,ecs,lcs,bcs⟩:=hc ns 25 hns (by decide);obtain⟨m,R,L,en,m5,m8,hw⟩:=hn cs lcs bcs;have m0:0<m:= ⋯
 have gd:=hw.good;have tp:=hw.tp;have et:=ht m R L m0 ⋯ ⋯ gd.1 gd.2.1;obtain⟨f,ef,bf⟩:=hrw cs 15 m (9*10^17) ⋯ m8 (by decide);obtain⟨n0,Lf,Rt,Lb,Rb,len,nr,re⟩:=Qs0 hs m0 m8 hw;have eri:=hri m R L n0 Lf Rt Lb Rb len m8 hw nr re;have bf18:∀j,j<m->(f j).natAbs<=10^18:=λj hj=>by have:=bf j hj;omega
 obtain⟨k,ek,rk⟩:=ha m R L f m0 m8 hw bf18;have bx:=QmA tp rk.stb rk.nn;have hp':=λg=>hp m R L n0 Lf Rt Lb Rb len g m8 hw nr re;have pf:=hp' f λi hi=>Qir (ZO (bf18 i hi) (by decide));have px:=hp' (Qf m (Qp m (Ql R L)) f k) λi hi=>Qir (by
  have:=bx i hi;have h:(Qf m (Qp m (Ql R L)) f k i).natAbs<=2^100:= ⋯
  exact ZO h (Nat.pow_lt_pow_right (by decide) (by decide)))
 obtain⟨k2,eh,r2⟩:=hh m R L n0 Lf Rt Lb Rb len (QT m n0 Rt len f) m0 m8 hw nr re (Qi4 nr f);have same:=QxG nr tp rk r2;rw[Qcr same]at eh;obtain⟨c23,h23⟩:∃c,cs[23]? =some c:=⟨_,Zae ⋯⟩;obtain⟨c24,h24⟩:∃c,cs[24]? =some c:=⟨_,Zae ⋯⟩;have q1:=ZI c23 (by omega:(m:Int)≠0);have q2:=ZG c23 (by omega:(0:Int)<m);obtain⟨i,ei⟩:∃i:Nat,c23 % (m:Int)=i:=⟨(c23 % (m:Int)).toNat,⋯⟩;have him:i<m:= ⋯
 have y1:=ZI c24 (by decide:(3:Int)≠0);have y2:=ZG c24 (by decide:(0:Int)<3);have bo:∀j,j<m->(up f i (f i+c24 % 3) j).natAbs<=10^18+3:=λj hj=>by
  rw[Qda];have:=bf18 i him;have:=bf18 j hj;split<;>omega
 obtain⟨o,ho⟩:∃o,o=up f i (f i+c24 % 3):=⟨_,rfl⟩;rw[← ho]at bo;have po:=hp' o λi hi=>Qir (ZO (bo i hi) (by decide));obtain⟨s,es,said⟩:=hta m R L f o m0 m8 hw (λj hj=>Zp (bf18 j hj) (by decide)) λj hj=>Zp (bo j hj) (by decide);have epa:=hpa m (Qp m (Ql R L)) f o s m0 m8 tp.bnd (λj hj=>Zp (bf18 j hj) (by decide)) (λj hj=>Zp (bo j hj) (by decide)) said;obtain⟨k0,eno,rN⟩:=hno m R L m0 m8 hw;obtain⟨kb,ekb,rB⟩:=hk m R L _ m0 m8 hw bx;have bB:=QmA tp rB.stb rB.nn;obtain⟨c2,e2,t2⟩:=hhs m R L _ _ m0 m8 hw bx bB;have paft:=Qnz nr f k;have alike:=Qn1 nr f o;generalize Qp m (Ql R L)=T at *;generalize hX:Qf m T f k=x at *;have cm2:(λj=>x j+Qf m T (λj=>0-x j) kb j)=λj=>Qf m T (λj=>0-x j) kb j+x j:=funext λj=>Int.add_comm _ _;rw[cm2]at e2 t2;have q2:=QAO tp rB rN (λj hj=>(bx j hj).1) t2 (d:=λi=>k0 i-kb i) λj _=>by
  unfold Qf;rw[Qmf];dsimp only;omega
 rw[Qcr q2]at e2;clear q2 t2 cm2;generalize Qf m T (λj=>0-x j) kb=y at *;generalize Qf m T (λ_=>0) k0=z at *;have eu:=hu m z;refine QN ?_;refine rsa (Qk (r:=⟨[.lst (ns.map .int),.int 25],false,[]⟩) rfl ecs rfl) ?_;refine rsa (Qk (r:=⟨[QA cs],true,[1]⟩) rfl en rfl) ?_;refine rsa (Qk (r:=⟨[QC m R L],true,[2]⟩) rfl et rfl) ?_;refine rsa (d:=Qb m f) (Qk (Qr (r:=⟨QA cs,true,[1]⟩) rfl (Qr (r:=reI (15:Nat)) rfl (Qr (r:=reI m) rfl (Qr (Qan (a:=9) (b:=10^17) rfl rfl (QxK (a:=10) (k:=17) (by decide) (by decide)) rfl (Qc0 (by decide))) (QK _))))) ef rfl) ?_;change Run _ [slF (.lst (ns.map .int)),slT (QA cs),slT (QC m R L),slT (Qc m m T),slT (Qb m f),none,none,none,none,none,none,none,none] _;refine run_seq (Qz (r:=⟨Qb (m-n0) (Qa4 len n0),false,[2]⟩) ((Qbh (r:=⟨[QC m R L],true,[2]⟩) rfl eri rfl).trans rfl) ?_);change Run _ [slF (.lst (ns.map .int)),slT (QA cs),slF (QC m R L),slT (Qc m m T),slT (Qb m f),slF (Qb (m-n0) (Qa4 len n0)),none,none,none,none,none,none,none] _;refine rsa (Qk (Qr (r:=reF (QC m R L)) rfl (Qr (r:=⟨Qc m m T,true,[3]⟩) rfl (Qr (Qf5 (m:=m) (f:=f) (rs:=⟨[Qb m f],true,[4]⟩) rfl rfl) (QK _)))) ek rfl) ?_;change Run _ [slF (.lst (ns.map .int)),slT (QA cs),slF (QC m R L),slT (Qc m m T),slT (Qb m f),slF (Qb (m-n0) (Qa4 len n0)),slT (Qb m x),none,none,none,none,none,none] _;refine Qx (QQ (b:=false) (Qav (a:=false) (b:=false) (Qw (b:=false) rfl rfl) (Qw (b:=false) rfl rfl)) (λh=>by cases h) (λ_=>Qt ?_));refine run_seq (Qz (r:=⟨Qb (m-n0) (QT m n0 Rt len f),false,[4]⟩) ((Qbh (r:=⟨[QC m R L,Qb m f,Qb (m-n0) (Qa4 len n0)],false,[4]⟩) rfl pf rfl).trans rfl) ?_);change Run _ [slF (.lst (ns.map .int)),slT (QA cs),slF (QC m R L),slT (Qc m m T),slF (Qb m f),slF (Qb (m-n0) (Qa4 len n0)),slT (Qb m x),slF (Qb (m-n0) (QT m n0 Rt len f)),none,none,none,none,none] _;refine Qx (QQ (b:=false) (Qav (a:=false) (b:=false) (Qw (b:=false) rfl rfl) (Qav (a:=false) (b:=false) (Qw (b:=false) (QzV (m:=m-n0) (f:=QT m n0 Rt len x) (g:=QT m n0 Rt len f) (Qbh (r:=⟨[QC m R L,Qb m x,Qb (m-n0) (Qa4 len n0)],false,[6]⟩) rfl px rfl) rfl (rb:=reF (Qb (m-n0) (QT m n0 Rt len f))) rfl rfl paft) rfl) (Qw (b:=false) (Qhz (d:=Qb m x) (Qk (r:=⟨[QC m R L,Qb (m-n0) (QT m n0 Rt len f)],false,[]⟩) rfl eh rfl) rfl (rb:=⟨Qb m x,true,[6]⟩) rfl rfl (QcY 7 _ _)) rfl))) (λh=>by cases h) (λ_=>Qt ?_));have ixc:∀(ρ:En) (n:Nat) (v:Int),ρ[1]? =some (slT (QA cs))->cs[n]? =some v->Qn (Qh 1) (dC (.int n)) ρ=some (reI v):=λρ n v h1 h2=>Qdw (ns:=cs) (i:=n) (v:=v) (QbB h1) rfl (Qgq _ _) rfl ⋯ (by simpa using h2);refine rsa (d:= .int i) ((QaZ (a:=c23) (b:=m) (ixc _ 23 c23 rfl h23) rfl (rb:=reI m) rfl rfl ⋯).trans (by rw[ei])) ?_;refine rsa (Qf5 (m:=m) (f:=f) (rs:=⟨[Qb m f],false,[]⟩) rfl rfl) ?_;refine run_seq (Qln (x:=9) (m:=m) (f:=f) (i:=(i:Int)) (v:=f i+c24 % 3) (ri:=reI i) rfl rfl rfl (Qad (a:=f i) (b:=c24 % 3) (Qae (m:=m) (f:=f) (i:=i) (ra:=⟨Qb m f,true,[9]⟩) (rb:=reI i) rfl rfl rfl rfl him) rfl (QaZ (a:=c24) (b:=3) (ixc _ 24 c24 rfl h24) rfl (Qgq _ _) rfl (by decide)) rfl) rfl ⋯ ⋯ ?_);rw[Zab,← ho];change Run _ [slF (.lst (ns.map .int)),slT (QA cs),slF (QC m R L),slT (Qc m m T),slF (Qb m f),slF (Qb (m-n0) (Qa4 len n0)),slT (Qb m x),slF (Qb (m-n0) (QT m n0 Rt len f)),slI i,slT (Qb m o),none,none,none] _;refine rsa (Qk (r:=⟨[QC m R L,Qb m f,Qb m o],false,[9]⟩) rfl es rfl) ?_;refine run_seq (Qz (r:=⟨Qb (m-n0) (QT m n0 Rt len o),false,[9]⟩) ((Qbh (r:=⟨[QC m R L,Qb m o,Qb (m-n0) (Qa4 len n0)],false,[9]⟩) rfl po rfl).trans rfl) ?_);change Run _ [slF (.lst (ns.map .int)),slT (QA cs),slF (QC m R L),slT (Qc m m T),slF (Qb m f),slF (Qb (m-n0) (Qa4 len n0)),slT (Qb m x),slF (Qb (m-n0) (QT m n0 Rt len f)),slI i,slF (Qb m o),some (s,true),slF (Qb (m-n0) (QT m n0 Rt len o)),none] _;obtain⟨e,ee,he⟩:=Qzs (fa:=Qh 11) (fb:=Qh 7) (ρ:=[slF (.lst (ns.map .int)),slT (QA cs),slF (QC m R L),slT (Qc m m T),slF (Qb m f),slF (Qb (m-n0) (Qa4 len n0)),slT (Qb m x),slF (Qb (m-n0) (QT m n0 Rt len f)),slI i,slF (Qb m o),some (s,true),slF (Qb (m-n0) (QT m n0 Rt len o)),none]) (m:=m-n0) (f:=QT m n0 Rt len o) (g:=QT m n0 Rt len f) (ra:=reF (Qb (m-n0) (QT m n0 Rt len o))) (rb:=reF (Qb (m-n0) (QT m n0 Rt len f))) rfl rfl rfl rfl;have hiff:e=true↔∃c:Nat->Int,∀r,r<m->f r-o r=Qi m λl=>c l*QaO T l r:=he.trans (⟨λh j hj=>(h j hj).symm,λh j hj=>(h j hj).symm⟩:(∀j,j<m-n0->QT m n0 Rt len o j=QT m n0 Rt len f j)↔∀j,j<m-n0->QT m n0 Rt len f j=QT m n0 Rt len o j) |>.trans alike;have last:Run (Qd (Qs 12 (Qm 1 dno [] (Qa (Qh 2) Qe))) (Qd (QH (Qgz (Qm 2 du [] (Qa (Qh 12) (Qa (Qn (Qh 2) (dC (.int 0))) Qe))) (dOp gEq (Qm 3 dhs [] (Qa (Qh 2) (Qa (Qh 6) (Qa (Qm 2 dk [] (Qa (Qh 2) (Qa (Qh 6) Qe))) Qe)))) (Qh 12)))) Qo)) [slF (.lst (ns.map .int)),slT (QA cs),slF (QC m R L),slT (Qc m m T),slF (Qb m f),slF (Qb (m-n0) (Qa4 len n0)),slT (Qb m x),slF (Qb (m-n0) (QT m n0 Rt len f)),slI i,slF (Qb m o),some (s,true),slF (Qb (m-n0) (QT m n0 Rt len o)),none] (HS.Rt λd fr=>d= .bl true/\fr=true):=by
  refine rsa (Qk (r:=⟨[QC m R L],false,[]⟩) rfl eno rfl) ?_;exact Qv (QiU (a:=true) (b:=true) (Qk (r:=⟨[Qb m z,.int m],true,[12]⟩) rfl eu rfl) (QeP (d:=Qb m z) (Qk (Qr (r:=reF (QC m R L)) rfl (Qr (r:=⟨Qb m x,true,[6]⟩) rfl (Qr (Qk (r:=⟨[QC m R L,Qb m x],false,[6]⟩) rfl ekb rfl) (QK _)))) e2 rfl) rfl (rb:=⟨Qb m z,true,[12]⟩) rfl rfl (QcY 7 _ _))) ⟨rfl,rfl⟩
 cases said with
 | @alike kk hal=>
  have:e=true:=hiff.mpr ⟨λl=>kk l,λr hr=>by
   rw[hal r hr,Qg (g:=λl=> -(kk l*T l r)) λl _=>by unfold QaO;rw[ZY,Zac],Qbu];unfold Qf;omega⟩
  subst this;refine Qx (QQ (b:=false) (Qav (a:=false) (Qw rfl rfl) (Qav (a:=false) (QaS (b:=true) (Qw (Qk rfl epa rfl) rfl)) (Qw (Qap ee (QeP rfl rfl rfl rfl QsL) rfl) rfl))) (λh=>by cases h) (λ_=>Qt last))
 | @apart w q q0 wb hd nd=>
  have:e=false:=by
   cases e with
   | false=>rfl
   | true=>
    obtain⟨c,hc'⟩:=hiff.mp rfl;refine absurd ?_ nd;have e1:(Qi m λr=>w r*(o r-f r))=Qi m λl=>c l*Qi m λr=>w r*T l r:=by
     rw[Qg (g:=λr=>Qi m λl=>c l*(w r*T l r)) λr hr=>by
      have h1:=hc' r hr;rw[Qg λl _=>by unfold QaO;rw[ZY,Zac],Qbu]at h1;rw[show o r-f r=Qi m λl=>c l*T l r by omega,← QP];exact Qg λl _=>by rw[← Zq,ZL (w r),Zq],Qbn]
     exact Qg λl _=>by rw[QP]
    rw[e1];exact QdX λl hl=>Int.dvd_trans (hd l hl) (Int.dvd_mul_left _ _)
  subst this;refine Qx (QQ (Qav (a:=false) (Qw rfl rfl) (Qav (a:=false) (QaS (b:=true) (Qw (Qk rfl epa rfl) rfl)) (Qw (Qap ee ((QoR (ra:=reT (.str "apart")) rfl rfl QwT QsL).trans (by rw[QpI])) rfl) rfl))) (λh=>by cases h) (λ_=>Qt last))
end HS
theorem HS.some_of{α:Type}{x:Option α}{d:α}(h:x.isSome=true):x=some (x.getD d):=by cases x with | none=>cases h | some a=>rfl
namespace Law
open PySem L2 HS
noncomputable section
def top(i:Nat):Stmt:=PySem.Challenge.pw_heapstill_k50_whole_wide_nets.main.body.getD i (.Pass ⟨0,0,0,0⟩)
abbrev cst:List (Str×Int):=[]
abbrev Sc(s:Stmt)(P:List Str):Prop:=QdB (namesOf (QJ s)) P (QJ s)
theorem scM{s:Stmt}{P:List Str}(h1:(QJ s).kind= .function)(h2:(QJ s).isCoroutine=false)(h3:(QJ s).isGenerator=false)(h4:(namesOf (QJ s)).Nodup/\(namesOf (QJ s)).take P.length=P/\(∀x∈P,(QJ s).names.lookup x=some .local ∨(QJ s).names.lookup x=some .cell)/\∀y∈(QJ s).names,y.2≠ .free):Sc s P:=⟨h1,h2,h3,h4.1,h4.2.1,h4.2.2.1,h4.2.2.2⟩
noncomputable abbrev Cp(s:Stmt)(Γ:List (Str×FnR)):Option DS:=Qbj 60 (Qmv s Γ cst) (Qcy s)
noncomputable abbrev Dn(s:Stmt)(g:DS):Den:=Qq (namesOf (QJ s)).length g
noncomputable abbrev Gc(x:Str)(n:Nat)(d:Den)(Γ:List (Str×FnR)):List (Str×FnR):=(x,⟨n,[],d⟩)::Γ
structure Kn (x:Str) (s:Stmt) (P:List Str) (Γ:List (Str×FnR)) (g:DS):Prop where
 a:Sc s P
 b:Qik x s P
 c:Cp s Γ=some g
theorem kn{Pr:Program}{w:World}{K:Fgg}{mg:Str->Option Value}{base h:Heap}{x:Str}{s:Stmt}{P:List Str}{k:Nat}{Γ:List (Str×FnR)}{g:DS}(X:K.In h)(G:h.Ns mainGlobals mg)(F:Fact K x s)(q:Kn x s P Γ g)(M:Qg8 mg cst)(t:Qdv Pr w K mg base k Γ):Known Pr w K mg base (k+1) x ⟨P.length,[],Dn s g⟩:=Qwv X G F q.a q.b M t q.c
abbrev Qe1:=top 6
def QkG:=(Cp Qe1 []).getD Qy
theorem QqJ:Kn "need_rows" Qe1 ["net","rows"] [] QkG:=⟨scM rfl rfl rfl (by decide+kernel),λ_ _ _ _ _ _=>lc λ_=>lc λ_=>l0 rfl,some_of (by decide+kernel)⟩
abbrev Q3:=Dn Qe1 QkG
abbrev Qhm:=Gc "need_rows" 2 Q3 []
abbrev Qeq:=top 7
def QjO:=(Cp Qeq Qhm).getD Qy
theorem QpN:Kn "need_heaps" Qeq ["net","heaps"] Qhm QjO:=⟨scM rfl rfl rfl (by decide+kernel),λ_ _ _ _ _ _=>lc λ_=>lc λ_=>l0 rfl,some_of (by decide+kernel)⟩
abbrev Qbk:=Dn Qeq QjO
abbrev Qgl:=Gc "need_heaps" 2 Qbk Qhm
abbrev Qij:=top 9
def QoQ:=(Cp Qij Qgl).getD Qy
theorem QwW:Kn "column" Qij ["table","at"] Qgl QoQ:=⟨scM rfl rfl rfl (by decide+kernel),λ_ _ _ _ _ _=>lc λ_=>lc λ_=>l0 rfl,some_of (by decide+kernel)⟩
abbrev Qbw:=Dn Qij QoQ
abbrev Qk1:=Gc "column" 2 Qbw Qgl
abbrev Qig:=top 10
def QoI:=(Cp Qig Qk1).getD Qy
theorem QwV:Kn "turned" Qig ["table"] Qk1 QoI:=⟨scM rfl rfl rfl (by decide+kernel),λ_ _ _ _ _ _=>lc λ_=>l0 rfl,some_of (by decide+kernel)⟩
abbrev Q5:=Dn Qig QoI
abbrev Qli:=Gc "turned" 1 Q5 Qk1
abbrev QfG:=top 11
def QlA:=(Cp QfG Qli).getD Qy
theorem QsJ:Kn "unit_row" QfG ["size","at"] Qli QlA:=⟨scM rfl rfl rfl (by decide+kernel),λ_ _ _ _ _ _=>lc λ_=>lc λ_=>l0 rfl,some_of (by decide+kernel)⟩
abbrev Qa3:=Dn QfG QlA
abbrev QiF:=Gc "unit_row" 2 Qa3 Qli
abbrev QeA:=top 12
def QjM:=(Cp QeA QiF).getD Qy
theorem Qpw:Kn "unit_table" QeA ["size"] QiF QjM:=⟨scM rfl rfl rfl (by decide+kernel),λ_ _ _ _ _ _=>lc λ_=>l0 rfl,some_of (by decide+kernel)⟩
abbrev Qal:=Dn QeA QjM
abbrev QgB:=Gc "unit_table" 1 Qal QiF
abbrev QfE:=top 13
def QlR:=(Cp QfE QgB).getD Qy
theorem Qsd:Kn "opposite" QfE ["line"] QgB QlR:=⟨scM rfl rfl rfl (by decide+kernel),λ_ _ _ _ _ _=>lc λ_=>l0 rfl,some_of (by decide+kernel)⟩
abbrev Qa2:=Dn QfE QlR
abbrev QiG:=Gc "opposite" 1 Qa2 QgB
abbrev Qie:=top 14
def Qqr:=(Cp Qie QiG).getD Qy
theorem QwY:Kn "scalar" Qie ["one","other"] QiG Qqr:=⟨scM rfl rfl rfl (by decide+kernel),λ_ _ _ _ _ _=>lc λ_=>lc λ_=>l0 rfl,some_of (by decide+kernel)⟩
abbrev QeY:=Dn Qie Qqr
abbrev Qk0:=Gc "scalar" 2 QeY QiG
abbrev Qg7:=top 16
def Qns:=(Cp Qg7 Qk0).getD Qy
theorem Qt9:Kn "line_by" Qg7 ["line","columns"] Qk0 Qns:=⟨scM rfl rfl rfl (by decide+kernel),λ_ _ _ _ _ _=>lc λ_=>lc λ_=>l0 rfl,some_of (by decide+kernel)⟩
abbrev Qbp:=Dn Qg7 Qns
abbrev Qje:=Gc "line_by" 2 Qbp Qk0
abbrev QgX:=top 15
def QnH:=(Cp QgX Qje).getD Qy
theorem Qta:Kn "product" QgX ["one","other"] Qje QnH:=⟨scM rfl rfl rfl (by decide+kernel),λ_ _ _ _ _ _=>lc λ_=>lc λ_=>l0 rfl,some_of (by decide+kernel)⟩
abbrev Qa8:=Dn QgX QnH
abbrev Qi3:=Gc "product" 2 Qa8 Qje
abbrev Qip:=top 17
def QpZ:=(Cp Qip Qi3).getD Qy
theorem QvO:Kn "common" Qip ["numbers"] Qi3 QpZ:=⟨scM rfl rfl rfl (by decide+kernel),λ_ _ _ _ _ _=>lc λ_=>l0 rfl,some_of (by decide+kernel)⟩
abbrev Qcg:=Dn Qip QpZ
abbrev QkX:=Gc "common" 1 Qcg Qi3
abbrev Qex:=top 19
def Qjp:=(Cp Qex QkX).getD Qy
theorem QoO:Kn "with_pivot" Qex ["lines","at"] QkX Qjp:=⟨scM rfl rfl rfl (by decide+kernel),λ_ _ _ _ _ _=>lc λ_=>lc λ_=>l0 rfl,some_of (by decide+kernel)⟩
abbrev Qcq:=Dn Qex Qjp
abbrev Qgd:=Gc "with_pivot" 2 Qcq QkX
abbrev Qe6:=top 20
def QkA:=(Cp Qe6 Qgd).getD Qy
theorem QqO:Kn "taken_off" Qe6 ["line","pivot_line","at","before"] Qgd QkA:=⟨scM rfl rfl rfl (by decide+kernel),λ_ _ _ _ _ _=>lc λ_=>lc λ_=>lc λ_=>lc λ_=>l0 rfl,some_of (by decide+kernel)⟩
abbrev QcZ:=Dn Qe6 QkA
abbrev Qhn:=Gc "taken_off" 4 QcZ Qgd
abbrev QgO:=top 18
def QnO:=(Cp QgO Qhn).getD Qy
theorem Quv:Kn "cleared" QgO ["lines"] Qhn QnO:=⟨scM rfl rfl rfl (by decide+kernel),λ_ _ _ _ _ _=>lc λ_=>l0 rfl,some_of (by decide+kernel)⟩
abbrev QbL:=Dn QgO QnO
abbrev Qjl:=Gc "cleared" 1 QbL Qhn
abbrev QgW:=top 21
def Qnv:=(Cp QgW Qjl).getD Qy
theorem QuR:Kn "measure" QgW ["table"] Qjl Qnv:=⟨scM rfl rfl rfl (by decide+kernel),λ_ _ _ _ _ _=>lc λ_=>l0 rfl,some_of (by decide+kernel)⟩
abbrev Qd9:=Dn QgW Qnv
abbrev QjC:=Gc "measure" 1 Qd9 Qjl
abbrev Qc4:=top 22
def Qg6:=(Cp Qc4 QjC).getD Qy
theorem QlO:Kn "cleared_whole" Qc4 ["lines"] QjC Qg6:=⟨scM rfl rfl rfl (by decide+kernel),λ_ _ _ _ _ _=>lc λ_=>l0 rfl,some_of (by decide+kernel)⟩
abbrev Qax:=Dn Qc4 Qg6
abbrev QeC:=Gc "cleared_whole" 1 Qax QjC
abbrev QdW:=top 23
def QiO:=(Cp QdW QeC).getD Qy
theorem Qn4:Kn "turned_back" QdW ["table"] QeC QiO:=⟨scM rfl rfl rfl (by decide+kernel),λ_ _ _ _ _ _=>lc λ_=>l0 rfl,some_of (by decide+kernel)⟩
abbrev Qb3:=Dn QdW QiO
abbrev Qfn:=Gc "turned_back" 1 Qb3 QeC
abbrev Qeo:=top 24
def Qi1:=(Cp Qeo Qfn).getD Qy
theorem Qo4:Kn "shared_out" Qeo ["table","row"] Qfn Qi1:=⟨scM rfl rfl rfl (by decide+kernel),λ_ _ _ _ _ _=>lc λ_=>lc λ_=>l0 rfl,some_of (by decide+kernel)⟩
abbrev QaL:=Dn Qeo Qi1
abbrev QgC:=Gc "shared_out" 2 QaL Qfn
abbrev Qj4:=top 26
def Qry:=(Cp Qj4 QgC).getD Qy
theorem Qzn:Kn "steps" Qj4 ["roads","lanes"] QgC Qry:=⟨scM rfl rfl rfl (by decide+kernel),λ_ _ _ _ _ _=>lc λ_=>lc λ_=>l0 rfl,some_of (by decide+kernel)⟩
abbrev Qea:=Dn Qj4 Qry
abbrev QmL:=Gc "steps" 2 Qea QgC
abbrev Qer:=top 27
def QiX:=(Cp Qer QmL).getD Qy
theorem Qp6:Kn "toll_table" Qer ["net"] QmL QiX:=⟨scM rfl rfl rfl (by decide+kernel),λ_ _ _ _ _ _=>lc λ_=>l0 rfl,some_of (by decide+kernel)⟩
abbrev Q9:=Dn Qer QiX
abbrev Qf3:=Gc "toll_table" 1 Q9 QmL
abbrev Qe7:=top 28
def QkF:=(Cp Qe7 Qf3).getD Qy
theorem QqI:Kn "span_list" Qe7 ["net"] Qf3 QkF:=⟨scM rfl rfl rfl (by decide+kernel),λ_ _ _ _ _ _=>lc λ_=>l0 rfl,some_of (by decide+kernel)⟩
abbrev QcV:=Dn Qe7 QkF
abbrev Qhe:=Gc "span_list" 1 QcV Qf3
abbrev Qj2:=top 29
def Qra:=(Cp Qj2 Qhe).getD Qy
theorem Qye:Kn "after" Qj2 ["net","row","counts"] Qhe Qra:=⟨scM rfl rfl rfl (by decide+kernel),λ_ _ _ _ _ _=>lc λ_=>lc λ_=>lc λ_=>l0 rfl,some_of (by decide+kernel)⟩
abbrev Qf1:=Dn Qj2 Qra
abbrev Qnh:=Gc "after" 3 Qf1 Qhe
abbrev Qe0:=top 31
def Qkw:=(Cp Qe0 Qnh).getD Qy
theorem QqY:Kn "net_table" Qe0 ["net"] Qnh Qkw:=⟨scM rfl rfl rfl (by decide+kernel),λ_ _ _ _ _ _=>lc λ_=>l0 rfl,some_of (by decide+kernel)⟩
abbrev QX:=Dn Qe0 Qkw
abbrev Qhq:=Gc "net_table" 1 QX Qnh
abbrev Qez:=top 32
def QjH:=(Cp Qez Qhq).getD Qy
theorem QoZ:Kn "told_alike" Qez ["net","one","other"] Qhq QjH:=⟨scM rfl rfl rfl (by decide+kernel),λ_ _ _ _ _ _=>lc λ_=>lc λ_=>lc λ_=>l0 rfl,some_of (by decide+kernel)⟩
abbrev Qbe:=Dn Qez QjH
abbrev QgJ:=Gc "told_alike" 3 Qbe Qhq
abbrev Qfb:=top 39
def QkM:=(Cp Qfb QgJ).getD Qy
theorem QqT:Kn "in_common" Qfb ["lines","number"] QgJ QkM:=⟨scM rfl rfl rfl (by decide+kernel),λ_ _ _ _ _ _=>lc λ_=>lc λ_=>l0 rfl,some_of (by decide+kernel)⟩
abbrev Qbb:=Dn Qfb QkM
abbrev Qhr:=Gc "in_common" 2 Qbb QgJ
abbrev QjU:=top 43
def Qrc:=(Cp QjU Qhr).getD Qy
theorem Qy1:Kn "added" QjU ["factor","line","other_factor","other_line"] Qhr Qrc:=⟨scM rfl rfl rfl (by decide+kernel),λ_ _ _ _ _ _=>lc λ_=>lc λ_=>lc λ_=>lc λ_=>l0 rfl,some_of (by decide+kernel)⟩
abbrev QbX:=Dn QjU Qrc
abbrev QmT:=Gc "added" 4 QbX Qhr
abbrev QgR:=top 44
def QnV:=(Cp QgR QmT).getD Qy
theorem Qut:Kn "weighed" QgR ["one","other"] QmT QnV:=⟨scM rfl rfl rfl (by decide+kernel),λ_ _ _ _ _ _=>lc λ_=>lc λ_=>l0 rfl,some_of (by decide+kernel)⟩
abbrev Qd5:=Dn QgR QnV
abbrev Qjg:=Gc "weighed" 2 Qd5 QmT
abbrev Qdl:=top 42
def Qhx:=(Cp Qdl Qjg).getD Qy
theorem QmZ:Kn "column_steps" Qdl ["free","last"] Qjg Qhx:=⟨scM rfl rfl rfl (by decide+kernel),λ_ _ _ _ _ _=>lc λ_=>lc λ_=>l0 rfl,some_of (by decide+kernel)⟩
abbrev QbQ:=Dn Qdl Qhx
abbrev QeX:=Gc "column_steps" 2 QbQ Qjg
abbrev Qim:=top 38
def Qp2:=(Cp Qim QeX).getD Qy
theorem Qwi:Kn "within" Qim ["line","length"] QeX Qp2:=⟨scM rfl rfl rfl (by decide+kernel),λ_ _ _ _ _ _=>lc λ_=>lc λ_=>l0 rfl,some_of (by decide+kernel)⟩
abbrev QcD:=Dn Qim Qp2
abbrev QkW:=Gc "within" 2 QcD QeX
abbrev Qkq:=top 41
def Qrd:=(Cp Qkq QkW).getD Qy
theorem Qyg:Kn "mixed" Qkq ["one","other","length"] QkW Qrd:=⟨scM rfl rfl rfl (by decide+kernel),λ_ _ _ _ _ _=>lc λ_=>lc λ_=>lc λ_=>l0 rfl,some_of (by decide+kernel)⟩
abbrev QfT:=Dn Qkq Qrd
abbrev QmY:=Gc "mixed" 3 QfT QkW
abbrev QdU:=top 40
def QiN:=(Cp QdU QmY).getD Qy
theorem Qoi:Kn "free_column" QdU ["lines","length"] QmY QiN:=⟨scM rfl rfl rfl (by decide+kernel),λ_ _ _ _ _ _=>lc λ_=>lc λ_=>l0 rfl,some_of (by decide+kernel)⟩
abbrev Qb2:=Dn QdU QiN
abbrev Qfk:=Gc "free_column" 2 Qb2 QmY
abbrev Qh9:=top 37
def QpR:=(Cp Qh9 Qfk).getD Qy
theorem QwI:Kn "shared" Qh9 ["line","number"] Qfk QpR:=⟨scM rfl rfl rfl (by decide+kernel),λ_ _ _ _ _ _=>lc λ_=>lc λ_=>l0 rfl,some_of (by decide+kernel)⟩
abbrev Qcd:=Dn Qh9 QpR
abbrev Qlb:=Gc "shared" 2 Qcd Qfk
abbrev Qdq:=top 35
def Qhw:=(Cp Qdq Qlb).getD Qy
theorem Qm5:Kn "right_tables" Qdq ["parts","whole"] Qlb Qhw:=⟨scM rfl rfl rfl (by decide+kernel),λ_ _ _ _ _ _=>lc λ_=>lc λ_=>l0 rfl,some_of (by decide+kernel)⟩
abbrev QbR:=Dn Qdq Qhw
abbrev QeK:=Gc "right_tables" 2 QbR Qlb
abbrev Qe2:=top 36
def QkC:=(Cp Qe2 QeK).getD Qy
theorem Qqx:Kn "by_number" Qe2 ["line","factor"] QeK QkC:=⟨scM rfl rfl rfl (by decide+kernel),λ_ _ _ _ _ _=>lc λ_=>lc λ_=>l0 rfl,some_of (by decide+kernel)⟩
abbrev QcS:=Dn Qe2 QkC
abbrev Qhl:=Gc "by_number" 2 QcS QeK
abbrev QdP:=top 34
def QiL:=(Cp QdP Qhl).getD Qy
theorem Qof:Kn "ring_tables" QdP ["table"] Qhl QiL:=⟨scM rfl rfl rfl (by decide+kernel),λ_ _ _ _ _ _=>lc λ_=>l0 rfl,some_of (by decide+kernel)⟩
abbrev QZ:=Dn QdP QiL
abbrev Qfm:=Gc "ring_tables" 1 QZ Qhl
abbrev Qg0:=top 47
def Qn3:=(Cp Qg0 Qfm).getD Qy
theorem QsY:Kn "settled" Qg0 ["tolls","heap","counts"] Qfm Qn3:=⟨scM rfl rfl rfl (by decide+kernel),λ_ _ _ _ _ _=>lc λ_=>lc λ_=>lc λ_=>l0 rfl,some_of (by decide+kernel)⟩
abbrev Qec:=Dn Qg0 Qn3
abbrev Qjc:=Gc "settled" 3 Qec Qfm
abbrev Qkk:=top 46
def Qrw:=(Cp Qkk Qjc).getD Qy
theorem QyY:Kn "still" Qkk ["net","heap"] Qjc Qrw:=⟨scM rfl rfl rfl (by decide+kernel),λ_ _ _ _ _ _=>lc λ_=>lc λ_=>l0 rfl,some_of (by decide+kernel)⟩
abbrev QcQ:=Dn Qkk Qrw
abbrev QmC:=Gc "still" 2 QcQ Qjc
abbrev QdM:=top 50
def QiK:=(Cp QdM QmC).getD Qy
theorem Qod:Kn "near_counts" QdM ["net","row"] QmC QiK:=⟨scM rfl rfl rfl (by decide+kernel),λ_ _ _ _ _ _=>lc λ_=>lc λ_=>l0 rfl,some_of (by decide+kernel)⟩
abbrev QbZ:=Dn QdM QiK
abbrev Qfq:=Gc "near_counts" 2 QbZ QmC
abbrev Qc5:=top 51
def Qg4:=(Cp Qc5 Qfq).getD Qy
theorem Qmo:Kn "doubled_spans" Qc5 ["net"] Qfq Qg4:=⟨scM rfl rfl rfl (by decide+kernel),λ_ _ _ _ _ _=>lc λ_=>l0 rfl,some_of (by decide+kernel)⟩
abbrev Qbg:=Dn Qc5 Qg4
abbrev QeD:=Gc "doubled_spans" 1 Qbg Qfq
abbrev s_again:=top 49
def Qq5:=(Cp s_again QeD).getD Qy
theorem Qy6:Kn "again" s_again ["net","row"] QeD Qq5:=⟨scM rfl rfl rfl (by decide+kernel),λ_ _ _ _ _ _=>lc λ_=>lc λ_=>l0 rfl,some_of (by decide+kernel)⟩
abbrev Qbl:=Dn s_again Qq5
abbrev Qnd:=Gc "again" 2 Qbl QeD
abbrev QfN:=top 52
def QlF:=(Cp QfN Qnd).getD Qy
theorem QsG:Kn "heap_sum" QfN ["net","one","other"] Qnd QlF:=⟨scM rfl rfl rfl (by decide+kernel),λ_ _ _ _ _ _=>lc λ_=>lc λ_=>lc λ_=>l0 rfl,some_of (by decide+kernel)⟩
abbrev Qdz:=Dn QfN QlF
abbrev Qh5:=Gc "heap_sum" 3 Qdz Qnd
abbrev Qih:=top 53
def Qpg:=(Cp Qih Qh5).getD Qy
theorem QvV:Kn "nought" Qih ["net"] Qh5 Qpg:=⟨scM rfl rfl rfl (by decide+kernel),λ_ _ _ _ _ _=>lc λ_=>l0 rfl,some_of (by decide+kernel)⟩
abbrev QeM:=Dn Qih Qpg
abbrev Qlh:=Gc "nought" 1 QeM Qh5
abbrev QfD:=top 54
def QlH:=(Cp QfD Qlh).getD Qy
theorem Qsy:Kn "contrary" QfD ["net","row"] Qlh QlH:=⟨scM rfl rfl rfl (by decide+kernel),λ_ _ _ _ _ _=>lc λ_=>lc λ_=>l0 rfl,some_of (by decide+kernel)⟩
abbrev Qdy:=Dn QfD QlH
abbrev QhY:=Gc "contrary" 2 Qdy Qlh
abbrev QfJ:=top 56
def Qlu:=(Cp QfJ QhY).getD Qy
theorem QsK:Kn "how_many" QfJ ["net"] QhY Qlu:=⟨scM rfl rfl rfl (by decide+kernel),λ_ _ _ _ _ _=>lc λ_=>l0 rfl,some_of (by decide+kernel)⟩
abbrev QdE:=Dn QfJ Qlu
abbrev Qit:=Gc "how_many" 1 QdE QhY
abbrev QcE:=top 57
def Qgh:=(Cp QcE Qit).getD Qy
theorem QkV:Kn "middle_entries" QcE ["middle"] Qit Qgh:=⟨scM rfl rfl rfl (by decide+kernel),λ_ _ _ _ _ _=>lc λ_=>l0 rfl,some_of (by decide+kernel)⟩
abbrev Q4:=Dn QcE Qgh
abbrev Qd2:=Gc "middle_entries" 1 Q4 Qit
abbrev Qdn:=top 58
def QhG:=(Cp Qdn Qd2).getD Qy
theorem Qms:Kn "ring_lengths" Qdn ["net"] Qd2 QhG:=⟨scM rfl rfl rfl (by decide+kernel),λ_ _ _ _ _ _=>lc λ_=>l0 rfl,some_of (by decide+kernel)⟩
abbrev QbN:=Dn Qdn QhG
abbrev QeQ:=Gc "ring_lengths" 1 QbN Qd2
abbrev Qeg:=top 59
def Qjy:=(Cp Qeg QeQ).getD Qy
theorem Qqm:Kn "ring_place" Qeg ["net","row"] QeQ Qjy:=⟨scM rfl rfl rfl (by decide+kernel),λ_ _ _ _ _ _=>lc λ_=>lc λ_=>l0 rfl,some_of (by decide+kernel)⟩
abbrev Qcn:=Dn Qeg Qjy
abbrev Qgm:=Gc "ring_place" 2 Qcn QeQ
abbrev QeB:=top 61
def Qju:=(Cp QeB Qgm).getD Qy
theorem QpX:Kn "need_place" QeB ["place","lengths"] Qgm Qju:=⟨scM rfl rfl rfl (by decide+kernel),λ_ _ _ _ _ _=>lc λ_=>lc λ_=>l0 rfl,some_of (by decide+kernel)⟩
abbrev Qcs:=Dn QeB Qju
abbrev Qf4:=Gc "need_place" 2 Qcs Qgm
abbrev QgU:=top 60
def Qn2:=(Cp QgU Qf4).getD Qy
theorem Quj:Kn "heap_at" QgU ["net","place"] Qf4 Qn2:=⟨scM rfl rfl rfl (by decide+kernel),λ_ _ _ _ _ _=>lc λ_=>lc λ_=>l0 rfl,some_of (by decide+kernel)⟩
abbrev Qd6:=Dn QgU Qn2
abbrev Qjq:=Gc "heap_at" 2 Qd6 Qf4
abbrev Qem:=top 63
def QjD:=(Cp Qem Qjq).getD Qy
theorem Qo9:Kn "_law_cells" Qem ["_law_script","_law_many"] Qjq QjD:=⟨scM rfl rfl rfl (by decide+kernel),λ_ _ _ _ _ _=>lc λ_=>lc λ_=>l0 rfl,some_of (by decide+kernel)⟩
abbrev Qcz:=Dn Qem QjD
abbrev Qgu:=Gc "_law_cells" 2 Qcz Qjq
abbrev Qeh:=top 64
def Qjv:=(Cp Qeh Qgu).getD Qy
theorem Qo1:Kn "_law_whole" Qeh ["_law_found"] Qgu Qjv:=⟨scM rfl rfl rfl (by decide+kernel),λ_ _ _ _ _ _=>lc λ_=>l0 rfl,some_of (by decide+kernel)⟩
abbrev QaD:=Dn Qeh Qjv
abbrev QgH:=Gc "_law_whole" 1 QaD Qgu
abbrev Qdu:=top 65
def QhB:=(Cp Qdu QgH).getD Qy
theorem QmI:Kn "_law_numbers" Qdu ["_law_found","_law_size"] QgH QhB:=⟨scM rfl rfl rfl (by decide+kernel),λ_ _ _ _ _ _=>lc λ_=>lc λ_=>l0 rfl,some_of (by decide+kernel)⟩
abbrev QR:=Dn Qdu QhB
abbrev QeR:=Gc "_law_numbers" 2 QR QgH
abbrev Qe8:=top 66
def QkI:=(Cp Qe8 QeR).getD Qy
theorem QqE:Kn "_law_base" Qe8 ["_law_cells_here","_law_many","_law_kind"] QeR QkI:=⟨scM rfl rfl rfl (by decide+kernel),λ_ _ _ _ _ _=>lc λ_=>lc λ_=>lc λ_=>l0 rfl,some_of (by decide+kernel)⟩
abbrev Qc1:=Dn Qe8 QkI
abbrev Qhg:=Gc "_law_base" 3 Qc1 QeR
abbrev Qe5:=top 67
def QkE:=(Cp Qe5 Qhg).getD Qy
theorem QqC:Kn "_law_fits" Qe5 ["_law_many","_law_ways","_law_room"] Qhg QkE:=⟨scM rfl rfl rfl (by decide+kernel),λ_ _ _ _ _ _=>lc λ_=>lc λ_=>lc λ_=>l0 rfl,some_of (by decide+kernel)⟩
abbrev QcR:=Dn Qe5 QkE
abbrev Qhp:=Gc "_law_fits" 3 QcR Qhg
abbrev Qe4:=top 68
def Qky:=(Cp Qe4 Qhp).getD Qy
theorem Qqz:Kn "_law_more" Qe4 ["_law_ways","_law_cells_here","_law_many","_law_kind","_law_room"] Qhp Qky:=⟨scM rfl rfl rfl (by decide+kernel),λ_ _ _ _ _ _=>lc λ_=>lc λ_=>lc λ_=>lc λ_=>lc λ_=>l0 rfl,some_of (by decide+kernel)⟩
abbrev QcT:=Dn Qe4 Qky
abbrev Qhk:=Gc "_law_more" 5 QcT Qhp
abbrev QfM:=top 69
def QlS:=(Cp QfM Qhk).getD Qy
theorem Qr3:Kn "_law_net" QfM ["_law_cells_here"] Qhk QlS:=⟨scM rfl rfl rfl (by decide+kernel),λ_ _ _ _ _ _=>lc λ_=>l0 rfl,some_of (by decide+kernel)⟩
abbrev QdF:=Dn QfM QlS
abbrev Qif:=Gc "_law_net" 1 QdF Qhk
abbrev Qed:=top 70
def QjL:=(Cp Qed Qif).getD Qy
theorem Qpy:Kn "_law_tolls" Qed ["_law_net_here"] Qif QjL:=⟨scM rfl rfl rfl (by decide+kernel),λ_ _ _ _ _ _=>lc λ_=>l0 rfl,some_of (by decide+kernel)⟩
abbrev Qcu:=Dn Qed QjL
abbrev QgD:=Gc "_law_tolls" 1 Qcu Qif
abbrev QdR:=top 71
def QiQ:=(Cp QdR QgD).getD Qy
theorem Qn8:Kn "_law_behind" QdR ["_law_tolls_here","_law_row_here","_law_counts"] QgD QiQ:=⟨scM rfl rfl rfl (by decide+kernel),λ_ _ _ _ _ _=>lc λ_=>lc λ_=>lc λ_=>l0 rfl,some_of (by decide+kernel)⟩
abbrev Qa1:=Dn QdR QiQ
abbrev Qft:=Gc "_law_behind" 3 Qa1 QgD
abbrev QfK:=top 72
def QlE:=(Cp QfK Qft).getD Qy
theorem Qsk:Kn "_law_row" QfK ["_law_cells_here","_law_start","_law_many","_law_far"] Qft QlE:=⟨scM rfl rfl rfl (by decide+kernel),λ_ _ _ _ _ _=>lc λ_=>lc λ_=>lc λ_=>lc λ_=>l0 rfl,some_of (by decide+kernel)⟩
abbrev QdH:=Dn QfK QlE
abbrev Qh6:=Gc "_law_row" 4 QdH Qft
abbrev Qcj:=top 73
def Qfy:=(Cp Qcj Qh6).getD Qy
theorem Qkr:Kn "_law_made_still" Qcj ["_law_tolls_here","_law_heap"] Qh6 Qfy:=⟨scM rfl rfl rfl (by decide+kernel),λ_ _ _ _ _ _=>lc λ_=>lc λ_=>l0 rfl,some_of (by decide+kernel)⟩
abbrev QaT:=Dn Qcj Qfy
abbrev QdJ:=Gc "_law_made_still" 2 QaT Qh6
abbrev Qen:=top 74
def Qjk:=(Cp Qen QdJ).getD Qy
theorem Qp9:Kn "_law_comes" Qen ["_law_tolls_here","_law_heap"] QdJ Qjk:=⟨scM rfl rfl rfl (by decide+kernel),λ_ _ _ _ _ _=>lc λ_=>lc λ_=>l0 rfl,some_of (by decide+kernel)⟩
abbrev Qcv:=Dn Qen Qjk
abbrev Qf9:=Gc "_law_comes" 2 Qcv QdJ
abbrev QdV:=top 75
def QiP:=(Cp QdV Qf9).getD Qy
theorem Qog:Kn "_law_parted" QdV ["_law_found","_law_tolls_here","_law_one","_law_other"] Qf9 QiP:=⟨scM rfl rfl rfl (by decide+kernel),λ_ _ _ _ _ _=>lc λ_=>lc λ_=>lc λ_=>lc λ_=>l0 rfl,some_of (by decide+kernel)⟩
abbrev Qb1:=Dn QdV QiP
abbrev Qfx:=Gc "_law_parted" 4 Qb1 Qf9
abbrev QdT:=top 76
def QiM:=(Cp QdT Qfx).getD Qy
theorem Qn6:Kn "_law_placed" QdT ["_law_net_here","_law_row_here","_law_lengths"] Qfx QiM:=⟨scM rfl rfl rfl (by decide+kernel),λ_ _ _ _ _ _=>lc λ_=>lc λ_=>lc λ_=>l0 rfl,some_of (by decide+kernel)⟩
abbrev Qbo:=Dn QdT QiM
abbrev Qfl:=Gc "_law_placed" 3 Qbo Qfx
abbrev Qek:=top 77
def QjA:=(Cp Qek Qfl).getD Qy
theorem QoC:Kn "_law_rings" Qek ["_law_net_here"] Qfl QjA:=⟨scM rfl rfl rfl (by decide+kernel),λ_ _ _ _ _ _=>lc λ_=>l0 rfl,some_of (by decide+kernel)⟩
abbrev Qcp:=Dn Qek QjA
abbrev Qgy:=Gc "_law_rings" 1 Qcp Qfl
abbrev Qeu:=top 78
def QiT:=(Cp Qeu Qgy).getD Qy
theorem Qqt:Kn "_law_again" Qeu ["_law_net_here","_law_tolls_here","_law_row_here"] Qgy QiT:=⟨scM rfl rfl rfl (by decide+kernel),λ_ _ _ _ _ _=>lc λ_=>lc λ_=>lc λ_=>l0 rfl,some_of (by decide+kernel)⟩
abbrev Qcx:=Dn Qeu QiT
abbrev Qi0:=Gc "_law_again" 3 Qcx Qgy
abbrev Qka:=top 79
theorem QAN:Sc Qka ["_law_script"]:=scM rfl rfl rfl (by decide+kernel)
theorem QBY:Qik "law" Qka ["_law_script"]:=λ_ _ _ _ _ _=>lc λ_=>l0 rfl
def Qxg:=(Cp Qka Qi0).getD Qy
theorem QBZ:Cp Qka Qi0=some Qxg:=some_of (by decide+kernel)
abbrev QsQ:=Dn Qka Qxg
theorem QqS:Q3=Qq 3 (HS.Qhj):=by kernel_rfl
theorem QoG:Qbk=Qq 3 (HS.Qf7 Q3):=by kernel_rfl
theorem Qve:Qbw=Qq 2 (HS.Qpt):=by kernel_rfl
theorem Qvk:Q5=Qq 1 (HS.QoL Qbw):=by kernel_rfl
theorem QsH:Qa3=Qq 2 (HS.Qma):=by kernel_rfl
theorem Qpz:Qal=Qq 1 (HS.Qjf Qa3):=by kernel_rfl
theorem QsD:Qa2=Qq 1 (HS.Qlv):=by kernel_rfl
theorem Qu1:QeY=Qq 2 (HS.QpV):=by kernel_rfl
theorem Qs9:Qbp=Qq 2 (HS.QnA QeY):=by kernel_rfl
theorem QtR:Qa8=Qq 3 (HS.QnW Q5 Qbp):=by kernel_rfl
theorem QvG:Qcg=Qq 5 (HS.Qh1):=by kernel_rfl
theorem QpC:Qcq=Qq 4 (HS.QhE Qa2):=by kernel_rfl
theorem QqG:QcZ=Qq 4 (HS.QkD):=by kernel_rfl
theorem QtA:QbL=Qq 5 (HS.Qg9 Qcq QcZ):=by kernel_rfl
theorem Qtx:Qd9=Qq 1 (HS.QnE QbL):=by kernel_rfl
theorem Qg5:Qax=Qq 2 (HS.Qey QbL):=by kernel_rfl
theorem Qok:Qb3=Qq 3 (HS.QiR Qa3 Qax):=by kernel_rfl
theorem Qo7:QaL=Qq 6 (HS.Qjm Q5 Qax Qbw Qcg):=by kernel_rfl
theorem Qxy:Qea=Qq 4 (HS.Qmq):=by kernel_rfl
theorem QpJ:Q9=Qq 5 (HS.Qge Qea):=by kernel_rfl
theorem QqL:QcV=Qq 1 (HS.Qha Q9):=by kernel_rfl
theorem Qyp:Qf1=Qq 6 (HS.Qrk Q3 Q9):=by kernel_rfl
theorem QqR:QX=Qq 1 (HS.Qku Qa2 Q9):=by kernel_rfl
theorem Qpm:Qbe=Qq 7 (HS.Qgv Q3 QX QaL Q5 Qa3):=by kernel_rfl
theorem QqA:Qbb=Qq 2 (HS.QkB Qcg):=by kernel_rfl
theorem QyR:QbX=Qq 4 (HS.Qrv):=by kernel_rfl
theorem Qtg:Qd5=Qq 5 (HS.QgZ QbX):=by kernel_rfl
theorem Qm3:QbQ=Qq 10 (HS.Qdr Qal Qd5 QbX Q5):=by kernel_rfl
theorem Qw4:QcD=Qq 2 (HS.Qpl):=by kernel_rfl
theorem QyX:QfT=Qq 5 (HS.QjW Qbb QcD):=by kernel_rfl
theorem Qn7:Qb2=Qq 4 (HS.QdS Qbw QfT):=by kernel_rfl
theorem Qwa:Qcd=Qq 2 (HS.QpP):=by kernel_rfl
theorem Qne:QbR=Qq 11 (HS.Qdk Qal Qbb Qcd QcD Qb2 QbQ Qa8):=by kernel_rfl
theorem QqD:QcS=Qq 2 (HS.Qkt):=by kernel_rfl
theorem Qoc:QZ=Qq 9 (HS.QiJ Qb3 QbR QcS Qal Qcd Qa8 Q5):=by kernel_rfl
theorem QuH:Qec=Qq 9 (HS.Qjd):=by kernel_rfl
theorem QyG:QcQ=Qq 8 (HS.QmN Qbk Q9 Qec):=by kernel_rfl
theorem Qoh:QbZ=Qq 3 (HS.QiS QX QaL):=by kernel_rfl
theorem Qly:Qbg=Qq 1 (HS.QgS QcV):=by kernel_rfl
theorem QxA:Qbl=Qq 10 (HS.QqZ Q3 QbZ Qf1 Qbg QcQ):=by kernel_rfl
theorem QrY:Qdz=Qq 3 (HS.QlY Qbk QcQ):=by kernel_rfl
theorem Qvn:QeM=Qq 1 (HS.Qqk Qbl):=by kernel_rfl
theorem Qsq:Qdy=Qq 2 (HS.Qmb Qa2 Qbl):=by kernel_rfl
theorem QsB:QdE=Qq 1 (HS.QlX QX Qd9):=by kernel_rfl
theorem QkQ:Q4=Qq 1 (HS.Qgn):=by kernel_rfl
theorem Qnm:QbN=Qq 2 (HS.Qhy QX QZ Q4):=by kernel_rfl
theorem QpS:Qcn=Qq 4 (HS.Qji Q3 QX QZ Q5 Qbp Q4):=by kernel_rfl
theorem Qqi:Qcs=Qq 4 (HS.Qew):=by kernel_rfl
theorem QtX:Qd6=Qq 5 (HS.QnF QX QZ Q4 Qcs Q5 Qbp Qbl):=by kernel_rfl
theorem Qqb:Qcz=Qq 9 (HS.Qf8):=by kernel_rfl
theorem QoH:QaD=Qq 1 (HS.QjN):=by kernel_rfl
theorem QmJ:QR=Qq 2 (HS.Qgw QaD):=by kernel_rfl
theorem QqH:Qc1=Qq 12 (HS.Qfs):=by kernel_rfl
theorem Qqw:QcR=Qq 9 (HS.Qfv):=by kernel_rfl
theorem QqV:QcT=Qq 12 (HS.Qfo QcR):=by kernel_rfl
theorem QrP:QdF=Qq 6 (HS.QeW Qc1 QcT):=by kernel_rfl
theorem QpM:Qcu=Qq 6 (HS.QhX):=by kernel_rfl
theorem Qob:Qa1=Qq 5 (HS.Qck):=by kernel_rfl
theorem Qsj:QdH=Qq 4 (HS.QhJ):=by kernel_rfl
theorem Qks:QaT=Qq 5 (HS.Qc6):=by kernel_rfl
theorem QoU:Qcv=Qq 6 (HS.QgA QaT):=by kernel_rfl
theorem Qoa:Qb1=Qq 6 (HS.QfA QR Qa1 QaD):=by kernel_rfl
theorem Qoe:Qbo=Qq 6 (HS.Qfz Qcn QR):=by kernel_rfl
theorem Qph:Qcp=Qq 5 (HS.QgF QbN QdE QR QaD):=by kernel_rfl
theorem Qqe:Qcx=Qq 5 (HS.Qgx Qbl QR Qa1 Qcv Qbe):=by kernel_rfl
theorem QBA:QsQ=Qq 13 (HS.Qnp Qcz QdF Qcu QdH Qcp Qcx Qbo Qd6 Qbe Qb1 QeM QR Qdy Qdz):=by kernel_rfl
end
end Law
namespace HS
open PySem PySem.Spec L2
noncomputable def Qv5(mg:Str->Option Value):List Str->Prop
 | []=>True
 | x::r=>mg x=none/\Qv5 mg r
theorem Qqc{mg:Str->Option Value}:∀{l:List Str},Qv5 mg l->∀x∈l,mg x=none
 | [],_,x,h=>by simp at h
 | y::r,h,x,hx=>by
  rcases Zo.mp hx with rfl | hx
  ·exact h.1
  ·exact Qqc h.2 x hx
noncomputable def Qv9(mg:Str->Option Value):List (Str×Int)->Prop
 | []=>True
 | (x,i)::r=>(∃t,mg x=some (.int i t))/\Qv9 mg r
theorem Qql{mg:Str->Option Value}:∀{l:List (Str×Int)},Qv9 mg l->∀x i,look x l=some i->∃t,mg x=some (.int i t)
 | [],_,x,i,h=>by cases h
 | (y,j)::r,h,x,i,hx=>by
  unfold look at hx;split at hx
  ·rename_i e;cases hx;subst e;exact h.1
  ·exact Qql h.2 x i hx
theorem QA0{mg:Str->Option Value}{cs:List (Str×Int)}(b:Qv5 mg Qo8)(c:Qv9 mg cs):Qg8 mg cs:=⟨Qqc b,Qql c⟩
end HS
namespace Law
open HS
theorem Qou:Qgt Q9:=by rw[QpJ,Qxy];exact Qxx
theorem QvE:QlT Qa2:=by rw[QsD];exact QAp
theorem QfX:Qgf QX:=by rw[QqR];exact QuJ QvE Qou
theorem Qm6:QgG Qbw:=by rw[Qve];exact QuF
theorem QeI:QcJ Q5:=by rw[Qvk];exact QuS Qm6
theorem Qyu:Qk5 QeY:=by rw[Qu1];exact Qux
theorem Qni:Qga Qbp:=by rw[Qs9];exact QuV Qyu
theorem Qo3:QgM Qa8:=by rw[QtR];exact Qr4 QeI Qni
theorem Qrr:Qic Qcg:=by rw[QvG];exact QtC
theorem QsF:Qjr Qa3:=by rw[QsH];exact Qx4
theorem Qpu:QhC Qal:=by rw[Qpz];exact QwX QsF
theorem QCZ:Qk6 Qcq:=by rw[QpC];exact Qti QvE
theorem QCd:Qle QcZ:=by rw[QqG];exact Qtm
theorem Qxe:QfI QbL:=by rw[QtA];exact QqP QCZ QCd
theorem QCj:Qhi Qax:=by rw[Qg5];exact QoY Qxe
theorem QAs:QfL QbL:=Qvw.g Qxe
theorem QDe:Qho Qax:=by rw[Qg5];exact Qo2 QAs
theorem hTB:QmV Qb3:=by rw[Qok];exact QwE QsF QDe
theorem QtV:QjY Qbb:=by rw[QqA];exact Qw0 Qrr
theorem QuO:Qj6 QbX:=by rw[QyR];exact QwG
theorem QAi:Qng Qd5:=by rw[Qtg];exact Qwc QuO
theorem QAz:QmK QbQ:=by rw[Qm3];exact Qwh Qpu QAi QuO QeI
theorem Qre:QiE QcD:=by rw[Qw4];exact Quc
theorem QA1:Qnf QfT:=by rw[QyX];exact Qv2 QtV Qre
theorem QCm:QoW Qb2:=by rw[Qn7];exact QxM Qm6 QA1
theorem Qq7:QhZ Qcd:=by rw[Qwa];exact QtM
theorem Qz2:Qm2 QbR:=by rw[Qne];exact Qvj Qpu QtV Qq7 Qre QCm QAz Qo3
theorem QAk:Qm8 QcS:=by rw[QqD];exact Qvv
theorem QzM:QjZ QZ:=by rw[Qoc];exact Qwr hTB Qz2 QAk Qpu Qq7 Qo3 QeI
theorem QlK:QgI Q3:=by rw[QqS];exact Qyw
theorem Qvi:Ql3 Q4:=by rw[QkQ];exact QBi
theorem QCn:QoF QZ QbN:=by rw[Qnm];exact Qzo (Qke QfX) Qvi
theorem Qzd:Qlj QZ Qcn:=by rw[QpS];exact QuQ QlK (Qke QfX) QeI Qni Qvi
theorem Qs4:QjV Qbk:=by rw[QoG];exact Qu3 QlK
theorem QvZ:Qi7 Qec:=by rw[QuH];exact QsO
theorem Qua:Qkp QcQ:=by rw[QyG];exact QvS Qs4 Qou QvZ
theorem QzC:QmU Qf1:=by rw[Qyp];exact QwA QlK Qou
theorem QAT:QpB QcV:=by rw[QqL];exact QyN Qou
theorem QuY:Qja Qbg:=by rw[Qly];exact Qr0 QAT
theorem Qxc:QgN QaL:=by rw[Qo7];exact Qss QeI QCj Qm6 Qrr
theorem QCE:QkU QaL:=Shared.small (QxB.g Qxc)
theorem QCp:QmW QbZ:=by rw[Qoh];exact Qu6 QfX Qxc
theorem Qrz:Qix Qbl:=by rw[QxA];exact Qs6 QlK QCp QzC QuY Qua
theorem Qpx:QhF Qbl:=QBN.small Qrz
theorem QyW:Qk2 Qcs:=by rw[Qqi];exact QtZ
theorem Qyy:Qll QZ Qd6:=by rw[QtX];exact QtW (Qke QfX) Qvi QyW QeI Qni Qrz
theorem QCr:Qi8 Qd9:=by rw[Qtx];exact QrT QAs
theorem QDk:QrM QdE:=by rw[QsB];exact QzY (Qke QfX) QCr
theorem QtE:Qki Qbe:=by rw[Qpm];exact Qw3 QlK QfX QCE QeI QsF
theorem QCa:QpO Qdz:=by rw[QrY];exact QxI Qs4 Qua
theorem Qyc:Qlc QeM:=by rw[Qvn];exact QuK Qpx
theorem QyB:Qk9 Qdy:=by rw[Qsq];exact Qth QvE Qpx
theorem Qo5:QhP QaD:=by rw[QoH];exact QuX
theorem QoV:Qgg QR:=by rw[QmJ];exact Qyz Qo5
theorem QAE:TabsOk Qcu:=by rw[QpM];exact Qzc
theorem QBJ:QpU QaT:=by rw[Qks];exact Qx9
theorem QA4:QjB Qcv:=by rw[QoU];exact Qr8 QBJ
theorem QzO:CellsOk Qcz:=by rw[Qqb];exact Qwx
theorem QBI:QmG Qc1:=by rw[QqH];exact QvW
theorem QCl:Qmr QcR:=by rw[Qqw];exact Qvg
theorem QBU:QmD QcT:=by rw[QqV];exact Qu5 QCl
theorem Qrn:QfO Qa1:=by rw[Qob];exact QqX
theorem QDm:QmM QdF:=by rw[QrP];exact Qwu QBI QBU
theorem QCW:Qp3 QdH:=by rw[Qsj];exact QxT
theorem QyC:Qlq Qb1:=by rw[Qoa];exact Qup QoV Qrn Qo5
theorem Qzh:QiD QZ Qbo:=by rw[Qoe];exact QqM Qzd QoV
theorem QAU:Qjw QZ Qcp:=by rw[Qph];exact Qst QCn QDk QoV Qo5
theorem hAg:QiY Qcx:=by rw[Qqe];exact QrS Qpx QoV Qrn QA4 QtE
theorem QAg(ns:List Int)(h:ns.length<=63):∃fr,QsQ [.lst (ns.map .int)]=some (.bl true,fr):=by
 rw[QBA];exact⟨true,QAh QzM QzO QDm QAE QCW QAU hAg Qzh Qyy QtE QyC Qyc QoV QyB QCa ns h⟩
end Law
namespace PySem.W.Fast
def tw18264132630589326941:=0
def tw15456285299149783813:=0
def tw612286931162648696:=0
def tw8673378153590032227:=0
def tw1744951151452099065:=0
def tw8674710812146511023:=0
def tw10871729290731963701:=0
def tw11986266165254004370:=0
def tw4793172290773665443:=0
def tw15772384985372477687:=0
def tw3918062486408459535:=0
def tw4202039166361221454:=0
def tw2897413826576138013:=0
def tw10608024174662110117:=0
def tw15358830064247792673:=0
def tw713044957684326713:=0
def tw4114234933574675535:=0
def tw5496594709087455359:=0
def tw14210609530691354826:=0
def tw11033821421269099191:=0
def tw9150066700627531289:=0
def tw1803438655995149457:=0
def tw3102039353485441669:=0
def tw7512837820549545531:=0
def tw15189708688689702019:=0
def tw17640704637678979412:=0
def tw11569034779382699908:=0
def tw93351476100467939:=0
def tw1023449547054925391:=0
def tw15168296617364199321:=0
def tw1525377066906162010:=0
def tw7529372967144290658:=0
def tw13651576037573289604:=0
def tw9380092728429963611:=0
def tw10378094742473152143:=0
def tw18208449656527693512:=0
def tw6000579423553671805:=0
def tw10246772053530119776:=0
def tw16560638437437783688:=0
def tw13399005346118170304:=0
def tw14492759962347956239:=0
def tw7793493689225376446:=0
def tw5257667831678141380:=0
def tw7915557534114319871:=0
def tw16463104357652038016:=0
def tw9639760509670370525:=0
def tw7148917850188645204:=0
def tw4032907516568599309:=0
def tw9381920124385474158:=0
def tw7652824983000867676:=0
def tw3329277007110959509:=0
def tw18011740211408574038:=0
def tw1125441391374100350:=0
def tw11965570031491011255:=0
def tw5748831164302277526:=0
def tw7862516401610184267:=0
def tw3513534295178163580:=0
def tw12617022907802729081:=0
def tw2823597278166866207:=0
def tw8884219398902858881:=0
def tw15864018803535366828:=0
def tw11955073570251534808:=0
def tw16953945000012248720:=0
def tw14940288089296793330:=0
def tw8946502582680959629:=0
def tw4472052885275353858:=0
def tw3128164627500743233:=0
def tw15513129636465763958:=0
def tw16534122959306963827:=0
def tw11424206894878289272:=0
def tw2144725800451404508:=0
def tw1228431026817453947:=0
def tw18096575717907054460:=0
def tw5082780001679636698:=0
def tw11572768412702114976:=0
def tw11842607459884343549:=0
def tw4367331895014674477:=0
def tw16483933790978093458:=0
def tw17207587451606746644:=0
def tw5422029598042328376:=0
def tw18008773254082387320:=0
def tw3324447159253271388:=0
def tw2391577288542928711:=0
def tw3409349751770886792:=0
def tw7829061214871743102:=0
def tw14330694605654613172:=0
def tw8897195360986943216:=0
def tw16474641362298585553:=0
def tw14327111121449501871:=0
def tw552859822121028469:=0
def tw3997106563326035612:=0
def tw17584603733809279182:=0
def tw15950702735009683055:=0
def tw17309168003649487295:=0
def tw10423308495031047594:=0
def tw1652638603284363062:=0
def tw16131316043394533099:=0
def tw17697991294839454056:=0
def tw17785925082430710755:=0
def tw13681078389007884892:=0
def tw8958473218554947538:=0
def tw13211447505056387654:=0
def tw8002461143962767135:=0
def tw17012505221635248936:=0
def tw7952045858538162268:=0
def tw13936003574708240528:=0
def tw18359851047606260438:=0
def tw14274417607140556944:=0
def tw13662492826435598561:=0
def tw3112894962253307846:=0
def tw13482777975413570818:=0
def tw9411513449452188885:=0
def tw16620619176932727493:=0
def tw5022734384852659853:=0
def tw8083475940370389165:=0
def tw17414275401261799796:=0
def tw13978300798000639318:=0
def tw18055950239409570247:=0
def tw16841954950664268059:=0
def tw15049602743814883017:=0
def tw11298578503623503975:=0
def tw12112845832661177370:=0
def tw8752184398404215425:=0
def tw3392615636399347180:=0
def tw15544142379200977716:=0
def tw2905703453884529333:=0
def tw7877698290586155240:=0
def tw16623455104598120113:=0
def tw782305182216416828:=0
def tw7791195096776819646:=0
def tw205592364862410348:=0
def tw11892121444545432977:=0
def tw11282211470801405965:=0
def tw10774313741216514428:=0
def tw9675326922844201032:=0
def tw5265968088015907:=0
def tw14780174876605825731:=0
def tw13668692038214301862:=0
def tw15349829594774638394:=0
def tw6355309020912252480:=0
def tw6068755016130770173:=0
def tw15173232496179094624:=0
def tw14948594382318178285:=0
def tw9014117393353436193:=0
def tw8693776121439348462:=0
def tw2548499289922589282:=0
def tw6137416404329904321:=0
def tw1099737422032871464:=0
def tw14661680918668503835:=0
def tw11467341993970625096:=0
def tw3931129627762919632:=0
def tw11748515977911730405:=0
def tw5919273201475987653:=0
def tw11641435245871991474:=0
def tw15973203719448022678:=0
def tw11406372128724433222:=0
def tw6114958083441005176:=0
def tw10014819839111827164:=0
def tw4737535020435274268:=0
def tw10469033816622925424:=0
def tw5457994292907875301:=0
def tw5431341513415015354:=0
def tw16273608608889966814:=0
def tw16967305197928144864:=0
def tw12675640253089703729:=0
def tw3912539778700936525:=0
def tw3460038813791615171:=0
def tw3357065325025462133:=0
def tw5211155440145302090:=0
def tw17969146091384886886:=0
def tw3373654560603076489:=0
def tw14298816201042541526:=0
def tw13589448818432592406:=0
end PySem.W.Fast
open PySem PySem.W PyProof.Rows HS
set_option maxRecDepth 100000 in
set_option maxHeartbeats 0 in
theorem PySem.Challenge.cw_heapstill_k50_whole_wide_nets_holds : PySem.Challenge.rw_heapstill_k50_whole_wide_nets.Holds := by
 w_on;o_law;k_head;(case hw=>w_witness2)
 k_fill
 refine HS.QvR (l:=PySem.Challenge.rw_heapstill_k50_whole_wide_nets) (k:=66) (x:= "_law_script") (den:=Law.QsQ) rfl rfl ⟨rfl,by decide,by decide⟩ (λw h Y=>PySem.W.kIn_of Y) Law.QAg ?F
 case F=>
  intro w mg fa h KX G hmg;obtain⟨f_need_rows,f_need_heaps,f_column,f_turned,f_unit_row,f_unit_table,f_opposite,f_scalar,f_line_by,f_product,f_common,f_with_pivot,f_taken_off,f_cleared,f_measure,f_cleared_whole,f_turned_back,f_shared_out,f_steps,f_toll_table,f_span_list,f_after,f_net_table,f_told_alike,f_in_common,f_added,f_weighed,f_column_steps,f_within,f_mixed,f_free_column,f_shared,f_right_tables,f_by_number,f_ring_tables,f_settled,f_still,f_near_counts,f_doubled_spans,f_again,f_heap_sum,f_nought,f_contrary,f_how_many,f_middle_entries,f_ring_lengths,f_ring_place,f_need_place,f_heap_at,f__law_cells,f__law_whole,f__law_numbers,f__law_base,f__law_fits,f__law_more,f__law_net,f__law_tolls,f__law_behind,f__law_row,f__law_made_still,f__law_comes,f__law_parted,f__law_placed,f__law_rings,f__law_again,f_law⟩:HS.Fact (L2.KOf KX) "need_rows" Law.Qe1/\HS.Fact (L2.KOf KX) "need_heaps" Law.Qeq/\HS.Fact (L2.KOf KX) "column" Law.Qij/\HS.Fact (L2.KOf KX) "turned" Law.Qig/\HS.Fact (L2.KOf KX) "unit_row" Law.QfG/\HS.Fact (L2.KOf KX) "unit_table" Law.QeA/\HS.Fact (L2.KOf KX) "opposite" Law.QfE/\HS.Fact (L2.KOf KX) "scalar" Law.Qie/\HS.Fact (L2.KOf KX) "line_by" Law.Qg7/\HS.Fact (L2.KOf KX) "product" Law.QgX/\HS.Fact (L2.KOf KX) "common" Law.Qip/\HS.Fact (L2.KOf KX) "with_pivot" Law.Qex/\HS.Fact (L2.KOf KX) "taken_off" Law.Qe6/\HS.Fact (L2.KOf KX) "cleared" Law.QgO/\HS.Fact (L2.KOf KX) "measure" Law.QgW/\HS.Fact (L2.KOf KX) "cleared_whole" Law.Qc4/\HS.Fact (L2.KOf KX) "turned_back" Law.QdW/\HS.Fact (L2.KOf KX) "shared_out" Law.Qeo/\HS.Fact (L2.KOf KX) "steps" Law.Qj4/\HS.Fact (L2.KOf KX) "toll_table" Law.Qer/\HS.Fact (L2.KOf KX) "span_list" Law.Qe7/\HS.Fact (L2.KOf KX) "after" Law.Qj2/\HS.Fact (L2.KOf KX) "net_table" Law.Qe0/\HS.Fact (L2.KOf KX) "told_alike" Law.Qez/\HS.Fact (L2.KOf KX) "in_common" Law.Qfb/\HS.Fact (L2.KOf KX) "added" Law.QjU/\HS.Fact (L2.KOf KX) "weighed" Law.QgR/\HS.Fact (L2.KOf KX) "column_steps" Law.Qdl/\HS.Fact (L2.KOf KX) "within" Law.Qim/\HS.Fact (L2.KOf KX) "mixed" Law.Qkq/\HS.Fact (L2.KOf KX) "free_column" Law.QdU/\HS.Fact (L2.KOf KX) "shared" Law.Qh9/\HS.Fact (L2.KOf KX) "right_tables" Law.Qdq/\HS.Fact (L2.KOf KX) "by_number" Law.Qe2/\HS.Fact (L2.KOf KX) "ring_tables" Law.QdP/\HS.Fact (L2.KOf KX) "settled" Law.Qg0/\HS.Fact (L2.KOf KX) "still" Law.Qkk/\HS.Fact (L2.KOf KX) "near_counts" Law.QdM/\HS.Fact (L2.KOf KX) "doubled_spans" Law.Qc5/\HS.Fact (L2.KOf KX) "again" Law.s_again/\HS.Fact (L2.KOf KX) "heap_sum" Law.QfN/\HS.Fact (L2.KOf KX) "nought" Law.Qih/\HS.Fact (L2.KOf KX) "contrary" Law.QfD/\HS.Fact (L2.KOf KX) "how_many" Law.QfJ/\HS.Fact (L2.KOf KX) "middle_entries" Law.QcE/\HS.Fact (L2.KOf KX) "ring_lengths" Law.Qdn/\HS.Fact (L2.KOf KX) "ring_place" Law.Qeg/\HS.Fact (L2.KOf KX) "need_place" Law.QeB/\HS.Fact (L2.KOf KX) "heap_at" Law.QgU/\HS.Fact (L2.KOf KX) "_law_cells" Law.Qem/\HS.Fact (L2.KOf KX) "_law_whole" Law.Qeh/\HS.Fact (L2.KOf KX) "_law_numbers" Law.Qdu/\HS.Fact (L2.KOf KX) "_law_base" Law.Qe8/\HS.Fact (L2.KOf KX) "_law_fits" Law.Qe5/\HS.Fact (L2.KOf KX) "_law_more" Law.Qe4/\HS.Fact (L2.KOf KX) "_law_net" Law.QfM/\HS.Fact (L2.KOf KX) "_law_tolls" Law.Qed/\HS.Fact (L2.KOf KX) "_law_behind" Law.QdR/\HS.Fact (L2.KOf KX) "_law_row" Law.QfK/\HS.Fact (L2.KOf KX) "_law_made_still" Law.Qcj/\HS.Fact (L2.KOf KX) "_law_comes" Law.Qen/\HS.Fact (L2.KOf KX) "_law_parted" Law.QdV/\HS.Fact (L2.KOf KX) "_law_placed" Law.QdT/\HS.Fact (L2.KOf KX) "_law_rings" Law.Qek/\HS.Fact (L2.KOf KX) "_law_again" Law.Qeu/\HS.Fact (L2.KOf KX) "law" Law.Qka:=by
   refine⟨?_,?_,?_,?_,?_,?_,?_,?_,?_,?_,?_,?_,?_,?_,?_,?_,?_,?_,?_,?_,?_,?_,?_,?_,?_,?_,?_,?_,?_,?_,?_,?_,?_,?_,?_,?_,?_,?_,?_,?_,?_,?_,?_,?_,?_,?_,?_,?_,?_,?_,?_,?_,?_,?_,?_,?_,?_,?_,?_,?_,?_,?_,?_,?_,?_,?_⟩<;>(dsimp only[L2.KOf];refine' HS.fact_mk ?a ?l ?c ?k;(case a=>k_is);(case l=>k_is);(case c=>k_is);(case k=>k_is))
  have M:HS.Qg8 mg Law.cst:=by
   obtain⟨n_range,n_enumerate,n_zip,n_len,n_list,n_min,n_max,n_sum,n_abs,n_isinstance,n_int,n_bool,n_tuple,n_str,n_divmod,n_sorted,n_any,n_all⟩:PySem.W.nsIn (L2.KOf KX) mainGlobals "range" =some none/\PySem.W.nsIn (L2.KOf KX) mainGlobals "enumerate" =some none/\PySem.W.nsIn (L2.KOf KX) mainGlobals "zip" =some none/\PySem.W.nsIn (L2.KOf KX) mainGlobals "len" =some none/\PySem.W.nsIn (L2.KOf KX) mainGlobals "list" =some none/\PySem.W.nsIn (L2.KOf KX) mainGlobals "min" =some none/\PySem.W.nsIn (L2.KOf KX) mainGlobals "max" =some none/\PySem.W.nsIn (L2.KOf KX) mainGlobals "sum" =some none/\PySem.W.nsIn (L2.KOf KX) mainGlobals "abs" =some none/\PySem.W.nsIn (L2.KOf KX) mainGlobals "isinstance" =some none/\PySem.W.nsIn (L2.KOf KX) mainGlobals "int" =some none/\PySem.W.nsIn (L2.KOf KX) mainGlobals "bool" =some none/\PySem.W.nsIn (L2.KOf KX) mainGlobals "tuple" =some none/\PySem.W.nsIn (L2.KOf KX) mainGlobals "str" =some none/\PySem.W.nsIn (L2.KOf KX) mainGlobals "divmod" =some none/\PySem.W.nsIn (L2.KOf KX) mainGlobals "sorted" =some none/\PySem.W.nsIn (L2.KOf KX) mainGlobals "any" =some none/\PySem.W.nsIn (L2.KOf KX) mainGlobals "all" =some none:=by refine⟨?_,?_,?_,?_,?_,?_,?_,?_,?_,?_,?_,?_,?_,?_,?_,?_,?_,?_⟩<;>(dsimp only[L2.KOf];k_is)
   exact HS.QA0 ⟨PySem.W.mg_none_of KX G n_range,PySem.W.mg_none_of KX G n_enumerate,PySem.W.mg_none_of KX G n_zip,PySem.W.mg_none_of KX G n_len,PySem.W.mg_none_of KX G n_list,PySem.W.mg_none_of KX G n_min,PySem.W.mg_none_of KX G n_max,PySem.W.mg_none_of KX G n_sum,PySem.W.mg_none_of KX G n_abs,PySem.W.mg_none_of KX G n_isinstance,PySem.W.mg_none_of KX G n_int,PySem.W.mg_none_of KX G n_bool,PySem.W.mg_none_of KX G n_tuple,PySem.W.mg_none_of KX G n_str,PySem.W.mg_none_of KX G n_divmod,PySem.W.mg_none_of KX G n_sorted,PySem.W.mg_none_of KX G n_any,PySem.W.mg_none_of KX G n_all,True.intro⟩ True.intro
  have t0:∀base:Heap,HS.Qdv (PySem.Challenge.rw_heapstill_k50_whole_wide_nets).prog w (L2.KOf KX) mg base 0 []:=λ_=>HS.Qdv.nil;have t_need_rows:=λb=>(t0 b).cons (Law.kn KX G f_need_rows Law.QqJ M (t0 b));have t_need_heaps:=λb=>(t_need_rows b).cons (Law.kn KX G f_need_heaps Law.QpN M (t_need_rows b));have t_column:=λb=>(t_need_heaps b).cons (Law.kn KX G f_column Law.QwW M (t_need_heaps b));have t_turned:=λb=>(t_column b).cons (Law.kn KX G f_turned Law.QwV M (t_column b));have t_unit_row:=λb=>(t_turned b).cons (Law.kn KX G f_unit_row Law.QsJ M (t_turned b));have t_unit_table:=λb=>(t_unit_row b).cons (Law.kn KX G f_unit_table Law.Qpw M (t_unit_row b));have t_opposite:=λb=>(t_unit_table b).cons (Law.kn KX G f_opposite Law.Qsd M (t_unit_table b));have t_scalar:=λb=>(t_opposite b).cons (Law.kn KX G f_scalar Law.QwY M (t_opposite b));have t_line_by:=λb=>(t_scalar b).cons (Law.kn KX G f_line_by Law.Qt9 M (t_scalar b));have t_product:=λb=>(t_line_by b).cons (Law.kn KX G f_product Law.Qta M (t_line_by b));have t_common:=λb=>(t_product b).cons (Law.kn KX G f_common Law.QvO M (t_product b));have t_with_pivot:=λb=>(t_common b).cons (Law.kn KX G f_with_pivot Law.QoO M (t_common b));have t_taken_off:=λb=>(t_with_pivot b).cons (Law.kn KX G f_taken_off Law.QqO M (t_with_pivot b));have t_cleared:=λb=>(t_taken_off b).cons (Law.kn KX G f_cleared Law.Quv M (t_taken_off b));have t_measure:=λb=>(t_cleared b).cons (Law.kn KX G f_measure Law.QuR M (t_cleared b));have t_cleared_whole:=λb=>(t_measure b).cons (Law.kn KX G f_cleared_whole Law.QlO M (t_measure b));have t_turned_back:=λb=>(t_cleared_whole b).cons (Law.kn KX G f_turned_back Law.Qn4 M (t_cleared_whole b));have t_shared_out:=λb=>(t_turned_back b).cons (Law.kn KX G f_shared_out Law.Qo4 M (t_turned_back b));have t_steps:=λb=>(t_shared_out b).cons (Law.kn KX G f_steps Law.Qzn M (t_shared_out b));have t_toll_table:=λb=>(t_steps b).cons (Law.kn KX G f_toll_table Law.Qp6 M (t_steps b));have t_span_list:=λb=>(t_toll_table b).cons (Law.kn KX G f_span_list Law.QqI M (t_toll_table b));have t_after:=λb=>(t_span_list b).cons (Law.kn KX G f_after Law.Qye M (t_span_list b));have t_net_table:=λb=>(t_after b).cons (Law.kn KX G f_net_table Law.QqY M (t_after b));have t_told_alike:=λb=>(t_net_table b).cons (Law.kn KX G f_told_alike Law.QoZ M (t_net_table b));have t_in_common:=λb=>(t_told_alike b).cons (Law.kn KX G f_in_common Law.QqT M (t_told_alike b));have t_added:=λb=>(t_in_common b).cons (Law.kn KX G f_added Law.Qy1 M (t_in_common b));have t_weighed:=λb=>(t_added b).cons (Law.kn KX G f_weighed Law.Qut M (t_added b));have t_column_steps:=λb=>(t_weighed b).cons (Law.kn KX G f_column_steps Law.QmZ M (t_weighed b));have t_within:=λb=>(t_column_steps b).cons (Law.kn KX G f_within Law.Qwi M (t_column_steps b));have t_mixed:=λb=>(t_within b).cons (Law.kn KX G f_mixed Law.Qyg M (t_within b));have t_free_column:=λb=>(t_mixed b).cons (Law.kn KX G f_free_column Law.Qoi M (t_mixed b));have t_shared:=λb=>(t_free_column b).cons (Law.kn KX G f_shared Law.QwI M (t_free_column b));have t_right_tables:=λb=>(t_shared b).cons (Law.kn KX G f_right_tables Law.Qm5 M (t_shared b));have t_by_number:=λb=>(t_right_tables b).cons (Law.kn KX G f_by_number Law.Qqx M (t_right_tables b));have t_ring_tables:=λb=>(t_by_number b).cons (Law.kn KX G f_ring_tables Law.Qof M (t_by_number b));have t_settled:=λb=>(t_ring_tables b).cons (Law.kn KX G f_settled Law.QsY M (t_ring_tables b));have t_still:=λb=>(t_settled b).cons (Law.kn KX G f_still Law.QyY M (t_settled b));have t_near_counts:=λb=>(t_still b).cons (Law.kn KX G f_near_counts Law.Qod M (t_still b));have t_doubled_spans:=λb=>(t_near_counts b).cons (Law.kn KX G f_doubled_spans Law.Qmo M (t_near_counts b));have t_again:=λb=>(t_doubled_spans b).cons (Law.kn KX G f_again Law.Qy6 M (t_doubled_spans b));have t_heap_sum:=λb=>(t_again b).cons (Law.kn KX G f_heap_sum Law.QsG M (t_again b));have t_nought:=λb=>(t_heap_sum b).cons (Law.kn KX G f_nought Law.QvV M (t_heap_sum b));have t_contrary:=λb=>(t_nought b).cons (Law.kn KX G f_contrary Law.Qsy M (t_nought b));have t_how_many:=λb=>(t_contrary b).cons (Law.kn KX G f_how_many Law.QsK M (t_contrary b));have t_middle_entries:=λb=>(t_how_many b).cons (Law.kn KX G f_middle_entries Law.QkV M (t_how_many b));have t_ring_lengths:=λb=>(t_middle_entries b).cons (Law.kn KX G f_ring_lengths Law.Qms M (t_middle_entries b));have t_ring_place:=λb=>(t_ring_lengths b).cons (Law.kn KX G f_ring_place Law.Qqm M (t_ring_lengths b));have t_need_place:=λb=>(t_ring_place b).cons (Law.kn KX G f_need_place Law.QpX M (t_ring_place b));have t_heap_at:=λb=>(t_need_place b).cons (Law.kn KX G f_heap_at Law.Quj M (t_need_place b));have t__law_cells:=λb=>(t_heap_at b).cons (Law.kn KX G f__law_cells Law.Qo9 M (t_heap_at b));have t__law_whole:=λb=>(t__law_cells b).cons (Law.kn KX G f__law_whole Law.Qo1 M (t__law_cells b));have t__law_numbers:=λb=>(t__law_whole b).cons (Law.kn KX G f__law_numbers Law.QmI M (t__law_whole b));have t__law_base:=λb=>(t__law_numbers b).cons (Law.kn KX G f__law_base Law.QqE M (t__law_numbers b));have t__law_fits:=λb=>(t__law_base b).cons (Law.kn KX G f__law_fits Law.QqC M (t__law_base b));have t__law_more:=λb=>(t__law_fits b).cons (Law.kn KX G f__law_more Law.Qqz M (t__law_fits b));have t__law_net:=λb=>(t__law_more b).cons (Law.kn KX G f__law_net Law.Qr3 M (t__law_more b));have t__law_tolls:=λb=>(t__law_net b).cons (Law.kn KX G f__law_tolls Law.Qpy M (t__law_net b));have t__law_behind:=λb=>(t__law_tolls b).cons (Law.kn KX G f__law_behind Law.Qn8 M (t__law_tolls b));have t__law_row:=λb=>(t__law_behind b).cons (Law.kn KX G f__law_row Law.Qsk M (t__law_behind b));have t__law_made_still:=λb=>(t__law_row b).cons (Law.kn KX G f__law_made_still Law.Qkr M (t__law_row b));have t__law_comes:=λb=>(t__law_made_still b).cons (Law.kn KX G f__law_comes Law.Qp9 M (t__law_made_still b));have t__law_parted:=λb=>(t__law_comes b).cons (Law.kn KX G f__law_parted Law.Qog M (t__law_comes b));have t__law_placed:=λb=>(t__law_parted b).cons (Law.kn KX G f__law_placed Law.Qn6 M (t__law_parted b));have t__law_rings:=λb=>(t__law_placed b).cons (Law.kn KX G f__law_rings Law.QoC M (t__law_placed b));have t__law_again:=λb=>(t__law_rings b).cons (Law.kn KX G f__law_again Law.Qqt M (t__law_rings b));exact HS.QCk KX G hmg f_law Law.QAN Law.QBY M (λbase=>t__law_again base) Law.QBZ
